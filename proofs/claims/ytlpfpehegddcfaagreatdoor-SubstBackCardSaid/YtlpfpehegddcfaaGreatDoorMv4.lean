import Derived.Test.YtlpfpehegddcfaaGreatDoorMv3
namespace Go.Proofs.YtlpfpehegddcfaaGreatDoor
set_option maxRecDepth 100000
set_option maxHeartbeats 64000000
open Go.RowKit
def Lx (t:Ty):Prop:=∀ (K K':Nat->Prop) (t':Ty),OrdP 104 (fun w b o=>AtT K w t b o) (fun w b o=>AtT K' w t' b o) (Bt t t')
theorem Ri (l l':List Ty) (h:∀ p∈l,Lx p) {K K':Nat->Prop} {w:World} {A A':Option Addr} {c c':Nat} (h1:ListT K w l A c) (h2:ListT K' w l' A' c') :
  Calls Tryz.prog 145 #[.slice A l.length c,.slice A' l'.length c',.func (.func 104) #[] #[]] w fun e w'=>e=.returned (.int .i64 (Bv (Bq l) (Bq l')))/\Gw w w':=by
 obtain⟨b,o,hr,hx⟩:=h1;obtain⟨b',o',hr',hx'⟩:=h2;exact U8 flat Jr (fun x w b o=>AtT K w x b o) (fun x w b o=>AtT K' w x b o) (fun _ _ _ _ _ hb h=>h.later hb) (fun _ _ _ _ _ hb h=>h.later hb) l l' (fun x hx y=>h x hx K K' y) A A' c c' w b o b' o' (fun h=>(hr.some h).1) (fun h=>(hr'.some h).1) (hr.big) (hr'.big) hx hx'
def FieldAt (K:Nat->Prop) (f:ByteArray×Int×Ty) (w:World) (b o:Nat):Prop:=w.cell? ⟨b,o,none⟩=some (.string f.1)/\w.cell? ⟨b,o+1,none⟩=some (.int .i64 f.2.1)/\AtT K w f.2.2 b (o+2)
theorem FieldAt.later {K:Nat->Prop} {f:ByteArray×Int×Ty} {w w':World} {b o:Nat} (h:FieldAt K f w b o) (hb:Below w.heap.size w w'):FieldAt K f w' b o:=⟨Aa hb h.1,Aa hb h.2.1,h.2.2.later hb⟩
def VarAt (K:Nat->Prop) (v:ByteArray×List Ty) (w:World) (b o:Nat):Prop:=∃ B d,w.cell? ⟨b,o,none⟩=some (.string v.1)/\w.cell? ⟨b,o+1,none⟩=some (.slice B v.2.length d)/\ListT K w v.2 B d
theorem VarAt.later {K:Nat->Prop} {v:ByteArray×List Ty} {w w':World} {b o:Nat} (h:VarAt K v w b o) (hb:Below w.heap.size w w'):VarAt K v w' b o:=by
 obtain⟨B,d,h1,h2,h3⟩:=h;exact⟨B,d,Aa hb h1,Aa hb h2,h3.later hb⟩
theorem Jbo (v:ByteArray×List Ty) (h:∀ b∈v.2,Lx b) (K K':Nat->Prop) (v':ByteArray×List Ty):OrdP 149 (VarAt K v) (VarAt K' v') (Bv (Tok.s v.1 :: Bq v.2) (.s v'.1 :: Bq v'.2)):=by
 refine⟨fun w b o b' o' h1 h2=>?_⟩;rw[O1];obtain⟨vn,vl⟩:=v;obtain⟨vn',vl'⟩:=v';obtain⟨B,d,a0,a1,a2⟩:=h1;obtain⟨B',d',b0,b1,b2⟩:=h2;have KL:=Hd (Ri vl vl' h (w:=w.drew.drew) (a2.later (Below.refl _ _).drew.drew) (b2.later (Below.refl _ _).drew.drew));have HS:=Hd (And.intro a1 b1);have HS1:=Hd (And.intro a0 b0);simp only at HS HS1 KL ⊢;have KC:=Hd (fun w=>Ju vn vn' w);generalize Dj vn vn'=cn at KC ⊢;generalize Bv (Bq vl) (Bq vl')=cl at KL ⊢;clear h a0 a1 a2 b0 b1 b2;go_enter Tryz.func149,Tryz.ntmps149;go_wp2_with fail;refine wp_region_held_drew (S:=(fun w'=>w'.cell? ⟨b,o,none⟩=some (.string vn)/\w'.cell? ⟨b',o',none⟩=some (.string vn'))) (by kernel_rfl) HS1.out (fun hHeld=>?_);refine Plan.start [0,1,2,3,4,5,6,7] ?_
 iterate 8 (refine Plan.tk (so rfl) hHeld ?_;try simp only[Act.put,Ax,Ay,Az])
 refine Plan.done ?_;refine wpAnyH_ready (rs:=[8]) (by kernel_rfl) (by simp) ?_;refine AllReadyH.cons (sd (some 14) rfl) (fun K hK=>?_) AllReadyH.nil;go_simp;refine (KC.out _).mono ?_;rintro e w2 ⟨rfl,rfl⟩;go_wp2_with fail;refine hK.out _ _ (HS1.out) (fun hHeld=>?_);clear hK K;try simp only[Act.put,Ax,Ay,Az]
 refine Plan.start [9] ?_;refine Plan.tk (so rfl) hHeld ?_;try simp only[Act.put,Ax,Ay,Az]
 refine Plan.done ?_;refine wpAnyH_done (by kernel_rfl) ?_ _;clear hHeld;by_cases hc:cn=0
 case neg=>
  have tc:(cn != 0)=true:=by simpa using hc
  have HC:=Hd hc;clear hc;go_wp2_with fail;go_ret
  exact⟨by rw[Dg HC.out];rfl,(Gw.refl w).drew⟩
 have tc:(cn != 0)=false:=by simpa using hc
 have HC0:=Hd hc;clear hc;go_wp2_with fail;refine wp_region_held_drew (S:=(fun w'=>w'.cell? ⟨b,o+1,none⟩=some (.slice B vl.length d)/\w'.cell? ⟨b',o'+1,none⟩=some (.slice B' vl'.length d'))) (by kernel_rfl) HS.out (fun hHeld=>?_);refine Plan.start [0,1,2,3,4,5,6,7] ?_
 iterate 8 (refine Plan.tk (so rfl) hHeld ?_;try simp only[Act.put,Ax,Ay,Az])
 refine Plan.done ?_;refine wpAnyH_ready (rs:=[8]) (by kernel_rfl) (by simp) ?_;refine AllReadyH.cons (sd (some 26) rfl) (fun K hK=>?_) AllReadyH.nil;go_simp;refine KL.out.mono ?_;rintro e w4 ⟨rfl,hb4⟩;have HB4:Hid (Gw w w4):=Hd ((Gw.refl w).drew.drew.trans hb4);have HS4:=Hd (And.intro (Aa HB4.out.below HS.out.1) (Aa HB4.out.below HS.out.2));clear hb4;go_wp2_with fail;refine hK.out _ _ (HS4.out) (fun hHeld=>?_);clear hK K;try simp only[Act.put,Ax,Ay,Az]
 refine Plan.start [9] ?_;refine Plan.tk (so rfl) hHeld ?_;try simp only[Act.put,Ax,Ay,Az]
 refine Plan.done ?_;refine wpAnyH_done (by kernel_rfl) ?_ _;clear hHeld;go_wp2_with fail;go_ret
 exact⟨by rw[HC0.out,Bj];rfl,HB4.out⟩
theorem Vv (f:ByteArray×Int×Ty) (h:Lx f.2.2) (K K':Nat->Prop) (f':ByteArray×Int×Ty):OrdP 147 (FieldAt K f) (FieldAt K' f') (Bv ([Tok.s f.1,.i f.2.1]++flat f.2.2) ([.s f'.1,.i f'.2.1]++flat f'.2.2)):=by
 refine⟨fun w b o b' o' h1 h2=>?_⟩;rw[Kp];obtain⟨fn,fi,ft⟩:=f;obtain⟨fn',fi',ft'⟩:=f';obtain⟨a0,a1,a2⟩:=h1;obtain⟨b0,b1,b2⟩:=h2;simp only at a0 a1 a2 b0 b1 b2 h ⊢;rw[<-Gx];have KA:=Hd (fun w=>Ju fn fn' w);have KB:=Hd (fun w=>Et fi fi' w);generalize Dj fn fn'=ca at KA ⊢;generalize De fi fi'=cb at KB ⊢;have HBx:Hid (Gw w (w.alloc (.cells #[.int .i64 ca,.int .i64 cb] 3)).drew):=Hd ((Gw.refl _).alloc _).drew;have KL:=Hd ((h K K' ft').ok (w.alloc (.cells #[.int .i64 ca,.int .i64 cb] 3)).drew.drew b (o+2) b' (o'+2) (a2.later HBx.out.drew.below) (b2.later HBx.out.drew.below));generalize Bt ft ft'=cl at KL ⊢;have HS1:Hid (w.drew.cell? ⟨b,o,none⟩=some (.string fn)/\w.drew.cell? ⟨b',o',none⟩=some (.string fn')/\w.drew.cell? ⟨b,o+1,none⟩=some (.int .i64 fi)/\w.drew.cell? ⟨b',o'+1,none⟩=some (.int .i64 fi')):=Hd ⟨a0,b0,a1,b1⟩;have HK3:Hid ((w.alloc (.cells #[.int .i64 ca,.int .i64 cb] 3)).drew.cell? ⟨b,o,none⟩=some (.string fn)/\(w.alloc (.cells #[.int .i64 ca,.int .i64 cb] 3)).drew.cell? ⟨b',o',none⟩=some (.string fn')/\(w.alloc (.cells #[.int .i64 ca,.int .i64 cb] 3)).drew.cell? ⟨b,o+1,none⟩=some (.int .i64 fi)/\(w.alloc (.cells #[.int .i64 ca,.int .i64 cb] 3)).drew.cell? ⟨b',o'+1,none⟩=some (.int .i64 fi')):=Hd ⟨Aa HBx.out.below a0,Aa HBx.out.below b0,Aa HBx.out.below a1,Aa HBx.out.below b1⟩;clear h a0 a1 a2 b0 b1 b2;go_enter Tryz.func147,Tryz.ntmps147;go_wp2_with fail;refine wp_region_held_drew (S:=(fun w'=>w'.cell? ⟨b,o,none⟩=some (.string fn)/\w'.cell? ⟨b',o',none⟩=some (.string fn')/\w'.cell? ⟨b,o+1,none⟩=some (.int .i64 fi)/\w'.cell? ⟨b',o'+1,none⟩=some (.int .i64 fi'))) (by kernel_rfl) HS1.out (fun hHeld=>?_);refine Plan.start [0,1,2,3,4,5,6,7,9,10,11,12,13,14,15,16] ?_
 iterate 16 (refine Plan.tk (so rfl) hHeld ?_;try simp only[Act.put,Ax,Ay,Az])
 refine Plan.done ?_;refine wpAnyH_ready (rs:=[8]) (by kernel_rfl) (by simp) ?_;refine AllReadyH.cons (sd (some 14) rfl) (fun K hK=>?_) AllReadyH.nil;go_simp;refine (KA.out _).mono ?_;rintro e w2 ⟨rfl,rfl⟩;go_wp2_with fail;refine hK.out _ _ (HS1.out) (fun hHeld=>?_);clear hK K;try simp only[Act.put,Ax,Ay,Az]
 refine wpAnyH_ready (rs:=[17]) (by kernel_rfl) (by simp) ?_;refine AllReadyH.cons (sd (some 23) rfl) (fun K hK=>?_) AllReadyH.nil;go_simp;refine (KB.out _).mono ?_;rintro e w2 ⟨rfl,rfl⟩;go_wp2_with fail;refine hK.out _ _ (HS1.out) (fun hHeld=>?_);clear hK K;try simp only[Act.put,Ax,Ay,Az]
 refine wpAnyH_ready (rs:=[18]) (by kernel_rfl) (by simp) ?_;refine AllReadyH.cons (sd (some 24) rfl) (fun K hK=>?_) AllReadyH.nil;go_simp;refine hK.out _ _ (HK3.out) (fun hHeld=>?_);clear hK K;try simp only[Act.put,Ax,Ay,Az]
 refine wpAnyH_ready (rs:=[19]) (by kernel_rfl) (by simp) ?_;refine AllReadyH.cons (sd (some 25) rfl) (fun K hK=>?_) AllReadyH.nil;go_simp;refine (Jfr _ _ _ _ (Jea w ca cb).1 (Jea w ca cb).2).mono ?_;rintro e w2 ⟨rfl,rfl⟩;go_wp2_with fail;refine hK.out _ _ (HK3.out) (fun hHeld=>?_);clear hK K;try simp only[Act.put,Ax,Ay,Az]
 refine Plan.start [20] ?_;refine Plan.tk (so rfl) hHeld ?_;try simp only[Act.put,Ax,Ay,Az]
 refine Plan.done ?_;refine wpAnyH_done (by kernel_rfl) ?_ _;clear hHeld;by_cases hc:Fe ca cb=0
 case neg=>
  have tc:(Fe ca cb != 0)=true:=by simpa using hc
  have HC:=Hd hc;clear hc;go_wp2_with fail;go_ret
  exact⟨by rw[Dg HC.out];rfl,HBx.out⟩
 have tc:(Fe ca cb != 0)=false:=by simpa using hc
 have HC0:=Hd hc;clear hc;go_wp2_with fail;refine wp_region_held_drew (S:=(fun _=>True)) (by kernel_rfl) trivial (fun hHeld=>?_);refine Plan.start [0,1,2,3,4,5] ?_
 iterate 6 (refine Plan.tk (so rfl) hHeld ?_;try simp only[Act.put,Ax,Ay,Az])
 refine Plan.done ?_;refine wpAnyH_ready (rs:=[6]) (by kernel_rfl) (by simp) ?_;refine AllReadyH.cons (sd (some 35) rfl) (fun K hK=>?_) AllReadyH.nil;go_simp;refine KL.out.mono ?_;rintro e w4 ⟨rfl,hb4⟩;have HB4:Hid (Gw w w4):=Hd (HBx.out.drew.trans hb4);clear hb4;go_wp2_with fail;refine hK.out _ _ (trivial) (fun hHeld=>?_);clear hK K;try simp only[Act.put,Ax,Ay,Az]
 refine Plan.start [7] ?_;refine Plan.tk (so rfl) hHeld ?_;try simp only[Act.put,Ax,Ay,Az]
 refine Plan.done ?_;refine wpAnyH_done (by kernel_rfl) ?_ _;clear hHeld;go_wp2_with fail;go_ret
 exact⟨by rw[HC0.out,Bj];rfl,HB4.out⟩
theorem Sk (l l':Bp) (h:∀ f∈l,Lx f.2.2) {K K':Nat->Prop} {w:World} {A A':Option Addr} {c c':Nat} (h1:ListF K w l A c) (h2:ListF K' w l' A' c') :
  Calls Tryz.prog 146 #[.slice A l.length c,.slice A' l'.length c',.func (.func 147) #[] #[]] w fun e w'=>e=.returned (.int .i64 (Bv (Du l) (Du l')))/\Gw w w':=by
 obtain⟨b,o,hr,hx⟩:=h1;obtain⟨b',o',hr',hx'⟩:=h2;exact R9 (fun f=>[.s f.1,.i f.2.1]++flat f.2.2) O4 (fun x w b o=>FieldAt K x w b o) (fun x w b o=>FieldAt K' x w b o) (fun _ _ _ _ _ hb h=>h.later hb) (fun _ _ _ _ _ hb h=>h.later hb) l l' (fun x hx y=>Vv x (h x hx) K K' y) A A' c c' w b o b' o' (fun h=>(hr.some h).1) (fun h=>(hr'.some h).1) (hr.big) (hr'.big) (fun i hi=>⟨(hx i hi).1,(hx i hi).2.1,(hx i hi).2.2.2⟩) (fun i hi=>⟨(hx' i hi).1,(hx' i hi).2.1,(hx' i hi).2.2.2⟩)
theorem Jbn (l l':Bm) (h:∀ v∈l,∀ b∈v.2,Lx b) {K K':Nat->Prop} {w:World} {A A':Option Addr} {c c':Nat} (h1:ListV K w l A c) (h2:ListV K' w l' A' c') :
  Calls Tryz.prog 148 #[.slice A l.length c,.slice A' l'.length c',.func (.func 149) #[] #[]] w fun e w'=>e=.returned (.int .i64 (Bv (Dv l) (Dv l')))/\Gw w w':=by
 obtain⟨b,o,hr,hx⟩:=h1;obtain⟨b',o',hr',hx'⟩:=h2;exact Xr (fun v=>.s v.1 :: Bq v.2) O6 (fun x w b o=>VarAt K x w b o) (fun x w b o=>VarAt K' x w b o) (fun _ _ _ _ _ hb h=>h.later hb) (fun _ _ _ _ _ hb h=>h.later hb) l l' (fun x hx y=>Jbo x (h x hx) K K' y) A A' c c' w b o b' o' (fun h=>(hr.some h).1) (fun h=>(hr'.some h).1) (hr.big) (hr'.big)
  (fun i hi=>by obtain⟨B,d,x0,x1,_,x3⟩:=hx i hi;exact⟨B,d,x0,x1,x3⟩) (fun i hi=>by obtain⟨B,d,x0,x1,_,x3⟩:=hx' i hi;exact⟨B,d,x0,x1,x3⟩)
theorem Ta (k:Int) (t:ByteArray) (n:Int) (ps:List Ty) (fs:Bp) (vs:Bm) (hp:∀ p∈ps,Lx p) (hf:∀ f∈fs,Lx f.2.2) (hv:∀ v∈vs,∀ b∈v.2,Lx b):Lx (.mk k t n ps fs vs):=by
 intro K K' tt;obtain⟨k',t',n',ps2,fs2,vs2⟩:=tt;refine⟨fun w b o b' o' h h'=>?_⟩;obtain⟨A,c,A2,c2,A3,c3,⟨x0,x1,x2,x3,x4,x5⟩,_,hP,hF,hV⟩:=h.six;obtain⟨B,d,B2,d2,B3,d3,⟨y0,y1,y2,y3,y4,y5⟩,_,hP2,hF2,hV2⟩:=h'.six;rw[Oq,<-Gx (Dj t t') _ _,<-Gx (De k k') _ _,<-Gx (De k k') _ _];have KA:=Hd (fun w=>Et k k' w);have KB:=Hd (fun w=>Ju t t' w);have KC:=Hd (fun w=>Vr n n' w);have KP:=Hd (fun w' (hb:Below w.heap.size w w')=>Ri ps ps2 hp (hP.later hb) (hP2.later hb));have KF:=Hd (fun w' (hb:Below w.heap.size w w')=>Sk fs fs2 hf (hF.later hb) (hF2.later hb));have KV:=Hd (fun w' (hb:Below w.heap.size w w')=>Jbn vs vs2 hv (hV.later hb) (hV2.later hb));generalize De k k'=ca at KA ⊢;generalize Dj t t'=cb at KB ⊢;generalize De n n'=cc at KC ⊢;generalize Bv (Bq ps) (Bq ps2)=cp at KP ⊢;generalize Bv (Du fs) (Du fs2)=cf at KF ⊢;generalize Bv (Dv vs) (Dv vs2)=cv at KV ⊢;rw[Gx ca cb cc];have HBx:Hid (Gw w (w.alloc (.cells #[.int .i64 ca,.int .i64 cb,.int .i64 cc] 3)).drew):=Hd ((Gw.refl _).alloc _).drew;have HS1:Hid ((w.drew).cell? ⟨b,o,none⟩=some (.int .i64 k)/\(w.drew).cell? ⟨b',o',none⟩=some (.int .i64 k')/\(w.drew).cell? ⟨b,o+1,none⟩=some (.string t)/\(w.drew).cell? ⟨b',o'+1,none⟩=some (.string t')/\(w.drew).cell? ⟨b,o+2,none⟩=some (.int .i64 n)/\(w.drew).cell? ⟨b',o'+2,none⟩=some (.int .i64 n')):=Hd ⟨x0,y0,x1,y1,x2,y2⟩;have HK3:Hid (((w.alloc (.cells #[.int .i64 ca,.int .i64 cb,.int .i64 cc] 3)).drew).cell? ⟨b,o,none⟩=some (.int .i64 k)/\((w.alloc (.cells #[.int .i64 ca,.int .i64 cb,.int .i64 cc] 3)).drew).cell? ⟨b',o',none⟩=some (.int .i64 k')/\((w.alloc (.cells #[.int .i64 ca,.int .i64 cb,.int .i64 cc] 3)).drew).cell? ⟨b,o+1,none⟩=some (.string t)/\((w.alloc (.cells #[.int .i64 ca,.int .i64 cb,.int .i64 cc] 3)).drew).cell? ⟨b',o'+1,none⟩=some (.string t')/\((w.alloc (.cells #[.int .i64 ca,.int .i64 cb,.int .i64 cc] 3)).drew).cell? ⟨b,o+2,none⟩=some (.int .i64 n)/\((w.alloc (.cells #[.int .i64 ca,.int .i64 cb,.int .i64 cc] 3)).drew).cell? ⟨b',o'+2,none⟩=some (.int .i64 n')):=Hd ⟨Aa HBx.out.below x0,Aa HBx.out.below y0,Aa HBx.out.below x1,Aa HBx.out.below y1,Aa HBx.out.below x2,Aa HBx.out.below y2⟩;have HSo:Hid (∀ w',Below w.heap.size w w'->(w'.cell? ⟨b,o+3,none⟩=some (.slice A ps.length c)/\w'.cell? ⟨b',o'+3,none⟩=some (.slice B ps2.length d))/\(w'.cell? ⟨b,o+4,none⟩=some (.slice A2 fs.length c2)/\w'.cell? ⟨b',o'+4,none⟩=some (.slice B2 fs2.length d2))/\w'.cell? ⟨b,o+5,none⟩=some (.slice A3 vs.length c3)/\w'.cell? ⟨b',o'+5,none⟩=some (.slice B3 vs2.length d3)):=Hd fun w' hb=>⟨⟨Aa hb x3,Aa hb y3⟩,⟨Aa hb x4,Aa hb y4⟩,Aa hb x5,Aa hb y5⟩;clear hp hf hv h h' x0 x1 x2 x3 x4 x5 y0 y1 y2 y3 y4 y5 hP hF hV hP2 hF2 hV2;go_enter Tryz.func104,Tryz.ntmps104;go_wp2_with fail;refine wp_region_held_drew (S:=(fun w'=>w'.cell? ⟨b,o,none⟩=some (.int .i64 k)/\w'.cell? ⟨b',o',none⟩=some (.int .i64 k')/\w'.cell? ⟨b,o+1,none⟩=some (.string t)/\w'.cell? ⟨b',o'+1,none⟩=some (.string t')/\w'.cell? ⟨b,o+2,none⟩=some (.int .i64 n)/\w'.cell? ⟨b',o'+2,none⟩=some (.int .i64 n'))) (by kernel_rfl) HS1.out (fun hHeld=>?_);refine Plan.start [0,1,2,3,4,5,6,7,9,10,11,12,13,14,15,16,18,19,20,21,22,23,24,25] ?_
 iterate 24 (refine Plan.tk (so rfl) hHeld ?_;try simp only[Act.put,Ax,Ay,Az])
 refine Plan.done ?_;refine wpAnyH_ready (rs:=[8]) (by kernel_rfl) (by simp) ?_;refine AllReadyH.cons (sd (some 16) rfl) (fun K hK=>?_) AllReadyH.nil;go_simp;refine (KA.out _).mono ?_;rintro e w2 ⟨rfl,rfl⟩;go_wp2_with fail;refine hK.out _ _ (HS1.out) (fun hHeld=>?_);clear hK K;try simp only[Act.put,Ax,Ay,Az]
 refine wpAnyH_ready (rs:=[17]) (by kernel_rfl) (by simp) ?_;refine AllReadyH.cons (sd (some 25) rfl) (fun K hK=>?_) AllReadyH.nil;go_simp;refine (KB.out _).mono ?_;rintro e w2 ⟨rfl,rfl⟩;go_wp2_with fail;refine hK.out _ _ (HS1.out) (fun hHeld=>?_);clear hK K;try simp only[Act.put,Ax,Ay,Az]
 refine wpAnyH_ready (rs:=[26]) (by kernel_rfl) (by simp) ?_;refine AllReadyH.cons (sd (some 34) rfl) (fun K hK=>?_) AllReadyH.nil;go_simp;refine (KC.out _).mono ?_;rintro e w2 ⟨rfl,rfl⟩;go_wp2_with fail;refine hK.out _ _ (HS1.out) (fun hHeld=>?_);clear hK K;try simp only[Act.put,Ax,Ay,Az]
 refine wpAnyH_ready (rs:=[27]) (by kernel_rfl) (by simp) ?_;refine AllReadyH.cons (sd (some 35) rfl) (fun K hK=>?_) AllReadyH.nil;go_simp;refine hK.out _ _ (HK3.out) (fun hHeld=>?_);clear hK K;try simp only[Act.put,Ax,Ay,Az]
 refine wpAnyH_ready (rs:=[28]) (by kernel_rfl) (by simp) ?_;refine AllReadyH.cons (sd (some 36) rfl) (fun K hK=>?_) AllReadyH.nil;go_simp;refine (Jfs _ _ _ _ _ (Xx w ca cb cc).1 (Xx w ca cb cc).2.1 (Xx w ca cb cc).2.2).mono ?_;rintro e w2 ⟨rfl,rfl⟩;go_wp2_with fail;refine hK.out _ _ (HK3.out) (fun hHeld=>?_);clear hK K;try simp only[Act.put,Ax,Ay,Az]
 refine Plan.start [29] ?_;refine Plan.tk (so rfl) hHeld ?_;try simp only[Act.put,Ax,Ay,Az]
 refine Plan.done ?_;refine wpAnyH_done (by kernel_rfl) ?_ _;clear hHeld;by_cases hc:Fe ca (Fe cb cc)=0
 case neg=>
  have tc:(Fe ca (Fe cb cc) != 0)=true:=by simpa using hc
  have HC:=Hd hc;clear hc;go_wp2_with fail;go_ret
  exact⟨by rw[Dg HC.out];rfl,HBx.out⟩
 have tc:(Fe ca (Fe cb cc) != 0)=false:=by simpa using hc
 have H0:=Hd hc;clear hc;go_wp2_with fail;refine wp_region_held_drew (S:=(fun w'=>w'.cell? ⟨b,o+3,none⟩=some (.slice A ps.length c)/\w'.cell? ⟨b',o'+3,none⟩=some (.slice B ps2.length d))) (by kernel_rfl) (HSo.out _ HBx.out.drew.below |> fun h=>⟨h.1.1,h.1.2⟩) (fun hHeld=>?_);refine Plan.start [0,1,2,3,4,5,6,7] ?_
 iterate 8 (refine Plan.tk (so rfl) hHeld ?_;try simp only[Act.put,Ax,Ay,Az])
 refine Plan.done ?_;refine wpAnyH_ready (rs:=[8]) (by kernel_rfl) (by simp) ?_;refine AllReadyH.cons (sd (some 48) rfl) (fun K hK=>?_) AllReadyH.nil;go_simp;refine (KP.out _ HBx.out.drew.below).mono ?_;rintro e w4 ⟨rfl,hb4⟩;have HB4:Hid (Gw w w4):=Hd (HBx.out.drew.trans hb4);clear hb4;go_wp2_with fail;refine hK.out _ _ ((HSo.out _ HB4.out.below |> fun h=>⟨h.1.1,h.1.2⟩)) (fun hHeld=>?_);clear hK K;try simp only[Act.put,Ax,Ay,Az]
 refine Plan.start [9] ?_;refine Plan.tk (so rfl) hHeld ?_;try simp only[Act.put,Ax,Ay,Az]
 refine Plan.done ?_;refine wpAnyH_done (by kernel_rfl) ?_ _;clear hHeld;by_cases hc:cp=0
 case neg=>
  have tc:(cp != 0)=true:=by simpa using hc
  have HC:=Hd hc;clear hc;go_wp2_with fail;go_ret
  exact⟨by rw[H0.out,Bj,Dg HC.out];rfl,HB4.out⟩
 have tc:(cp != 0)=false:=by simpa using hc
 have H1:=Hd hc;clear hc;go_wp2_with fail;refine wp_region_held_drew (S:=(fun w'=>w'.cell? ⟨b,o+4,none⟩=some (.slice A2 fs.length c2)/\w'.cell? ⟨b',o'+4,none⟩=some (.slice B2 fs2.length d2))) (by kernel_rfl) (HSo.out _ HB4.out.drew.below |> fun h=>⟨h.2.1.1,h.2.1.2⟩) (fun hHeld=>?_);refine Plan.start [0,1,2,3,4,5,6,7] ?_
 iterate 8 (refine Plan.tk (so rfl) hHeld ?_;try simp only[Act.put,Ax,Ay,Az])
 refine Plan.done ?_;refine wpAnyH_ready (rs:=[8]) (by kernel_rfl) (by simp) ?_;refine AllReadyH.cons (sd (some 60) rfl) (fun K hK=>?_) AllReadyH.nil;go_simp;refine (KF.out _ HB4.out.drew.below).mono ?_;rintro e w5 ⟨rfl,hb4⟩;have HB5:Hid (Gw w w5):=Hd (HB4.out.drew.trans hb4);clear hb4;go_wp2_with fail;refine hK.out _ _ ((HSo.out _ HB5.out.below |> fun h=>⟨h.2.1.1,h.2.1.2⟩)) (fun hHeld=>?_);clear hK K;try simp only[Act.put,Ax,Ay,Az]
 refine Plan.start [9] ?_;refine Plan.tk (so rfl) hHeld ?_;try simp only[Act.put,Ax,Ay,Az]
 refine Plan.done ?_;refine wpAnyH_done (by kernel_rfl) ?_ _;clear hHeld;by_cases hc:cf=0
 case neg=>
  have tc:(cf != 0)=true:=by simpa using hc
  have HC:=Hd hc;clear hc;go_wp2_with fail;go_ret
  exact⟨by rw[H0.out,Bj,H1.out,Bj,Dg HC.out];rfl,HB5.out⟩
 have tc:(cf != 0)=false:=by simpa using hc
 have H2:=Hd hc;clear hc;go_wp2_with fail;refine wp_region_held_drew (S:=(fun w'=>w'.cell? ⟨b,o+5,none⟩=some (.slice A3 vs.length c3)/\w'.cell? ⟨b',o'+5,none⟩=some (.slice B3 vs2.length d3))) (by kernel_rfl) (HSo.out _ HB5.out.drew.below |> fun h=>⟨h.2.2.1,h.2.2.2⟩) (fun hHeld=>?_);refine Plan.start [0,1,2,3,4,5,6,7] ?_
 iterate 8 (refine Plan.tk (so rfl) hHeld ?_;try simp only[Act.put,Ax,Ay,Az])
 refine Plan.done ?_;refine wpAnyH_ready (rs:=[8]) (by kernel_rfl) (by simp) ?_;refine AllReadyH.cons (sd (some 72) rfl) (fun K hK=>?_) AllReadyH.nil;go_simp;refine (KV.out _ HB5.out.drew.below).mono ?_;rintro e w6 ⟨rfl,hb4⟩;have HB6:Hid (Gw w w6):=Hd (HB5.out.drew.trans hb4);clear hb4;go_wp2_with fail;refine hK.out _ _ ((HSo.out _ HB6.out.below |> fun h=>⟨h.2.2.1,h.2.2.2⟩)) (fun hHeld=>?_);clear hK K;try simp only[Act.put,Ax,Ay,Az]
 refine Plan.start [9] ?_;refine Plan.tk (so rfl) hHeld ?_;try simp only[Act.put,Ax,Ay,Az]
 refine Plan.done ?_;refine wpAnyH_done (by kernel_rfl) ?_ _;clear hHeld;go_wp2_with fail;go_ret
 exact⟨by rw[H0.out,Bj,H1.out,Bj,H2.out,Bj];rfl,HB6.out⟩
theorem J6 (t:Ty):Lx t:=Ty.ind (C:=Lx) (fun k t n ps fs vs hp hf hv=>Ta k t n ps fs vs hp hf hv) t
theorem U6 {K K':Nat->Prop} {w:World} {t t':Ty} {cs cs':List Value} (h:RepT K w t cs) (h':RepT K' w t' cs') :
  Calls Tryz.prog 101 #[.agg cs.toArray,.agg cs'.toArray] w fun e w'=>e=.returned (.int .i64 (Bt t t'))/\Gw w w':=by
 have hb1:Gw w (w.alloc (.cells cs.toArray 26)):=(Gw.refl w).alloc _;have hb2:Gw w ((w.alloc (.cells cs.toArray 26)).alloc (.cells cs'.toArray 26)):=hb1.alloc _;have a1:AtT K ((w.alloc (.cells cs.toArray 26)).alloc (.cells cs'.toArray 26)) t w.heap.size 0:=(AtT.box _ h).later ((Below.refl _ _).alloc (Nat.le_refl _) _);have a2:AtT K' ((w.alloc (.cells cs.toArray 26)).alloc (.cells cs'.toArray 26)) t' (w.heap.size+1) 0:=by
  have:=AtT.box (w:=w.alloc (.cells cs.toArray 26)) 26 (h'.later hb1.below);rw[World.size_alloc] at this;exact this
 have KO:=Hd ((J6 t K K' t').ok _ _ _ _ _ a1 a2);have HB:=Hd hb2;obtain⟨k,s,n,ps,fs,vs⟩:=t;obtain⟨k',s',n',ps',fs',vs'⟩:=t';obtain⟨A,c,A',c',A'',c'',rfl,_⟩:=h.inv;obtain⟨B,d,B',d',B'',d'',rfl,_⟩:=h'.inv;clear a1 a2 hb1 hb2 h h';generalize Bt (.mk k s n ps fs vs) (.mk k' s' n' ps' fs' vs')=r at KO ⊢;simp only[Ar] at KO HB ⊢;go_enter Tryz.func101,Tryz.ntmps101;go_wp2_with fail;refine KO.out.mono ?_;rintro e w1 ⟨rfl,hb⟩;have HB1:=Hd (HB.out.trans hb);clear hb;go_wp2_with fail;go_ret
 exact⟨rfl,HB1.out⟩
def Ai:Ty->Nat
 | .mk _ _ _ ps fs vs=>1+((ps.attach.map fun ⟨p,_⟩=>Ai p).sum+((fs.attach.map fun ⟨f,_⟩=>Ai f.2.2).sum+(vs.attach.map fun ⟨v,_⟩=>(v.2.attach.map fun ⟨b,_⟩=>Ai b).sum).sum))
termination_by t=>SizeOf.sizeOf t
decreasing_by
 ·exact Dt ‹_›
 ·exact Ec ‹_›
 ·exact E5 ‹_› ‹_›
def An (l:List Ty):Nat:=(l.map Ai).sum
def Bd (l:Bp):Nat:=(l.map fun f=>Ai f.2.2).sum
def Be (l:Bm):Nat:=(l.map fun v=>An v.2).sum
theorem Br (k t n ps fs vs):Ai (.mk k t n ps fs vs)=1+(An ps+(Bd fs+Be vs)):=by
 rw[Ai];unfold An Bd Be An;simp only[List.map_attach_eq_pmap,List.pmap_eq_map]
def Cg (n:Nat):Nat:=min n 4097
def Told (n S:Nat):Prop:=Cg n=Cg S/\n<=8193
theorem Told.more {n S x:Nat} (h:Told n S) (hn:n<=4096):Told (n+Cg x) (S+x):=by
 unfold Told Cg at *;omega
theorem Told.full {n S x:Nat} (h:Told n S) (hn:¬ n<=4096):Told n (S+x):=by
 unfold Told Cg at *;omega
theorem Nc {α:Type} {l:List α} {i:Nat} (h:i<l.length):l.take (i+1)=l.take i++[l[i]]:=by
 rw[List.take_add_one,List.getElem?_eq_getElem h];rfl
theorem Vl {l:List Ty} {i:Nat} (h:i<l.length):An (l.take (i+1))=An (l.take i)+Ai l[i]:=by
 unfold An;rw[Nc h,List.map_append,List.sum_append];simp only[List.map_cons,List.map_nil,List.sum_cons,List.sum_nil,Nat.add_zero]
theorem Vg {l:Bp} {i:Nat} (h:i<l.length):Bd (l.take (i+1))=Bd (l.take i)+Ai l[i].2.2:=by
 unfold Bd;rw[Nc h,List.map_append,List.sum_append];simp only[List.map_cons,List.map_nil,List.sum_cons,List.sum_nil,Nat.add_zero]
theorem Vn {l:Bm} {i:Nat} (h:i<l.length):Be (l.take (i+1))=Be (l.take i)+An l[i].2:=by
 unfold Be;rw[Nc h,List.map_append,List.sum_append];simp only[List.map_cons,List.map_nil,List.sum_cons,List.sum_nil,Nat.add_zero]
theorem Ga (l:List Ty) (i:Nat):∃ x,An l=An (l.take i)+x:=⟨An (l.drop i),by unfold An;rw[<-List.sum_append,<-List.map_append,List.take_append_drop]⟩
theorem L9 (l:Bp) (i:Nat):∃ x,Bd l=Bd (l.take i)+x:=⟨Bd (l.drop i),by unfold Bd;rw[<-List.sum_append,<-List.map_append,List.take_append_drop]⟩
theorem G9 (l:Bm) (i:Nat):∃ x,Be l=Be (l.take i)+x:=⟨Be (l.drop i),by unfold Be;rw[<-List.sum_append,<-List.map_append,List.take_append_drop]⟩
end Go.Proofs.YtlpfpehegddcfaaGreatDoor

import Derived.Test.YtlpfpehegddcfaaGreatDoorMv12
import Derived.Lib.SlicesCompact
namespace Go.Proofs.YtlpfpehegddcfaaGreatDoor
set_option maxRecDepth 100000
set_option maxHeartbeats 64000000
open Go.RowKit
theorem Ub {K K':Nat->Prop} {w:World} {t t':Ty} {cs cs':List Value} (h:RepT K w t cs) (h':RepT K' w t' cs') :
  Calls Tryz.prog 103 #[.agg cs.toArray,.agg cs'.toArray] w fun e w'=>e=.returned (.bool (Bt t t' == 0))/\Gw w w':=by
 have hb1:Gw w (w.alloc (.cells cs.toArray 26)):=(Gw.refl w).alloc _;have hb2:Gw w ((w.alloc (.cells cs.toArray 26)).alloc (.cells cs'.toArray 26)):=hb1.alloc _;have a1:AtT K ((w.alloc (.cells cs.toArray 26)).alloc (.cells cs'.toArray 26)) t w.heap.size 0:=(AtT.box _ h).later ((Below.refl _ _).alloc (Nat.le_refl _) _);have a2:AtT K' ((w.alloc (.cells cs.toArray 26)).alloc (.cells cs'.toArray 26)) t' (w.heap.size+1) 0:=by
  have:=AtT.box (w:=w.alloc (.cells cs.toArray 26)) 26 (h'.later hb1.below);rw[World.size_alloc] at this;exact this
 have KO:=Hd ((J6 t K K' t').ok _ _ _ _ _ a1 a2);have HB:=Hd hb2;obtain⟨k,s,n,ps,fs,vs⟩:=t;obtain⟨k',s',n',ps',fs',vs'⟩:=t';obtain⟨A,c,A',c',A'',c'',rfl,_⟩:=h.inv;obtain⟨B,d,B',d',B'',d'',rfl,_⟩:=h'.inv;clear a1 a2 hb1 hb2 h h';generalize Bt (.mk k s n ps fs vs) (.mk k' s' n' ps' fs' vs')=r at KO ⊢;simp only[Ar] at KO HB ⊢;go_enter Tryz.func103,Tryz.ntmps103;go_wp2_with fail;refine KO.out.mono ?_;rintro e w1 ⟨rfl,hb⟩;have HB1:=Hd (HB.out.trans hb);clear hb;go_wp2_with fail;go_ret
 exact⟨rfl,HB1.out⟩
theorem X7:Jd3:=by
 intro w;go_enter Tryz.func102,Tryz.ntmps102;go_wp2_with fail;go_ret
 exact⟨rfl,Below.refl _ _⟩
theorem Sf {K:Nat->Prop} {w0 w:World} {g c:Nat} {s:List Ty} (h:InT K w0 w g c s) (hb:Below w0.heap.size w0 w) (hs:s.length<2) :
  Calls Tryz.prog 102 #[.slice (some ⟨g,0,none⟩) s.length c,.func (.func 103) #[] #[]] w fun e w'=>e=.returned (.slice (some ⟨g,0,none⟩) (Bw s).length c)/\Below w0.heap.size w0 w'/\InT K w0 w' g c (Bw s):=by
 have hd:Bw s=s:=by
  match s,hs with
  | [],_=>rfl
  | [_],_=>rfl
  | _ :: _ :: _,hs=>exact absurd hs (by simp)
 rw[hd];have H:=Hd (And.intro h hb);clear h hb hd;have t2:decide ((s.length:Int)<2)=true:=by simp;omega
 go_enter Tryz.func102,Tryz.ntmps102;go_wp2_with fail;go_ret
 exact⟨rfl,H.out.2,H.out.1⟩
theorem Fk (a b:Ty) (l:List Ty):Bw (a :: b :: l)=if Bt a b=0 then Bw (b :: l) else a :: Bw (b :: l):=by rw[Bw]
theorem It (a b:Ty):∀ l:List Ty,Bw (l++[a,b])=if Bt a b=0 then Bw (l++[a]) else Bw (l++[a])++[b]
 | []=>by
  simp only[List.nil_append];rw[Fk];by_cases h:Bt a b=0
  ·rw[if_pos h,if_pos h,Di.1 h]
  ·rw[if_neg h,if_neg h];rfl
 | [x]=>by
  show Bw (x :: a :: [b])=if Bt a b=0 then Bw [x,a] else Bw [x,a]++[b]
  have ih:=It a b [];simp only[List.nil_append] at ih;rw[Fk,ih,Fk];by_cases h1:Bt a b=0
  ·simp only[if_pos h1]
  ·simp only[if_neg h1]
   split <;> rfl
 | x :: y :: l=>by
  have ih:=It a b (y :: l);show Bw (x :: y :: (l++[a,b]))=if Bt a b=0 then Bw (x :: y :: (l++[a])) else Bw (x :: y :: (l++[a]))++[b]
  have ih':Bw (y :: (l++[a,b]))=if Bt a b=0 then Bw (y :: (l++[a])) else Bw (y :: (l++[a]))++[b]:=ih
  rw[Fk,ih',Fk];by_cases h1:Bt a b=0
  ·simp only[if_pos h1]
  ·simp only[if_neg h1]
   split <;> rfl
theorem Ha {s:List Ty} {n:Nat} (h0:0<n) (h:n<s.length):Bw (s.take (n+1))=if Bt s[n - 1] s[n]=0 then Bw (s.take n) else Bw (s.take n)++[s[n]]:=by
 obtain⟨m,rfl⟩:∃ m,n=m+1:=⟨n - 1,by omega⟩;have e1:s.take (m+1)=s.take m++[s[m]]:=List.take_succ_eq_append_getElem (by omega);have e2:s.take (m+1+1)=s.take m++[s[m],s[m+1]]:=by rw[List.take_succ_eq_append_getElem h,e1,List.append_assoc];rfl
 rw[e2,e1,It];rfl
theorem Jbg:Jd7:=by
 intro w;have h:=AnyF.slices_SortFunc_none (P:=Tryz.prog) (ρ:=Hn) { Jbd with } none 0 (.func (.func 101) #[] #[]) w;refine h.mono ?_;rintro e w' ⟨rfl,rfl⟩;exact⟨rfl,Below.refl _ _⟩
theorem ErrPost.res {w w':World} {z:Int} {e:Ending} (h:ErrPost w z e w'):Je4 w (E7 0) z e w':=by
 obtain⟨rfl,hb⟩:=h;exact⟨[.int .i64 0,.string ⟨#[]⟩,.int .i64 0,.slice none 0 0,.slice none 0 0,.slice none 0 0],rfl,Jas _ _ 0,hb⟩
theorem RightPost.res {K:Nat->Prop} {w w':World} {t:Ty} {e:Ending} (h:RightPost K w t e w'):Je4 w t 0 e w':=by
 obtain⟨rs,rfl,hr,hb⟩:=h;exact⟨rs,rfl,RepT.low _ _ hr,hb⟩
theorem InT.sixAt {K:Nat->Prop} {w0 w:World} {g c:Nat} {s:List Ty} (h:InT K w0 w g c s) {i:Nat} {t:Ty} (hi:s[i]?=some t):∃ x0 x1 x2 x3 x4 x5 x6 x7 x8 x9 xa xb,(w.cell? ⟨g,i*6,none⟩=some (.int .i64 x0)/\w.cell? ⟨g,i*6+1,none⟩=some (.string x1)/\w.cell? ⟨g,i*6+2,none⟩=some (.int .i64 x2)/\w.cell? ⟨g,i*6+3,none⟩=some (.slice x3 x4 x5)/\w.cell? ⟨g,i*6+4,none⟩=some (.slice x6 x7 x8)/\w.cell? ⟨g,i*6+5,none⟩=some (.slice x9 xa xb))/\RepT K w0 t [.int .i64 x0,.string x1,.int .i64 x2,.slice x3 x4 x5,.slice x6 x7 x8,.slice x9 xa xb]:=by
 obtain⟨cs,h1,h2⟩:=h.reps i t hi;obtain⟨k,z,n,ps,fs,vs⟩:=t;obtain⟨A,c,A',c',A'',c'',rfl,_⟩:=h1.inv;exact⟨_,_,_,_,_,_,_,_,_,_,_,_,⟨h2 0 _ rfl,h2 1 _ rfl,h2 2 _ rfl,h2 3 _ rfl,h2 4 _ rfl,h2 5 _ rfl⟩,h1⟩
theorem InT.six {K:Nat->Prop} {w0 w:World} {g c:Nat} {s:List Ty} (h:InT K w0 w g c s) {i:Nat} (hi:i<s.length):∃ x0 x1 x2 x3 x4 x5 x6 x7 x8 x9 xa xb,(w.cell? ⟨g,i*6,none⟩=some (.int .i64 x0)/\w.cell? ⟨g,i*6+1,none⟩=some (.string x1)/\w.cell? ⟨g,i*6+2,none⟩=some (.int .i64 x2)/\w.cell? ⟨g,i*6+3,none⟩=some (.slice x3 x4 x5)/\w.cell? ⟨g,i*6+4,none⟩=some (.slice x6 x7 x8)/\w.cell? ⟨g,i*6+5,none⟩=some (.slice x9 xa xb))/\RepT K w0 s[i] [.int .i64 x0,.string x1,.int .i64 x2,.slice x3 x4 x5,.slice x6 x7 x8,.slice x9 xa xb]:=h.sixAt (List.getElem?_eq_getElem hi)
theorem Lg (w:World) (ty:TypeId) (b o n c:Nat) (hn:0<n)
  (hc:∀ j,j<n*6->(w.cell? ⟨b,o+j,none⟩).isSome=true/\w.frozen? ⟨b,o+j,none⟩=false) :
  (Builtin.clear_ #[22] ty #[.slice (some ⟨b,o,none⟩) n c]).run Tryz.prog w=.ok (.tuple #[]) (w.setCells b o (Builtin.zeroCells #[.int .i64 0,.string ⟨#[]⟩,.int .i64 0,.slice none 0 0,.slice none 0 0,.slice none 0 0] n).toList):=by
 have hlen:(Builtin.zeroCells #[.int .i64 0,.string ⟨#[]⟩,.int .i64 0,.slice none 0 0,.slice none 0 0,.slice none 0 0] n).toList.length=n*6:=by simp[Builtin.zeroCells]
 have hst:=run_storeCells_cells (P:=Tryz.prog) b o (Builtin.zeroCells #[.int .i64 0,.string ⟨#[]⟩,.int .i64 0,.slice none 0 0,.slice none 0 0,.slice none 0 0] n).toList 0 w (by rw[hlen];simpa using fun j hj=>(hc j hj).1) (by rw[hlen];simpa using fun j hj=>(hc j hj).2) (by
  intro v hv;simp only[Builtin.zeroCells,Array.toList_map,List.mem_map] at hv;obtain⟨i,_,rfl⟩:=hv;have h6:i % 6<6:=Nat.mod_lt _ (by decide);generalize hr:i % 6=r at h6
  match r,h6 with
  | 0,_=>rfl
  | 1,_=>rfl
  | 2,_=>rfl
  | 3,_=>rfl
  | 4,_=>rfl
  | 5,_=>rfl)
 simp only[Nat.add_zero] at hst;obtain⟨m,rfl⟩:∃ m,n=m+1:=⟨n - 1,by omega⟩;have hz:(Value.agg #[.int .i64 0,.string ⟨#[]⟩,.int .i64 0,.slice none 0 0,.slice none 0 0,.slice none 0 0]).cells=#[.int .i64 0,.string ⟨#[]⟩,.int .i64 0,.slice none 0 0,.slice none 0 0,.slice none 0 0]:=by rfl
 simp[Builtin.clear_,run_underlying Tryz.underlying22,Tryz.zeroValue26,hz,hst]
structure CompR (K:Nat->Prop) (w0 wr:World) (g c:Nat) (s:List Ty) (m:Nat) (D:List Ty) (i:Nat):Prop where
 le:m+2+i<=s.length
 d:D=Bw (s.take (m+2+i))
 dl:D.length<=m+1+i
 row:InT K w0 wr g c (D++s.drop D.length)
 below:Below w0.heap.size w0 wr
theorem CompR.at {K:Nat->Prop} {w0 wr:World} {g c:Nat} {s:List Ty} {m:Nat} {D:List Ty} {i:Nat} (h:CompR K w0 wr g c s m D i) {j:Nat} (h1:m+1+i<=j) (h2:j<s.length):(D++s.drop D.length)[j]?=some s[j]:=by
 have:=h.dl;rw[List.getElem?_append_right (by omega),List.getElem?_drop,show D.length+(j - D.length)=j from by omega];exact List.getElem?_eq_getElem h2
theorem CompR.start {K:Nat->Prop} {w0 wr:World} {g c:Nat} {s:List Ty} {m:Nat} (hm:m+1<s.length) (hd:Bw (s.take (m+1))=s.take (m+1)) (he:Bt s[m] s[m+1]=0) (hr:InT K w0 wr g c s) (hb:Below w0.heap.size w0 wr):CompR K w0 wr g c s m (s.take (m+1)) 0:=by
 have hl:(s.take (m+1)).length=m+1:=by simp;omega
 refine⟨by omega,?_,by omega,by rw[hl,List.take_append_drop];exact hr,hb⟩;have:=Ha (s:=s) (n:=m+1) (by omega) hm;have he':Bt s[m+1 - 1] s[m+1]=0:=he;rw[if_pos he',hd] at this;exact this.symm
theorem CompR.same {K:Nat->Prop} {w0 wr w':World} {g c:Nat} {s:List Ty} {m:Nat} {D:List Ty} {i:Nat} (h:CompR K w0 wr g c s m D i) (hi:m+2+i<s.length) (he:Bt s[m+1+i] s[m+2+i]=0) (hb:Below wr.heap.size wr w'):CompR K w0 w' g c s m D (i+1):=by
 refine⟨by omega,?_,by have:=h.dl;omega,h.row.later hb,h.below.trans (hb.mono h.below.size)⟩;have:=Ha (s:=s) (n:=m+2+i) (by omega) hi;rw[if_pos (by simpa only[show m+2+i - 1=m+1+i from by omega] using he),<-h.d] at this;exact this.symm
theorem CompR.put {K:Nat->Prop} {w0 wr wy:World} {g c:Nat} {s:List Ty} {m:Nat} {D:List Ty} {i:Nat} {cs:List Value} (h:CompR K w0 wr g c s m D i) (hi:m+2+i<s.length) (hn:Bt s[m+1+i] s[m+2+i]≠0) (hg:w0.heap.size<=g) (hb:Below wr.heap.size wr wy) (ht:RepT K w0 s[m+2+i] cs):CompR K w0 (wy.setCells g (D.length*6) cs) g c s m (D++[s[m+2+i]]) (i+1):=by
 have hdl:=h.dl;refine⟨by omega,?_,by simp;omega,(h.row.later hb).put (by omega) ht,Ds hg cs _ _ (h.below.trans (hb.mono h.below.size))⟩;have:=Ha (s:=s) (n:=m+2+i) (by omega) hi;rw[if_neg (by simpa only[show m+2+i - 1=m+1+i from by omega] using hn),<-h.d] at this;exact this.symm
theorem CompR.fin {K:Nat->Prop} {w0 wr:World} {g c:Nat} {s:List Ty} {m:Nat} {D:List Ty} {i:Nat} (h:CompR K w0 wr g c s m D i) (hi:¬ m+2+i<s.length) (hg:w0.heap.size<=g) (L:List Value):D=Bw s/\InT K w0 (wr.setCells g (D.length*6) L) g c D/\Below w0.heap.size w0 (wr.setCells g (D.length*6) L):=by
 have hle:=h.le;refine⟨by rw[h.d,List.take_of_length_le (by omega)],?_,Ds hg L _ _ h.below⟩;have hp:=h.row.pre;obtain⟨cur,hc1,hc2⟩:=hp.blk;refine⟨hp.le,hp.mx,Pv g L _ wr ⟨_,_,hc1,rfl⟩ _ ⟨_,hc1,hc2⟩,fun a t ha=>?_⟩;obtain⟨cs,h1,h2⟩:=hp.reps a t ha;have hal:=(List.getElem?_eq_some_iff.1 ha).1;refine⟨cs,h1,fun j u hj=>?_⟩;have hj6:=(List.getElem?_eq_some_iff.1 hj).1;rw[h1.six] at hj6;rw[World.cell?_setCells_out g L _ wr ⟨g,a*6+j,none⟩ (fun _ _=>by show a*6+j<_\/_<=a*6+j;omega)];exact h2 j u hj
theorem Jfh (x y:Int):M7 (decide (x<y)) (decide (y<x))=De x y:=by
 rcases F9 x y with ⟨a,b,e⟩ | ⟨a,b,e⟩ | ⟨a,b,e⟩ <;> rw[e,M7] <;> simp[a,b]
theorem Jfu (x y:ByteArray):M7 (Op.bytesLess x.toList y.toList) (!Op.bytesLess x.toList y.toList && !(x.toList == y.toList))=Dj x y:=by
 rcases G7 x y with ⟨a,b,e⟩ | ⟨a,b,e⟩ | ⟨a,b,e⟩ <;> rw[e,M7,a,b] <;> rfl
theorem Wv (k:Int) (t:ByteArray) (n:Int) (ps:List Ty) (fs:Bp) (vs:Bm) (hp:∀ p∈ps,O2 p) (hf:∀ f∈fs,O2 f.2.2) (hv:∀ v∈vs,∀ b∈v.2,O2 b):O2 (.mk k t n ps fs vs):=by
 intro K K' t' w cs cs' h h';obtain⟨k',s',n',ps',fs',vs'⟩:=t';have hb2:Gw w ((w.alloc (.cells cs.toArray 26)).alloc (.cells cs'.toArray 26)):=((Gw.refl w).alloc _).alloc _;have a1:=(AtT.box 26 h).later ((Below.refl _ _).alloc (Nat.le_refl _) (.cells cs'.toArray 26));have a2:AtT K' ((w.alloc (.cells cs.toArray 26)).alloc (.cells cs'.toArray 26)) (.mk k' s' n' ps' fs' vs') (w.heap.size+1) 0:=by
  have:=AtT.box (w:=w.alloc (.cells cs.toArray 26)) 26 (h'.later ((Below.refl _ _).alloc (Nat.le_refl _) _));rw[World.size_alloc] at this;exact this
 have HB2:=Hd hb2;obtain⟨A,c,A2,c2,A3,c3,rfl,-⟩:=h.inv;obtain⟨B,d,B2,d2,B3,d3,rfl,-⟩:=h'.inv;simp only[Ar] at a1 a2 HB2 ⊢;generalize hw2:(w.alloc (.cells #[.int .i64 k,.string t,.int .i64 n,.slice A ps.length c,.slice A2 fs.length c2,.slice A3 vs.length c3] 26)).alloc (.cells #[.int .i64 k',.string s',.int .i64 n',.slice B ps'.length d,.slice B2 fs'.length d2,.slice B3 vs'.length d3] 26)=w2 at a1 a2 HB2;have HE2:=Hd hw2;obtain⟨A',c',A2',c2',A3',c3',⟨x0,x1,x2,x3,x4,x5⟩,-,hP,hF,hV⟩:=a1.six;obtain⟨B',d',B2',d2',B3',d3',⟨y0,y1,y2,y3,y4,y5⟩,-,hP',hF',hV'⟩:=a2.six;rw[Nat.zero_add] at x1 x2 x3 x4 x5 y1 y2 y3 y4 y5;have HX:Hid (∀ wx,Gw w2 wx->(wx.cell? ⟨w.heap.size,3,none⟩=some (.slice A' ps.length c')/\wx.cell? ⟨w.heap.size,4,none⟩=some (.slice A2' fs.length c2')/\wx.cell? ⟨w.heap.size,5,none⟩=some (.slice A3' vs.length c3'))/\wx.cell? ⟨w.heap.size+1,3,none⟩=some (.slice B' ps'.length d')/\wx.cell? ⟨w.heap.size+1,4,none⟩=some (.slice B2' fs'.length d2')/\wx.cell? ⟨w.heap.size+1,5,none⟩=some (.slice B3' vs'.length d3')):=Hd fun wx hx=>⟨⟨Aa hx.below x3,Aa hx.below x4,Aa hx.below x5⟩,Aa hx.below y3,Aa hx.below y4,Aa hx.below y5⟩;have K3:Hid (∀ wx,Gw w2 wx->Calls Tryz.prog 45 #[.slice A' ps.length c',.slice B' ps'.length d'] wx fun e w'=>e=.returned (.int .i64 (Bv (Bq ps) (Bq ps')))/\Gw wx w'):=Hd fun wx hx=>Rk ps ps' hp (hP.later hx.below) (hP'.later hx.below);have K4:Hid (∀ wx,Gw w2 wx->Calls Tryz.prog 46 #[.slice A2' fs.length c2',.slice B2' fs'.length d2'] wx fun e w'=>e=.returned (.int .i64 (Bv (Du fs) (Du fs')))/\Gw wx w'):=Hd fun wx hx=>Sl fs fs' hf (hF.later hx.below) (hF'.later hx.below);have K5:Hid (∀ wx,Gw w2 wx->Calls Tryz.prog 47 #[.slice A3' vs.length c3',.slice B3' vs'.length d3'] wx fun e w'=>e=.returned (.int .i64 (Bv (Dv vs) (Dv vs')))/\Gw wx w'):=Hd fun wx hx=>Jbp vs vs' hv (hV.later hx.below) (hV'.later hx.below);have HO:=Hd (Oq k t n ps fs vs k' s' n' ps' fs' vs');have Z0:=Hd (Jfh k k');have Z1:=Hd (Jfu t s');have Z2:=Hd (Jfh n n');generalize Bt (.mk k t n ps fs vs) (.mk k' s' n' ps' fs' vs')=oo at HO ⊢;generalize De k k'=q0 at HO Z0;generalize Dj t s'=q1 at HO Z1;generalize De n n'=q2 at HO Z2;generalize Bv (Bq ps) (Bq ps')=q3 at HO K3;generalize Bv (Du fs) (Du fs')=q4 at HO K4;generalize Bv (Dv vs) (Dv vs')=q5 at HO K5;clear h h' hb2 a1 a2 hP hF hV hP' hF' hV' hp hf hv hw2 x3 x4 x5 y3 y4 y5;go_enter Tryz.func20,Tryz.ntmps20;go_wp2_with fail;rw[HE2.out];refine (Cn _ _ _).mono ?_;rintro e w3 ⟨rfl,rfl⟩;rw[Z0.out];by_cases z0:q0=0
 ·have e0:(q0 == 0)=true:=by simpa using z0
  have Q0:=Hd z0;clear z0;go_wp2_with fail;refine (Cn _ _ _).mono ?_;rintro e w3 ⟨rfl,rfl⟩;rw[Z1.out];by_cases z1:q1=0
  ·have e1:(q1 == 0)=true:=by simpa using z1
   have Q1:=Hd z1;clear z1;go_wp2_with fail;refine (Cn _ _ _).mono ?_;rintro e w3 ⟨rfl,rfl⟩;rw[Z2.out];by_cases z2:q2=0
   ·have e2:(q2 == 0)=true:=(by simpa using z2);have Q2:=Hd z2;clear z2;obtain⟨⟨x3,x4,x5⟩,y3,y4,y5⟩:=HX.out _ (Gw.refl _);go_wp2_with fail;clear x3 x4 x5 y3 y4 y5;refine (K3.out _ (Gw.refl _)).mono ?_;rintro e w3 ⟨rfl,hg⟩;have HG3:=Hd (hg);clear hg;by_cases z3:q3=0
    ·have e3:(q3 == 0)=true:=(by simpa using z3);have Q3:=Hd z3;clear z3;obtain⟨⟨x3,x4,x5⟩,y3,y4,y5⟩:=HX.out _ HG3.out;go_wp2_with fail;clear x3 x4 x5 y3 y4 y5;refine (K4.out _ HG3.out).mono ?_;rintro e w4 ⟨rfl,hg⟩;have HG4:=Hd (HG3.out.trans hg);clear hg;by_cases z4:q4=0
     ·have e4:(q4 == 0)=true:=(by simpa using z4);have Q4:=Hd z4;clear z4;obtain⟨⟨x3,x4,x5⟩,y3,y4,y5⟩:=HX.out _ HG4.out;go_wp2_with fail;clear x3 x4 x5 y3 y4 y5;refine (K5.out _ HG4.out).mono ?_;rintro e w5 ⟨rfl,hg⟩;have HG5:=Hd (HG4.out.trans hg);clear hg;go_wp2_with fail;go_ret
      exact⟨by rw[HO.out,Q0.out,Bj,Q1.out,Bj,Q2.out,Bj,Q3.out,Bj,Q4.out,Bj];rfl,HB2.out.trans HG5.out⟩
     ·have e4:(q4 == 0)=false:=(by simpa using z4);have Q4:=Hd z4;clear z4;go_wp2_with fail;go_ret
      exact⟨by rw[HO.out,Q0.out,Bj,Q1.out,Bj,Q2.out,Bj,Q3.out,Bj,Dg Q4.out];rfl,HB2.out.trans HG4.out⟩
    ·have e3:(q3 == 0)=false:=(by simpa using z3);have Q3:=Hd z3;clear z3;go_wp2_with fail;go_ret
     exact⟨by rw[HO.out,Q0.out,Bj,Q1.out,Bj,Q2.out,Bj,Dg Q3.out];rfl,HB2.out.trans HG3.out⟩
   ·have e2:(q2 == 0)=false:=(by simpa using z2);have Q2:=Hd z2;clear z2;go_wp2_with fail;go_ret
    exact⟨by rw[HO.out,Q0.out,Bj,Q1.out,Bj,Dg Q2.out];rfl,HB2.out⟩
  ·have e1:(q1 == 0)=false:=by simpa using z1
   have Q1:=Hd z1;clear z1;go_wp2_with fail;go_ret
   exact⟨by rw[HO.out,Q0.out,Bj,Dg Q1.out];rfl,HB2.out⟩
 ·have e0:(q0 == 0)=false:=by simpa using z0
  have Q0:=Hd z0;clear z0;go_wp2_with fail;go_ret
  exact⟨by rw[HO.out,Dg Q0.out];rfl,HB2.out⟩
theorem J7 (t:Ty):O2 t:=Ty.ind (C:=O2) (fun k t n ps fs vs hp hf hv=>Wv k t n ps fs vs hp hf hv) t
theorem J0 {K:Nat->Prop} {w:World} {fs:Bp} {A:Option Addr} {c:Nat} {fv:Ty->Bool} (hF:ListF K w fs A c) (hf:∀ f∈fs,Fu f.2.2 (fv f.2.2)) :
  Calls Tryz.prog 136 #[.slice A fs.length c] w fun e w'=>e=.returned (.bool (Ca (Bf fs fv)))/\Below w.heap.size w w':=by
 have HF:=Hd hF;have HI:=Hd hf;have hlf:=hF.shortF;clear hF hf;go_enter Tryz.func136,Tryz.ntmps136;go_wp2_with fail
 go_loopw [7] (fun v wr=>∃ i:Nat,i<=fs.length/\v=.int .i64 (i:Int)/\(∀ j,j<i->Rs (Bf fs fv) j=true)/\Below w.heap.size w wr) (fun v _=>fs.length - (intOf v).toNat)
 case atStart=>exact⟨0,by omega,rfl,fun j hj=>absurd hj (by omega),Below.refl _ _⟩
 case round=>
  obtain⟨i,hle,rfl,hok,hbr⟩:=hrel;have HOK:=Hd hok;have HBr:=Hd hbr;clear hok;by_cases hlt:i<fs.length
  ·have t1:decide ((i:Int)<(fs.length:Int))=true:=by simp;omega
   have wr2:wrap64 ((i:Int)+1)=((i+1:Nat):Int):=Ao (by omega);have HM:=Hd (Ba hlt);have HLE:Hid (i+1<=fs.length):=Hd hlt;obtain⟨b,o,hA,_,hat⟩:=HF.out.at (by omega);subst hA;obtain⟨hc0,hc1,hsz,hAt⟩:=hat i hlt;have hNO:Rs (Bf fs fv) i=false->Ca (Bf fs fv)=false:=fun h=>Fy (by rw[D2];exact hlt) h;have hFm:=HI.out _ (List.getElem_mem hlt);have KF:=Hd fun wx (hx:Below w.heap.size w wx)=>hFm K wx b (o+i*8+2) (hAt.later hx);have hokE:(i=0/\Rs (Bf fs fv) i=(Bo fs[i].1 && decide (0<=fs[i].2.1) && decide (fs[i].2.1<=3) && fv fs[i].2.2))\/(∃ j pn,i=j+1/\w.cell? ⟨b,o+j*8,none⟩=some (.string pn)/\Rs (Bf fs fv) i=(Bo fs[i].1 && decide (0<=fs[i].2.1) && decide (fs[i].2.1<=3) && fv fs[i].2.2 && Go.Op.bytesLess pn.toList fs[i].1.toList)):=by
    match i,hlt with
    | 0,h=>exact .inl ⟨rfl,Mz h⟩
    | j+1,h=>exact .inr ⟨j,_,rfl,(hat j (by omega)).1,My h⟩
   generalize hnm:fs[i].1=nm at hc0 hsz hokE;generalize hfl:fs[i].2.1=fl at hc1 hokE;generalize hty:fv fs[i].2.2=r at KF hokE;have hokN:(Bo nm && decide (0<=fl) && decide (fl<=3))=false->Rs (Bf fs fv) i=false:=fun h=>by
    rcases hokE with ⟨_,e⟩ | ⟨_,_,_,_,e⟩ <;> rw[e,h] <;> rfl
   have hcw0:=Aa (w:=w) (w':=wr) hbr hc0;have hcw1:=Aa (w:=w) (w':=wr) hbr hc1;have KN:=Hd fun wx=>Eu nm wx hsz;have HCC:Hid (∀ wx,Below wr.heap.size wr wx->wx.cell? ⟨b,o+i*8,none⟩=some (.string nm)/\wx.cell? ⟨b,o+i*8+1,none⟩=some (.int .i64 fl)):=Hd fun wx hx=>⟨Aa hx hcw0,Aa hx hcw1⟩;clear hat hc0 hc1 hnm hfl hty hFm hAt hcw0 hcw1 hle
   cases hq:Bo nm with
   | false=>
    have HNO:Hid (Ca (Bf fs fv)=false):=Hd (hNO (hokN (by rw[hq];rfl)));rw[hq] at KN;clear hNO hokN hokE hq hbr KF;go_wp2_with fail;refine wp_region_held_drew (S:=(fun w'=>w'.cell? ⟨b,o+i*8,none⟩=some (.string nm)/\w'.cell? ⟨b,o+i*8+1,none⟩=some (.int .i64 fl))) (by kernel_rfl) (HCC.out _ (Below.refl _ _).drew) (fun hHeld=>?_);refine Plan.start [0,1,2,3] ?_
    iterate 4 (refine Plan.tk (so rfl) hHeld ?_;try simp only[Act.put,Ax,Ay,Az])
    refine Plan.done ?_;refine wpAnyH_ready (rs:=[4]) (by kernel_rfl) (by simp) ?_;refine AllReadyH.cons (sd (some 17) rfl) (fun K hK=>?_) AllReadyH.nil;go_simp;refine (KN.out _).mono ?_;rintro e w2 ⟨rfl,hb2⟩;have HB2:=Hd ((Below.refl wr.heap.size wr).drew.trans hb2);clear hb2;go_wp2_with fail;refine hK.out _ _ (HCC.out _ HB2.out) (fun hHeld=>?_);clear hK K;try simp only[Act.put,Ax,Ay,Az]
    refine Plan.start [5,6] ?_
    iterate 2 (refine Plan.tk (so rfl) hHeld ?_;try simp only[Act.put,Ax,Ay,Az])
    refine Plan.done ?_;refine Plan.start [7,8,9,10,11] ?_
    iterate 5 (refine Plan.take (v:=undef) (so rfl) (by kernel_rfl) (by kernel_rfl) (by kernel_rfl) (fun _ _ _ h=>h) (Or.inr ⟨by rfl,rfl⟩) hHeld ?_;try simp only[Act.put,Ax,Ay,Az])
    refine Plan.done ?_;refine Plan.start [12,13] ?_
    iterate 2 (refine Plan.tk (so rfl) hHeld ?_;try simp only[Act.put,Ax,Ay,Az])
    refine Plan.done ?_;refine Plan.start [14,15,16,17,18] ?_
    iterate 5 (refine Plan.take (v:=undef) (so rfl) (by kernel_rfl) (by kernel_rfl) (by kernel_rfl) (fun _ _ _ h=>h) (Or.inr ⟨by rfl,rfl⟩) hHeld ?_;try simp only[Act.put,Ax,Ay,Az])
    refine Plan.done ?_;refine Plan.start [19,20] ?_
    iterate 2 (refine Plan.tk (so rfl) hHeld ?_;try simp only[Act.put,Ax,Ay,Az])
    refine Plan.done ?_;refine Plan.start [21,22,23,24,25,26,27,28,29,30,31,32,33,34,35] ?_
    iterate 15 (refine Plan.take (v:=undef) (so rfl) (by kernel_rfl) (by kernel_rfl) (by kernel_rfl) (fun _ _ _ h=>h) (Or.inr ⟨by rfl,rfl⟩) hHeld ?_;try simp only[Act.put,Ax,Ay,Az])
    refine Plan.done ?_;refine Plan.start [36,37] ?_
    iterate 2 (refine Plan.tk (so rfl) hHeld ?_;try simp only[Act.put,Ax,Ay,Az])
    refine Plan.done ?_;refine Plan.start [38,39,40,41,42] ?_
    iterate 5 (refine Plan.take (v:=undef) (so rfl) (by kernel_rfl) (by kernel_rfl) (by kernel_rfl) (fun _ _ _ h=>h) (Or.inr ⟨by rfl,rfl⟩) hHeld ?_;try simp only[Act.put,Ax,Ay,Az])
    refine Plan.done ?_;refine Plan.start [43] ?_;refine Plan.tk (so rfl) hHeld ?_;try simp only[Act.put,Ax,Ay,Az]
    refine Plan.done ?_;refine wpAnyH_done (by kernel_rfl) ?_ _;clear hHeld;go_wp2_with fail;go_ret
    exact⟨by rw[HNO.out];rfl,HBr.out.trans (HB2.out.mono HBr.out.size)⟩
   | true=>
    rw[hq] at KN;by_cases hfl0:0<=fl
    ·by_cases hfl3:fl<=3
     ·have f0:decide (fl<0)=false:=(by simp;omega);have f3:decide ((3:Int)<fl)=false:=(by simp;omega);rcases hokE with ⟨rfl,he⟩ | ⟨i,pn,rfl,hpn,he⟩
      ·have HE:Hid (Rs (Bf fs fv) 0=r):=Hd (by rw[he,hq];simp[hfl0,hfl3]);simp only[Nat.zero_mul,Nat.add_zero] at HCC KF;clear hNO hokN he hq hbr;go_wp2_with fail;refine wp_region_held_drew (S:=(fun w'=>w'.cell? ⟨b,o,none⟩=some (.string nm)/\w'.cell? ⟨b,o+1,none⟩=some (.int .i64 fl))) (by kernel_rfl) (HCC.out _ (Below.refl _ _).drew) (fun hHeld=>?_);refine Plan.start [0,1,2,3] ?_
       iterate 4 (refine Plan.tk (so rfl) hHeld ?_;try simp only[Act.put,Ax,Ay,Az])
       refine Plan.done ?_;refine wpAnyH_ready (rs:=[4]) (by kernel_rfl) (by simp) ?_;refine AllReadyH.cons (sd (some 17) rfl) (fun K hK=>?_) AllReadyH.nil;go_simp;refine (KN.out _).mono ?_;rintro e w2 ⟨rfl,hb2⟩;have HB2:=Hd ((Below.refl wr.heap.size wr).drew.trans hb2);clear hb2;go_wp2_with fail;refine hK.out _ _ (HCC.out _ HB2.out) (fun hHeld=>?_);clear hK K;try simp only[Act.put,Ax,Ay,Az]
       refine Plan.start [5,6,7,8,9,10,11,12,13,14,15,16,17,18,19,20,21,22,23] ?_
       iterate 19 (refine Plan.tk (so rfl) hHeld ?_;try simp only[Act.put,Ax,Ay,Az])
       refine Plan.done ?_;refine Plan.start [24,25,26,27,28,29,30,31,32,33,34] ?_
       iterate 11 (refine Plan.take (v:=undef) (so rfl) (by kernel_rfl) (by kernel_rfl) (by kernel_rfl) (fun _ _ _ h=>h) (Or.inr ⟨by rfl,rfl⟩) hHeld ?_;try simp only[Act.put,Ax,Ay,Az])
       refine Plan.done ?_;refine Plan.start [35,36,37,38,39,40] ?_
       iterate 6 (refine Plan.tk (so rfl) hHeld ?_;try simp only[Act.put,Ax,Ay,Az])
       refine Plan.done ?_;refine wpAnyH_ready (rs:=[41]) (by kernel_rfl) (by simp) ?_;refine AllReadyH.cons (sd (some 54) rfl) (fun K hK=>?_) AllReadyH.nil;go_simp;refine (KF.out _ (HBr.out.trans (HB2.out.mono HBr.out.size))).mono ?_;rintro e w3 ⟨rfl,hb3⟩;have HB3:=Hd (HB2.out.trans (hb3.mono HB2.out.size));clear hb3;go_wp2_with fail;refine hK.out _ _ (HCC.out _ HB3.out) (fun hHeld=>?_);clear hK K;try simp only[Act.put,Ax,Ay,Az]
       refine Plan.start [42,43] ?_
       iterate 2 (refine Plan.tk (so rfl) hHeld ?_;try simp only[Act.put,Ax,Ay,Az])
       refine Plan.done ?_;refine wpAnyH_done (by kernel_rfl) ?_ _;clear hHeld
       cases r with
       | false=>
        have HNO:Hid (Ca (Bf fs fv)=false):=Hd (Fy (by rw[D2];exact HLE.out) HE.out);go_wp2_with fail;go_ret
        exact⟨by rw[HNO.out];rfl,HBr.out.trans (HB3.out.mono HBr.out.size)⟩
       | true=>
        go_wp2_with fail;refine⟨⟨0+1,HLE.out,by first | rfl | rw[wr2],Jk HOK.out HE.out,HBr.out.trans (HB3.out.mono HBr.out.size)⟩,?_⟩;first | exact HM.out | (rw[wr2];exact HM.out)
      ·have hpw:=Aa (w:=w) (w':=wr) hbr hpn;have HCD:Hid (∀ wx,Below wr.heap.size wr wx->wx.cell? ⟨b,o+i*8,none⟩=some (.string pn)):=Hd fun wx hx=>Aa hx hpw;have wr1:wrap64 (((i+1:Nat):Int) - 1)=((i:Nat):Int):=(by rw[Cf (by omega) (by omega)];omega);have wr1':IntKind.i64.wrap (((i+1:Nat):Int) - 1)=((i:Nat):Int):=by
        have e:IntKind.i64.wrap (((i+1:Nat):Int) - 1)=wrap64 (((i+1:Nat):Int) - 1):=(by unfold wrap64;exact IntKind.wrap_i64 _);rw[e,wr1]
       have wr3:wrap64 (i:Int)=(i:Int):=Cf (by omega) (by omega);have wr3':IntKind.i64.wrap (i:Int)=(i:Int):=by
        have e:IntKind.i64.wrap (i:Int)=wrap64 (i:Int):=(by unfold wrap64;exact IntKind.wrap_i64 _);rw[e,wr3]
       have i2:(0:Int)<=(i:Int):=(by omega);have i3:(i:Int)<(fs.length:Int):=(by omega);have i4:(0:Int)<(i:Int)+1:=by omega
       cases hbl:Go.Op.bytesLess pn.toList nm.toList with
       | true=>
        have HE:Hid (Rs (Bf fs fv) (i+1)=r):=Hd (by rw[he,hq,hbl];simp[hfl0,hfl3]);clear hNO hokN he hq hbr hpn hpw;go_wp2_with fail;refine wp_region_held_drew (S:=(fun w'=>(w'.cell? ⟨b,o+(i+1)*8,none⟩=some (.string nm)/\w'.cell? ⟨b,o+(i+1)*8+1,none⟩=some (.int .i64 fl))/\w'.cell? ⟨b,o+i*8,none⟩=some (.string pn))) (by kernel_rfl) (⟨HCC.out _ (Below.refl _ _).drew,HCD.out _ (Below.refl _ _).drew⟩) (fun hHeld=>?_);refine Plan.start [0,1,2,3] ?_
        iterate 4 (refine Plan.tk (so rfl) hHeld ?_;try simp only[Act.put,Ax,Ay,Az])
        refine Plan.done ?_;refine wpAnyH_ready (rs:=[4]) (by kernel_rfl) (by simp) ?_;refine AllReadyH.cons (sd (some 17) rfl) (fun K hK=>?_) AllReadyH.nil;go_simp;refine (KN.out _).mono ?_;rintro e w2 ⟨rfl,hb2⟩;have HB2:=Hd ((Below.refl wr.heap.size wr).drew.trans hb2);clear hb2;go_wp2_with fail;refine hK.out _ _ (⟨HCC.out _ HB2.out,HCD.out _ HB2.out⟩) (fun hHeld=>?_);clear hK K;try simp only[Act.put,Ax,Ay,Az]
        refine Plan.start [5,6,7,8,9,10,11,12,13,14,15,16,17,18,19,20,21,22,23,24,25,26,27,28,29,30,31,32,33,34,35,36,37,38,39,40] ?_
        iterate 36 (refine Plan.tk (so rfl) hHeld ?_;try simp only[Act.put,Ax,Ay,Az])
        refine Plan.done ?_;refine wpAnyH_ready (rs:=[41]) (by kernel_rfl) (by simp) ?_;refine AllReadyH.cons (sd (some 54) rfl) (fun K hK=>?_) AllReadyH.nil;go_simp;refine (KF.out _ (HBr.out.trans (HB2.out.mono HBr.out.size))).mono ?_;rintro e w3 ⟨rfl,hb3⟩;have HB3:=Hd (HB2.out.trans (hb3.mono HB2.out.size));clear hb3;go_wp2_with fail;refine hK.out _ _ (⟨HCC.out _ HB3.out,HCD.out _ HB3.out⟩) (fun hHeld=>?_);clear hK K;try simp only[Act.put,Ax,Ay,Az]
        refine Plan.start [42,43] ?_
        iterate 2 (refine Plan.tk (so rfl) hHeld ?_;try simp only[Act.put,Ax,Ay,Az])
        refine Plan.done ?_;refine wpAnyH_done (by kernel_rfl) ?_ _;clear hHeld
        cases r with
        | false=>
         have HNO:Hid (Ca (Bf fs fv)=false):=Hd (Fy (by rw[D2];exact HLE.out) HE.out);go_wp2_with fail;go_ret
         exact⟨by rw[HNO.out];rfl,HBr.out.trans (HB3.out.mono HBr.out.size)⟩
        | true=>
         go_wp2_with fail;refine⟨⟨(i+1)+1,HLE.out,by first | rfl | rw[wr2],Jk HOK.out HE.out,HBr.out.trans (HB3.out.mono HBr.out.size)⟩,?_⟩;first | exact HM.out | (rw[wr2];exact HM.out)
       | false=>
        have HNO:Hid (Ca (Bf fs fv)=false):=Hd (hNO (by rw[he,hbl];simp));clear hNO hokN he hq hbr hpn hpw KF;go_wp2_with fail;refine wp_region_held_drew (S:=(fun w'=>(w'.cell? ⟨b,o+(i+1)*8,none⟩=some (.string nm)/\w'.cell? ⟨b,o+(i+1)*8+1,none⟩=some (.int .i64 fl))/\w'.cell? ⟨b,o+i*8,none⟩=some (.string pn))) (by kernel_rfl) (⟨HCC.out _ (Below.refl _ _).drew,HCD.out _ (Below.refl _ _).drew⟩) (fun hHeld=>?_);refine Plan.start [0,1,2,3] ?_
        iterate 4 (refine Plan.tk (so rfl) hHeld ?_;try simp only[Act.put,Ax,Ay,Az])
        refine Plan.done ?_;refine wpAnyH_ready (rs:=[4]) (by kernel_rfl) (by simp) ?_;refine AllReadyH.cons (sd (some 17) rfl) (fun K hK=>?_) AllReadyH.nil;go_simp;refine (KN.out _).mono ?_;rintro e w2 ⟨rfl,hb2⟩;have HB2:=Hd ((Below.refl wr.heap.size wr).drew.trans hb2);clear hb2;go_wp2_with fail;refine hK.out _ _ (⟨HCC.out _ HB2.out,HCD.out _ HB2.out⟩) (fun hHeld=>?_);clear hK K;try simp only[Act.put,Ax,Ay,Az]
        refine Plan.start [5,6,7,8,9,10,11,12,13,14,15,16,17,18,19,20,21,22,23,24,25,26,27,28,29,30,31,32,33,34,35,36,37] ?_
        iterate 33 (refine Plan.tk (so rfl) hHeld ?_;try simp only[Act.put,Ax,Ay,Az])
        refine Plan.done ?_;refine Plan.start [38,39,40,41,42] ?_
        iterate 5 (refine Plan.take (v:=undef) (so rfl) (by kernel_rfl) (by kernel_rfl) (by kernel_rfl) (fun _ _ _ h=>h) (Or.inr ⟨by rfl,rfl⟩) hHeld ?_;try simp only[Act.put,Ax,Ay,Az])
        refine Plan.done ?_;refine Plan.start [43] ?_;refine Plan.tk (so rfl) hHeld ?_;try simp only[Act.put,Ax,Ay,Az]
        refine Plan.done ?_;refine wpAnyH_done (by kernel_rfl) ?_ _;clear hHeld;go_wp2_with fail;go_ret
        exact⟨by rw[HNO.out];rfl,HBr.out.trans (HB2.out.mono HBr.out.size)⟩
     ·have HNO:Hid (Ca (Bf fs fv)=false):=Hd (hNO (hokN (by simp[hfl3])));have f0:decide (fl<0)=false:=(by simp;omega);have f3:decide ((3:Int)<fl)=true:=(by simp;omega);clear hNO hokN hokE hq hbr KF;go_wp2_with fail;refine wp_region_held_drew (S:=(fun w'=>w'.cell? ⟨b,o+i*8,none⟩=some (.string nm)/\w'.cell? ⟨b,o+i*8+1,none⟩=some (.int .i64 fl))) (by kernel_rfl) (HCC.out _ (Below.refl _ _).drew) (fun hHeld=>?_);refine Plan.start [0,1,2,3] ?_
      iterate 4 (refine Plan.tk (so rfl) hHeld ?_;try simp only[Act.put,Ax,Ay,Az])
      refine Plan.done ?_;refine wpAnyH_ready (rs:=[4]) (by kernel_rfl) (by simp) ?_;refine AllReadyH.cons (sd (some 17) rfl) (fun K hK=>?_) AllReadyH.nil;go_simp;refine (KN.out _).mono ?_;rintro e w2 ⟨rfl,hb2⟩;have HB2:=Hd ((Below.refl wr.heap.size wr).drew.trans hb2);clear hb2;go_wp2_with fail;refine hK.out _ _ (HCC.out _ HB2.out) (fun hHeld=>?_);clear hK K;try simp only[Act.put,Ax,Ay,Az]
      refine Plan.start [5,6,7,8,9,10,11,12,13,14,15,16,17,18,19,20] ?_
      iterate 16 (refine Plan.tk (so rfl) hHeld ?_;try simp only[Act.put,Ax,Ay,Az])
      refine Plan.done ?_;refine Plan.start [21,22,23,24,25,26,27,28,29,30,31,32,33,34,35] ?_
      iterate 15 (refine Plan.take (v:=undef) (so rfl) (by kernel_rfl) (by kernel_rfl) (by kernel_rfl) (fun _ _ _ h=>h) (Or.inr ⟨by rfl,rfl⟩) hHeld ?_;try simp only[Act.put,Ax,Ay,Az])
      refine Plan.done ?_;refine Plan.start [36,37] ?_
      iterate 2 (refine Plan.tk (so rfl) hHeld ?_;try simp only[Act.put,Ax,Ay,Az])
      refine Plan.done ?_;refine Plan.start [38,39,40,41,42] ?_
      iterate 5 (refine Plan.take (v:=undef) (so rfl) (by kernel_rfl) (by kernel_rfl) (by kernel_rfl) (fun _ _ _ h=>h) (Or.inr ⟨by rfl,rfl⟩) hHeld ?_;try simp only[Act.put,Ax,Ay,Az])
      refine Plan.done ?_;refine Plan.start [43] ?_;refine Plan.tk (so rfl) hHeld ?_;try simp only[Act.put,Ax,Ay,Az]
      refine Plan.done ?_;refine wpAnyH_done (by kernel_rfl) ?_ _;clear hHeld;go_wp2_with fail;go_ret
      exact⟨by rw[HNO.out];rfl,HBr.out.trans (HB2.out.mono HBr.out.size)⟩
    ·have HNO:Hid (Ca (Bf fs fv)=false):=Hd (hNO (hokN (by simp[hfl0])));have f0:decide (fl<0)=true:=(by simp;omega);clear hNO hokN hokE hq hbr KF;go_wp2_with fail;refine wp_region_held_drew (S:=(fun w'=>w'.cell? ⟨b,o+i*8,none⟩=some (.string nm)/\w'.cell? ⟨b,o+i*8+1,none⟩=some (.int .i64 fl))) (by kernel_rfl) (HCC.out _ (Below.refl _ _).drew) (fun hHeld=>?_);refine Plan.start [0,1,2,3] ?_
     iterate 4 (refine Plan.tk (so rfl) hHeld ?_;try simp only[Act.put,Ax,Ay,Az])
     refine Plan.done ?_;refine wpAnyH_ready (rs:=[4]) (by kernel_rfl) (by simp) ?_;refine AllReadyH.cons (sd (some 17) rfl) (fun K hK=>?_) AllReadyH.nil;go_simp;refine (KN.out _).mono ?_;rintro e w2 ⟨rfl,hb2⟩;have HB2:=Hd ((Below.refl wr.heap.size wr).drew.trans hb2);clear hb2;go_wp2_with fail;refine hK.out _ _ (HCC.out _ HB2.out) (fun hHeld=>?_);clear hK K;try simp only[Act.put,Ax,Ay,Az]
     refine Plan.start [5,6,7,8,9,10,11,12,13] ?_
     iterate 9 (refine Plan.tk (so rfl) hHeld ?_;try simp only[Act.put,Ax,Ay,Az])
     refine Plan.done ?_;refine Plan.start [14,15,16,17,18] ?_
     iterate 5 (refine Plan.take (v:=undef) (so rfl) (by kernel_rfl) (by kernel_rfl) (by kernel_rfl) (fun _ _ _ h=>h) (Or.inr ⟨by rfl,rfl⟩) hHeld ?_;try simp only[Act.put,Ax,Ay,Az])
     refine Plan.done ?_;refine Plan.start [19,20] ?_
     iterate 2 (refine Plan.tk (so rfl) hHeld ?_;try simp only[Act.put,Ax,Ay,Az])
     refine Plan.done ?_;refine Plan.start [21,22,23,24,25,26,27,28,29,30,31,32,33,34,35] ?_
     iterate 15 (refine Plan.take (v:=undef) (so rfl) (by kernel_rfl) (by kernel_rfl) (by kernel_rfl) (fun _ _ _ h=>h) (Or.inr ⟨by rfl,rfl⟩) hHeld ?_;try simp only[Act.put,Ax,Ay,Az])
     refine Plan.done ?_;refine Plan.start [36,37] ?_
     iterate 2 (refine Plan.tk (so rfl) hHeld ?_;try simp only[Act.put,Ax,Ay,Az])
     refine Plan.done ?_;refine Plan.start [38,39,40,41,42] ?_
     iterate 5 (refine Plan.take (v:=undef) (so rfl) (by kernel_rfl) (by kernel_rfl) (by kernel_rfl) (fun _ _ _ h=>h) (Or.inr ⟨by rfl,rfl⟩) hHeld ?_;try simp only[Act.put,Ax,Ay,Az])
     refine Plan.done ?_;refine Plan.start [43] ?_;refine Plan.tk (so rfl) hHeld ?_;try simp only[Act.put,Ax,Ay,Az]
     refine Plan.done ?_;refine wpAnyH_done (by kernel_rfl) ?_ _;clear hHeld;go_wp2_with fail;go_ret
     exact⟨by rw[HNO.out];rfl,HBr.out.trans (HB2.out.mono HBr.out.size)⟩
  ·have t1:decide ((i:Int)<(fs.length:Int))=false:=by simp;omega
   have HYES:Hid (Ca (Bf fs fv)=true):=Hd (Eb.2 fun j hj=>HOK.out j (by rw[D2] at hj;omega));clear hle hbr;go_wp2_with fail;go_ret
   exact⟨by rw[HYES.out];rfl,HBr.out⟩
theorem Qk {zs:List (List UInt8)} {x:List UInt8}:x∈Lib.compact zs↔∃ j,∃ h:j<zs.length,(j=0\/zs[j]!≠zs[j - 1]!)/\zs[j]=x:=by
 unfold Lib.compact Lib.compactUpTo;rw[List.mem_map]
 constructor
 ·rintro⟨j,hj,e⟩;obtain⟨h1,h2⟩:=List.mem_filter.1 hj;have h3:j<zs.length:=List.mem_range.1 h1;unfold Lib.keeps at h2;have h4:=of_decide_eq_true h2;simp only[List.getElem!_toArray] at h4 e;refine⟨j,h3,h4,?_⟩;rw[<-e,getElem!_pos zs j h3]
 ·rintro⟨j,h3,h4,e⟩;refine⟨j,List.mem_filter.2 ⟨List.mem_range.2 h3,?_⟩,?_⟩
  ·unfold Lib.keeps;refine decide_eq_true ?_;simp only[List.getElem!_toArray];exact h4
  ·simp only[List.getElem!_toArray];rw[getElem!_pos zs j h3,e]
theorem Ko {zs:List (List UInt8)} {x:List UInt8}:x∈Lib.compact zs↔x∈zs:=by
 rw[Qk]
 constructor
 ·rintro⟨j,h,_,e⟩;rw[<-e];exact List.getElem_mem h
 ·intro h;obtain⟨j,hj,e⟩:=List.getElem_of_mem h
  induction j with
  | zero=>exact⟨0,hj,.inl rfl,e⟩
  | succ j ih=>
   by_cases h2:zs[j+1]=zs[j]'(by omega)
   ·exact ih (by omega) (by rw[<-h2];exact e)
   ·refine⟨j+1,hj,.inr ?_,e⟩;rw[getElem!_pos zs (j+1) hj,Nat.add_sub_cancel,getElem!_pos zs j (by omega)];exact h2
theorem R2 {ss:List (List UInt8)} {x:List UInt8}:x∈ss.mergeSort (fun x y=>decide (x<=y))↔x∈ss:=(List.mergeSort_perm _ _).mem_iff
def H3 (l:List ByteArray):List ByteArray:=(Lib.compact ((l.map (·.data.toList)).mergeSort fun x y=>decide (x<=y))).map fun x=>⟨x.toArray⟩
theorem Ke (l:List ByteArray):(H3 l).length<=l.length:=by
 unfold H3 Lib.compact Lib.compactUpTo;rw[List.length_map,List.length_map];refine Nat.le_trans (List.length_filter_le _ _) ?_;rw[List.length_range,List.length_mergeSort,List.length_map];exact Nat.le_refl _
theorem Wo {l:List ByteArray} {x:ByteArray}:x∈H3 l↔x∈l:=by
 unfold H3;rw[List.mem_map]
 constructor
 ·rintro⟨y,hy,rfl⟩;rw[Ko,R2,List.mem_map] at hy;obtain⟨z,hz,e⟩:=hy;have:(⟨y.toArray⟩:ByteArray)=z:=Es (by rw[<-e]);rw[this];exact hz
 ·intro h;refine⟨x.data.toList,?_,Es rfl⟩;rw[Ko,R2];exact List.mem_map_of_mem h
theorem Wz {F:List Ty} {t:Ty} (hA:Lh F) {j:Nat} (hj:j<F.length) (h0:Bt F[j] t=0):Fc t F=F:=by
 have e:=Di.1 h0;refine F8 (Dp t hA) hA fun x=>?_;rw[Dk]
 constructor
 ·rintro (rfl | h)
  ·rw[<-e];exact List.getElem_mem hj
  ·exact h
 ·exact .inr
theorem Jet {F:List Ty} {t:Ty} {k:Nat} (hA:Lh F) (hlt:∀ j (h:j<F.length),j+1=k->Bt F[j] t = -1) {i:Nat} (hi:i<F.length) (hik:i<k) (hk:k<=F.length):Bt F[i] t = -1:=by
 rcases Nat.lt_or_ge (i+1) k with h | h
 ·have h1:=hlt (k - 1) (by omega) (by omega);have h2:=List.pairwise_iff_getElem.1 hA i (k - 1) hi (by omega) (by omega);exact Ff h2 h1
 ·exact hlt i hi (by omega)
theorem Ux {F:List Ty} {t:Ty} {k:Nat} (hA:Lh F) (hk:k<=F.length) (hgt:∀ j (h:j<F.length),k<=j->Bt F[j] t=1) (hlt:∀ j (h:j<F.length),j+1=k->Bt F[j] t = -1):Fc t F=F.take k++t :: F.drop k:=by
 refine F8 (Dp t hA) ?_ fun x=>?_
 ·have hA2:=hA;unfold Lh at hA2;rw[<-List.take_append_drop k F,List.pairwise_append] at hA2;obtain⟨h1,h2,h3⟩:=hA2;refine List.pairwise_append.2 ⟨h1,List.pairwise_cons.2 ⟨fun b hb=>?_,h2⟩,fun a ha b hb=>?_⟩
  ·obtain⟨j,hj,rfl⟩:=List.getElem_of_mem hb;rw[List.getElem_drop];exact Uv (hgt _ (by simp at hj;omega) (by omega))
  ·rcases List.mem_cons.1 hb with rfl | hb
   ·obtain⟨j,hj,rfl⟩:=List.getElem_of_mem ha;rw[List.getElem_take];exact Jet hA hlt (by simp at hj;omega) (by simp at hj;omega) hk
   ·exact h3 a ha b hb
 ·rw[Dk,List.mem_append,List.mem_cons]
  constructor
  ·rintro (h | h)
   ·exact .inr (.inl h)
   ·rw[<-List.take_append_drop k F] at h;rcases List.mem_append.1 h with h | h
    ·exact .inl h
    ·exact .inr (.inr h)
  ·rintro (h | h | h)
   ·exact .inr (List.mem_of_mem_take h)
   ·exact .inl h
   ·exact .inr (List.mem_of_mem_drop h)
theorem InT.set {K:Nat->Prop} {w0 w:World} {g c:Nat} {a b:List Ty} {x t:Ty} {cs:List Value} (h:InT K w0 w g c (a++x :: b)) (ht:RepT K w0 t cs):InT K w0 (w.setCells g (a.length*6) cs) g c (a++t :: b):=by
 have e:(a++x :: b).drop a.length=x :: b:=List.drop_left;have h1:InT K w0 w g c (a++(a++x :: b).drop a.length):=by rw[e];exact h
 have h2:=h1.put (by simp) ht;have e2:(a++x :: b).drop (a++[t]).length=b:=by
  rw[List.length_append,List.length_singleton,<-List.drop_drop,e];rfl
 rw[e2,List.append_assoc] at h2;exact h2
theorem InT.out {K:Nat->Prop} {w0 w:World} {g c:Nat} {ts:List Ty} (h:InT K w0 w g c ts) (hg:w0.heap.size<=g):OutT K w0 w (.slice (some ⟨g,0,none⟩) ts.length c) ts:=by
 obtain⟨cur,h1,h2⟩:=h.blk;have hle:=h.le;refine⟨cur.toList.take (ts.length*6),⟨by simp;omega,.inr ⟨g,c,cur,rfl,hg,h1,hle,h.mx,h2,rfl⟩⟩,fun i hi=>?_⟩;obtain⟨cs,h3,h4⟩:=h.reps i ts[i] (List.getElem?_eq_getElem hi);refine⟨cs,h3,fun j u hj=>?_⟩;have h5:=h4 j u hj;have hj6:=(List.getElem?_eq_some_iff.1 hj).1;rw[h3.six] at hj6;rw[cell_of_row _ _ _ _ _ _ h1] at h5;rw[List.getElem?_take,if_pos (by omega)];simpa using h5
end Go.Proofs.YtlpfpehegddcfaaGreatDoor

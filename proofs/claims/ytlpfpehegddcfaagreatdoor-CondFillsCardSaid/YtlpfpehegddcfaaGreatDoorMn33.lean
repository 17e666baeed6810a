import Derived.Test.YtlpfpehegddcfaaGreatDoorMn32
namespace Go.Proofs.YtlpfpehegddcfaaGreatDoor
set_option maxRecDepth 100000
set_option maxHeartbeats 64000000
open Go.RowKit
theorem ButG.set {O:Nat→Prop} {a w:World} (h:ButG O a w) {p:Addr} (hp:O p.block∨a.heap.size≤p.block) (u:Value):ButG O a (w.setCell p u):=
 ⟨h.os,h.tape,h.output,by have:=h.size;simpa [World.setCell] using this,fun k hk hn=>(Below.heap_setCell w p u k fun e=>hp.elim (fun h'=>hn (by rw[e];exact h')) fun h'=>by omega).trans (h.block k hk hn)⟩
theorem ButG.then {O:Nat→Prop} {a w w':World} (h:ButG O a w) (hb:Below w.heap.size w w'):ButG O a w':=
 h.trans (ButG.of_below (O:=fun _=>False) hb) fun _ hx=>hx.elim
theorem ButG.mono {O O':Nat→Prop} {a w:World} (h:ButG O a w) (ho:∀ x,O x→O' x):ButG O' a w:=
 ⟨h.os,h.tape,h.output,h.size,fun k hk hn=>h.block k hk fun e=>hn (ho k e)⟩
theorem ButG.up {O:Nat→Prop} {a w:World} (h:ButG O a w) {c:Nat} {o:Obj} (hc:¬ O c) (hx:a.heap[c]?=some o):w.heap[c]?=some o:=
 (h.block c (Array.getElem?_eq_some_iff.1 hx).1 hc).trans hx
theorem one_set {W:World} {b:Nat} {T:TypeId} {x0:Value} (h:W.heap[b]?=some (.cells #[x0] T (0,0))) (y:Value):(W.setCell ⟨b,0,none⟩ y).heap[b]?=some (.cells #[y] T (0,0)):=by
 simp only[World.setCell,Array.getElem?_modify,if_pos,h,Option.map_some]
 rfl
theorem six_one {W:World} {b:Nat} {T:TypeId} {cs:Array Value} (h:W.heap[b]?=some (.cells cs T (0,0))) (i:Nat) (y:Value):(W.setCell ⟨b,i,none⟩ y).heap[b]?=some (.cells (cs.setIfInBounds i y) T (0,0)):=by
 simp only[World.setCell,Array.getElem?_modify,if_pos,h,Option.map_some]
 rfl
theorem wp_append_wg {P:Nat→Prop} {B:Nat} {w:World} {v:Value} {l:List Ty} {t:Ty} {cs:List Value} {gg:Nat} {o:Oper} {a:Act} {Kc:Act→World→Prop} {Q:Exit→Act→World→Prop} (sl x:Operand)
  (ho:o.op=.call { callee:=.builtin .append,args:=#[sl,x],argTypes:=#[22,22] }) (hs:a.eval sl=v) (hx:a.eval x=.slice (some ⟨gg,0,none⟩) 1 1)
  (hO:OwnE (WhE P) 26 6 B w v l) (ht:RepT (fun b=>(b<w.heap.size∧v.ownBlock≠some b)∧P b) w t cs) (hc:∀ j u,cs[j]?=some u→w.cell? ⟨gg,j,none⟩=some u) (hB:B≤w.heap.size) (hsize:l.length+1≤1099511627776)
  (h:∀ v' w',OwnE (WhE P) 26 6 B w' v' (l++[t])→w.grownBy w' v.ownBlock→Kc (a.put o.dst v') w') :
  Oper.wp Tryz.prog o a w Kc Q:=by
 obtain⟨vs,hown,hreps⟩:=hO
 obtain⟨i0,hi0,hz0,hz1,hz2⟩:=partsT infoTy
 refine wp_append_own_at sl x 22 ho B 26 i0 _ 6 104 sliceTy hi0 hz0 hz1 hz2 (by decide) (by decide) v l.length vs hs hown ⟨gg,0,none⟩ 1 1 cs hx (by rw[ht.six]) (fun j u hj=>?_) (one_cells ht) (by simp only[maxLen];omega) (by omega) hB ?_
 ·have e2:((⟨gg,0,none⟩:Addr).add j)=⟨gg,j,none⟩:=by unfold Addr.add;by_cases h0:j=0 <;> simp[h0]
  rw[e2];exact hc j u hj
 ·intro v' w' g1 g2 _ g4
  exact h v' w' (OwnE.push (keepWh P) hown hreps (Below.refl _ _) ht ht.six g1 g2 g4).1 g2
theorem ListF.but {O K K':Nat→Prop} {a b:World} {l:FsT} {A:Option Addr} {c:Nat} (h:ListF K a l A c) (hb:ButG O a b) (hk:∀ x,K x→¬ O x∧K' x):ListF K' b l A c:=by
 obtain⟨g,o,h1,h2⟩:=h
 refine⟨g,o,h1.weak fun x hx=>(hk x hx).2,fun i hi=>?_⟩
 have hg:=(h1.some (by omega)).2
 obtain⟨h3,h4,h5,h6⟩:=h2 i hi
 exact⟨hb.cell (hk g hg).1 h3,hb.cell (hk g hg).1 h4,h5,h6.keep (fun x hx=>(hk x hx).2) (fun x _ _ hx hc=>hb.cell (hk x hx).1 hc) fun _ _ hc=>hb.cell (hk g hg).1 hc⟩
theorem ListV.but {O K K':Nat→Prop} {a b:World} {l:VsT} {A:Option Addr} {c:Nat} (h:ListV K a l A c) (hb:ButG O a b) (hk:∀ x,K x→¬ O x∧K' x):ListV K' b l A c:=by
 obtain⟨g,o,h1,h2⟩:=h
 refine⟨g,o,h1.weak fun x hx=>(hk x hx).2,fun i hi=>?_⟩
 have hg:=(h1.some (by omega)).2
 obtain⟨B,d,h3,h4,h5,h6⟩:=h2 i hi
 exact⟨B,d,hb.cell (hk g hg).1 h3,hb.cell (hk g hg).1 h4,h5,h6.but hb hk⟩
structure FPreJ (K:Nat→Prop) (b:Nat) (w:World) (k:Int) (s:ByteArray) (n:Int) (ps:List Ty) (fs:FsT) (vs:VsT) (A:Option Addr) (c:Nat) (B:Option Addr) (d:Nat) (C:Option Addr) (e:Nat) (w1:World) (g:Nat):Prop where
 HX:Hid (∀ wx,ButG (fun x=>x=b∨x=g+1) w1 wx→(wx.cell? ⟨w.heap.size,0,none⟩=some (.int .i64 k)∧wx.cell? ⟨w.heap.size,1,none⟩=some (.string s)∧wx.cell? ⟨w.heap.size,2,none⟩=some (.int .i64 n)∧wx.cell? ⟨w.heap.size,3,none⟩=some (.slice A ps.length c)∧wx.cell? ⟨w.heap.size,4,none⟩=some (.slice B fs.length d)∧wx.cell? ⟨w.heap.size,5,none⟩=some (.slice C vs.length e)))
 HY:Hid (∀ wx,ButG (fun x=>x=b∨x=g+1) w1 wx→wx.heap[g]?=some (.cells #[.int .i64 0,.string ⟨#[]⟩,.int .i64 0,.slice none 0 0,.slice none 0 0,.slice none 0 0] 26 (0,0)))
 HB:Hid (Below w.heap.size w w1)
 HS:Hid (w1.heap.size=g+1)
 HG:Hid (g=w.heap.size+1)
 HW:Hid (w1=(w.alloc (.cells #[.int .i64 k,.string s,.int .i64 n,.slice A ps.length c,.slice B fs.length d,.slice C vs.length e] 26)).alloc (.cells #[.int .i64 0,.string ⟨#[]⟩,.int .i64 0,.slice none 0 0,.slice none 0 0,.slice none 0 0] 26))
 HP:Hid (∀ wx,ButG (fun x=>x=b∨x=g+1) w1 wx→ListT K wx ps A c)
 HF:Hid (∀ wx,ButG (fun x=>x=b∨x=g+1) w1 wx→ListF K wx fs B d)
 HV:Hid (∀ wx,ButG (fun x=>x=b∨x=g+1) w1 wx→ListV K wx vs C e)
 HK:Hid (∀ x,K x→x<w.heap.size∧x≠b)
 HBB:Hid (b<w.heap.size)
 HT:Hid (s.size≤1000000000000000)
theorem fill_pre {K:Nat→Prop} {b:Nat} {w:World} {k:Int} {s:ByteArray} {n:Int} {ps:List Ty} {fs:FsT} {vs:VsT} {cs:List Value} {R:Prop} (hr:RepT K w (.mk k s n ps fs vs) cs) (hb:b<w.heap.size) (hK:∀ x,K x→x<w.heap.size∧x≠b)
  (main:∀ (A:Option Addr) (c:Nat) (B:Option Addr) (d:Nat) (C:Option Addr) (e:Nat) (w1:World) (g:Nat),FPreJ K b w k s n ps fs vs A c B d C e w1 g→cs=[.int .i64 k,.string s,.int .i64 n,.slice A ps.length c,.slice B fs.length d,.slice C vs.length e]→R):R:=by
 refine one_res hr fun A c B d C e w1 g h hcs=>?_
 obtain⟨HX,HY,HB1,HS1,HG,HW1,HR⟩:=h
 have hg:=HG.out
 have hs:=HS1.out
 obtain⟨_,_,_,_,_,_,he,ht,hL,hF,hV⟩:=HR.out.inv
 simp only[cells6T,List.cons.injEq,Value.slice.injEq] at he
 obtain⟨-,-,-,⟨rfl,-,rfl⟩,⟨rfl,-,rfl⟩,⟨rfl,-,rfl⟩,-⟩:=he
 have hk:∀ x,K x→¬ (x=b∨x=g+1)∧K x:=fun x hx=>⟨fun h=>by have h1:=hK x hx;rcases h with h | h <;> omega,hx⟩
 have h0:=HX.out w1 (Below.refl _ _)
 refine main A c B d C e w1 g ⟨Hd fun wx hx=>?_,Hd fun wx hx=>hx.up (by omega) HY.out,HB1,HS1,HG,HW1,Hd fun wx hx=>hL.but hx hk,Hd fun wx hx=>hF.but hx hk,Hd fun wx hx=>hV.but hx hk,Hd hK,Hd hb,Hd ht⟩ hcs
 have hn:¬ (w.heap.size=b∨w.heap.size=g+1):=by omega
 exact⟨hx.cell hn h0.1,hx.cell hn h0.2.1,hx.cell hn h0.2.2.1,hx.cell hn h0.2.2.2.1,hx.cell hn h0.2.2.2.2.1,hx.cell hn h0.2.2.2.2.2⟩
theorem ButG.put1 {b:Nat} {a w:World} (h:ButG (fun x=>x=b) a w) (i:Nat) (u:Value):ButG (fun x=>x=b) a (w.setCell ⟨b,i,none⟩ u):=
 ButG.set (O:=fun x=>x=b) (p:=⟨b,i,none⟩) h (.inl rfl) u
theorem six_butG (w:World) (g:Nat) (y0 y1 y2 y3 y4 y5:Value):ButG (fun x=>x=g) w ((((((w.setCell ⟨g,0,none⟩ y0).setCell ⟨g,1,none⟩ y1).setCell ⟨g,2,none⟩ y2).setCell ⟨g,3,none⟩ y3).setCell ⟨g,4,none⟩ y4).setCell ⟨g,5,none⟩ y5):=
 ((((((ButG.refl _ _).put1 0 y0).put1 1 y1).put1 2 y2).put1 3 y3).put1 4 y4).put1 5 y5
theorem ButG.fin {b g:Nat} {w w1 w6 W:World} (h1:Below w.heap.size w w1) (h2:ButG (fun x=>x=b∨x=g+1) w1 w6) (hg:g=w.heap.size+1) (h3:ButG (fun x=>x=g) w6 W):ButG (fun x=>x=b) w W:=
 ((ButG.of_below (O:=fun x=>x=b) h1).trans h2 fun x hx=>hx.imp id fun h=>by omega).trans h3 fun x hx=>.inr (by omega)
theorem ButG.from {O:Nat→Prop} {a w w':World} (hb:Below a.heap.size a w) (h:ButG O w w'):ButG O a w':=
 (ButG.of_below (O:=O) hb).trans h fun _ hx=>.inl hx
theorem eqn_ty (w:World) (a:Option Addr) (l c:Nat):(binOp .eql 22 (.slice a l c) (.slice none 0 0)).run Tryz.prog w=.ok (.bool a.isNone) w:=by
 simp[binOp,run_equal_slice_nil w 22 26 a l c sliceTy]
theorem clone_ty (ad:Addr) (n c:Nat) (news:List Value) (w:World) (hn:n≤1000000) (hl:news.length=n*6) (h1:∀ u∈news,u.oneCell'=true) (h:∀ j u,news[j]?=some u→w.cell? (ad.add j)=some u) :
  Calls Tryz.prog 66 #[.slice (some ad) n c] w fun e w'=>∃ g c',e=.returned (.slice (some ⟨g,0,none⟩) n c')∧w.heap.size≤g∧g<w'.heap.size∧n≤c'∧w'.ownsRow w.heap.size 26 6 (.slice (some ⟨g,0,none⟩) n c') n news∧Below w.heap.size w w':=by
 obtain⟨i0,hi0,hz0,hz1,hz2⟩:=partsT infoTy
 have HS:=Hd h
 have HN:=Hd hn
 have HL:=Hd hl
 have HO:=Hd h1
 have hq:=eqn_ty w (some ad) n c
 simp only[Option.isNone_some] at hq
 clear h hn hl h1
 go_enter Tryz.func66,Tryz.ntmps66
 have HE:=Hd (World.ownsRow_lit (base:=w.heap.size) (e:=26) (size:=6) w #[] 0 (Nat.le_refl _) (by decide) rfl)
 go_wp2_with (at_builtin;go_loud (refine wpList_append_own _ rfl _ _ 22 rfl w.heap.size 26 i0 (.agg #[.int .i64 0,.string ⟨#[]⟩,.int .i64 0,.slice none 0 0,.slice none 0 0,.slice none 0 0]) 6 104 sliceTy hi0 hz0 hz1 hz2 rfl (by decide) _ _ _ rfl HE.out ad n c news rfl ?a0 ?a1 ?a2 ?a3 ?a4 ?a5 ?_))
 case a0=>exact HL.out
 case a1=>exact fun j u hj=>cell_stays ((Below.refl _ _).alloc (Nat.le_refl _) _) (HS.out j u hj)
 case a2=>exact HO.out
 case a3=>exact Nat.le_trans HN.out (by decide:1000000≤maxLen)
 case a4=>have:=HN.out;omega
 intro v' w' hown hgrow hne
 obtain⟨g,cap,hv,hbg,hgl,hnc,hrow⟩:∃ g cap,v'=.slice (some ⟨g,0,none⟩) n cap∧w.heap.size≤g∧g<w'.heap.size∧n≤cap∧w'.ownsRow w.heap.size 26 6 (.slice (some ⟨g,0,none⟩) n cap) n news:=by
  have h2:=hown.2
  rcases h2 with ⟨h3,h4⟩ | ⟨g,cap,cur,h3,h4,h5,h6,_⟩
  ·exact absurd h3 hne
  ·subst h3
   exact⟨g,cap,rfl,h4,(Array.getElem?_eq_some_iff.1 h5).1,h6,hown⟩
 subst hv
 have hb:Below w.heap.size w w':=((Below.refl w.heap.size w).alloc (Nat.le_refl _) (.cells #[] 26)).grown hgrow (by simp) (fun k hk=>by simp[Value.ownBlock] at hk;omega)
 have HB:=Hd hb
 have HR:=Hd hrow
 clear hown hgrow hne hb hrow
 go_wp2
 go_ret
 exact⟨g,cap,rfl,hbg,hgl,hnc,HR.out,HB.out⟩
theorem clone_ty_nil (w:World) :
  Calls Tryz.prog 66 #[.slice none 0 0] w fun e w'=>e=.returned (.slice none 0 0)∧w=w':=by
 have hq:=eqn_ty w none 0 0
 simp only[Option.isNone_none] at hq
 go_enter Tryz.func66,Tryz.ntmps66
 go_wp2_with fail
 go_ret
 exact⟨rfl,rfl⟩
theorem eqn_fl (w:World) (a:Option Addr) (l c:Nat):(binOp .eql 23 (.slice a l c) (.slice none 0 0)).run Tryz.prog w=.ok (.bool a.isNone) w:=by
 simp[binOp,run_equal_slice_nil w 23 59 a l c Tryz.underlying23]
theorem clone_fl (ad:Addr) (n c:Nat) (news:List Value) (w:World) (hn:n≤1000000) (hl:news.length=n*8) (h1:∀ u∈news,u.oneCell'=true) (h:∀ j u,news[j]?=some u→w.cell? (ad.add j)=some u) :
  Calls Tryz.prog 67 #[.slice (some ad) n c] w fun e w'=>∃ g c',e=.returned (.slice (some ⟨g,0,none⟩) n c')∧w.heap.size≤g∧g<w'.heap.size∧n≤c'∧w'.ownsRow w.heap.size 59 8 (.slice (some ⟨g,0,none⟩) n c') n news∧Below w.heap.size w w':=by
 obtain⟨i0,hi0,hz0,hz1,hz2⟩:=partsT infoFl
 have HS:=Hd h
 have HN:=Hd hn
 have HL:=Hd hl
 have HO:=Hd h1
 have hq:=eqn_fl w (some ad) n c
 simp only[Option.isNone_some] at hq
 clear h hn hl h1
 go_enter Tryz.func67,Tryz.ntmps67
 have HE:=Hd (World.ownsRow_lit (base:=w.heap.size) (e:=59) (size:=8) w #[] 0 (Nat.le_refl _) (by decide) rfl)
 go_wp2_with (at_builtin;go_loud (refine wpList_append_own _ rfl _ _ 23 rfl w.heap.size 59 i0 (.agg #[.string ⟨#[]⟩,.int .i64 0,.int .i64 0,.string ⟨#[]⟩,.int .i64 0,.slice none 0 0,.slice none 0 0,.slice none 0 0]) 8 128 Tryz.underlying23 hi0 hz0 hz1 hz2 rfl (by decide) _ _ _ rfl HE.out ad n c news rfl ?a0 ?a1 ?a2 ?a3 ?a4 ?a5 ?_))
 case a0=>exact HL.out
 case a1=>exact fun j u hj=>cell_stays ((Below.refl _ _).alloc (Nat.le_refl _) _) (HS.out j u hj)
 case a2=>exact HO.out
 case a3=>exact Nat.le_trans HN.out (by decide:1000000≤maxLen)
 case a4=>have:=HN.out;omega
 intro v' w' hown hgrow hne
 obtain⟨g,cap,hv,hbg,hgl,hnc,hrow⟩:∃ g cap,v'=.slice (some ⟨g,0,none⟩) n cap∧w.heap.size≤g∧g<w'.heap.size∧n≤cap∧w'.ownsRow w.heap.size 59 8 (.slice (some ⟨g,0,none⟩) n cap) n news:=by
  have h2:=hown.2
  rcases h2 with ⟨h3,h4⟩ | ⟨g,cap,cur,h3,h4,h5,h6,_⟩
  ·exact absurd h3 hne
  ·subst h3
   exact⟨g,cap,rfl,h4,(Array.getElem?_eq_some_iff.1 h5).1,h6,hown⟩
 subst hv
 have hb:Below w.heap.size w w':=((Below.refl w.heap.size w).alloc (Nat.le_refl _) (.cells #[] 59)).grown hgrow (by simp) (fun k hk=>by simp[Value.ownBlock] at hk;omega)
 have HB:=Hd hb
 have HR:=Hd hrow
 clear hown hgrow hne hb hrow
 go_wp2
 go_ret
 exact⟨g,cap,rfl,hbg,hgl,hnc,HR.out,HB.out⟩
theorem clone_fl_nil (w:World) :
  Calls Tryz.prog 67 #[.slice none 0 0] w fun e w'=>e=.returned (.slice none 0 0)∧w=w':=by
 have hq:=eqn_fl w none 0 0
 simp only[Option.isNone_none] at hq
 go_enter Tryz.func67,Tryz.ntmps67
 go_wp2_with fail
 go_ret
 exact⟨rfl,rfl⟩
theorem formed_ref {K:Nat→Prop} {w:World} {t:Ty} {cs:List Value} (hr:RepT K w t cs) :
  Calls Tryz.prog 15 #[.agg cs.toArray] w fun e w'=>e=.returned (.bool (formedT t))∧Below w.heap.size w w':=by
 have hN:=nod_any t
 have hFo:=form_ref t
 have hsp:formedT t=(decide (cntT t≤4096) && formT t):=rfl
 generalize hft:formT t=r at hsp
 obtain⟨k,s,n,ps,fs,vs⟩:=t
 have KN:=Hd fun wx (hx:Below w.heap.size w wx)=>hN K wx cs (hr.later hx)
 have KF:=Hd fun wx (hx:Below w.heap.size w wx) h=>hFo K wx cs (hr.later hx) h
 obtain⟨A,c,A',c',A'',c'',rfl,-⟩:=hr.inv
 simp only[cells6T] at KN KF ⊢
 rw[hft] at KF
 obtain⟨w1,hw1⟩:∃ x,x=w.alloc (.cells #[.int .i64 k,.string s,.int .i64 n,.slice A ps.length c,.slice A' fs.length c',.slice A'' vs.length c''] 26):=⟨_,rfl⟩
 have hb1:Below w.heap.size w w1:=by rw[hw1];exact (Below.refl _ _).alloc (Nat.le_refl _) _
 have hs1:w1.heap.size=w.heap.size+1:=by rw[hw1];simp
 have hx0:w1.heap[w.heap.size]?=some (.cells #[.int .i64 k,.string s,.int .i64 n,.slice A ps.length c,.slice A' fs.length c',.slice A'' vs.length c''] 26 (0,0)):=by rw[hw1];exact heap_alloc_new w _
 have HB1:=Hd hb1
 have HS1:=Hd hs1
 have HX0:=Hd hx0
 have HW1:=Hd hw1
 have HSP:=Hd hsp
 generalize cntT (.mk k s n ps fs vs)=q at KN KF HSP
 clear hr hN hFo hb1 hs1 hx0 hw1 hsp hft
 go_enter Tryz.func15,Tryz.ntmps15
 go_upto_region 1 with fail
 rw[←HW1.out]
 obtain⟨x0,x1,x2,x3,x4,x5⟩:=cz6 HX0.out
 go_wp2_with fail
 refine (KN.out _ HB1.out).mono ?_
 rintro e w2 ⟨rfl,hg⟩
 have HB2:=Hd (HB1.out.trans (hg.below.mono HB1.out.size))
 have h2:=box_up hg.below (by have:=HS1.out;omega) HX0.out
 clear x0 x1 x2 x3 x4 x5 hg KN
 obtain⟨x0,x1,x2,x3,x4,x5⟩:=cz6 h2
 clear h2
 by_cases hq:q≤4096
 ·have t1:decide ((capN q:Int)≤4096)=true:=decide_eq_true (by unfold capN;omega)
  have t2:decide (capN q≤4096)=true:=decide_eq_true (by unfold capN;omega)
  have KF2:=Hd (KF.out _ HB2.out (by omega))
  have HV:Hid (formedT (.mk k s n ps fs vs)=r):=Hd (by rw[HSP.out,decide_eq_true hq];rfl)
  clear hq KF
  go_wp2_with fail
  refine KF2.out.mono ?_
  rintro e w3 ⟨rfl,hb3⟩
  have HB3:=Hd (HB2.out.trans (hb3.mono HB2.out.size))
  clear hb3 KF2
  go_wp2_with fail
  go_ret
  exact⟨by rw[HV.out];rfl,HB3.out⟩
 ·have t1:decide ((capN q:Int)≤4096)=false:=decide_eq_false (by unfold capN;omega)
  have t2:decide (capN q≤4096)=false:=decide_eq_false (by unfold capN;omega)
  have HV:Hid (formedT (.mk k s n ps fs vs)=false):=Hd (by rw[HSP.out,decide_eq_false hq];rfl)
  clear hq KF
  go_wp2_with fail
  go_ret
  exact⟨by rw[HV.out];rfl,HB2.out⟩
theorem wrap_kindJ (n:Int):IntKind.i64.wrap n=wrap64 n:=by unfold wrap64;exact IntKind.wrap_i64 n
theorem fillNs_le {F:ByteArray→Option Ty} (k:Int):∀ (l:List Ty) (j i:Nat),fillNs F k j (l.take i)≤fillNs F k j l
 | [],j,i=>by rw[List.take_nil];exact Nat.le_refl _
 | p :: l,j,0=>by rw[List.take_zero,fillNs];exact Nat.zero_le _
 | p :: l,j,i+1=>by
  rw[List.take_succ_cons,fillNs,fillNs]
  have:=fillNs_le (F:=F) k l (j+1) i
  omega
theorem fillNf_le {F:ByteArray→Option Ty}:∀ (l:FsT) (i:Nat),fillNf F (l.take i)≤fillNf F l
 | [],i=>by rw[List.take_nil];exact Nat.le_refl _
 | (a,b,t) :: l,0=>by rw[List.take_zero,fillNf];exact Nat.zero_le _
 | (a,b,t) :: l,i+1=>by
  rw[List.take_succ_cons,fillNf,fillNf]
  have:=fillNf_le (F:=F) l i
  omega
theorem lenJ:∀ l:List Ty,l.length≤cntL l
 | []=>Nat.le_refl _
 | a :: l=>by
  rw[cntL_cons,List.length_cons]
  have:=lenJ l
  have:=cntT_pos a
  omega
theorem lenFJ:∀ fs:FsT,fs.length≤cntF fs
 | []=>Nat.le_refl _
 | a :: l=>by
  have e:cntF (a :: l)=cntT a.2.2+cntF l:=by simp[cntF]
  rw[e,List.length_cons]
  have:=lenFJ l
  have:=cntT_pos a.2.2
  omega
theorem fillNf_nil {F:ByteArray→Option Ty}:fillNf F []=0:=by rw[fillNf]
theorem cntV_nextJ:∀ (l:VsT) (i:Nat) (h:i<l.length),cntV (l.take (i+1))=cntV (l.take i)+cntL l[i].2
 | a :: l,0,_=>by simp[cntV]
 | a :: l,i+1,h=>by
  have h2:i<l.length:=by simpa using h
  have ih:=cntV_nextJ l i h2
  have e:∀ m:VsT,cntV (a :: m)=cntL a.2+cntV m:=fun m=>rfl
  rw[List.take_succ_cons,List.take_succ_cons,e,e,ih,List.getElem_cons_succ]
  omega
theorem cntV_takeJ:∀ (l:VsT) (i:Nat),cntV (l.take i)≤cntV l
 | [],i=>by rw[List.take_nil];exact Nat.le_refl _
 | a :: l,0=>by rw[List.take_zero];exact Nat.zero_le _
 | a :: l,i+1=>by
  have ih:=cntV_takeJ l i
  have e:∀ m:VsT,cntV (a :: m)=cntL a.2+cntV m:=fun m=>rfl
  rw[List.take_succ_cons,e,e]
  omega
theorem cnt_end1 {a p f v u:Nat} (h:a≤p*4097) (hu:u≤a+2):u≤(1+(p+(f+v)))*4097:=by
 rw[Nat.add_mul,Nat.add_mul];omega
theorem cnt_end2 {a c p f v:Nat} (h:a≤p*4097) (h2:c≤f*4097):1+(a+(c+v))≤(1+(p+(f+v)))*4097:=by
 rw[Nat.add_mul,Nat.add_mul,Nat.add_mul];omega
structure St1 (P:Nat→Prop) (b g:Nat) (k:Int) (s:ByteArray) (n:Int) (Cv:Value) (w1 wr:World) (m:Nat) (A5:Option Addr) (c5:Nat) (S:List Ty):Prop where
 cnt:wr.heap[b]?=some (.cells #[.int .i64 m] 75 (0,0))
 out:wr.heap[g+1]?=some (.cells #[.int .i64 k,.string s,.int .i64 n,.slice A5 S.length c5,.slice none 0 0,Cv] 26 (0,0))
 row:OwnE (WhE P) 26 6 (g+2) wr (.slice A5 S.length c5) S
 but:ButG (fun x=>x=b∨x=g+1) w1 wr
structure St2 (P:Nat→Prop) (b g:Nat) (k:Int) (s:ByteArray) (n:Int) (Cv:Value) (w1 wr:World) (m:Nat) (A5:Option Addr) (c5:Nat) (S:List Ty) (A6:Option Addr) (c6:Nat) (Sf:FsT):Prop where
 cnt:wr.heap[b]?=some (.cells #[.int .i64 m] 75 (0,0))
 out:wr.heap[g+1]?=some (.cells #[.int .i64 k,.string s,.int .i64 n,.slice A5 S.length c5,.slice A6 Sf.length c6,Cv] 26 (0,0))
 fld:OwnE (FlE P) 59 8 w1.heap.size wr (.slice A6 Sf.length c6) Sf
 but:ButG (fun x=>x=b∨x=g+1) w1 wr
def FillIh (K K':Nat→Prop) (b:Nat) (L:List (ByteArray×Ty)) (AL:Option Addr) (cL:Nat) (F:ByteArray→Option Ty) (p:Ty):Prop:=∀ (wx:World) (es:List Value) (m:Nat),RepT K wx p es→ListD K' wx L AL cL→(∀ x,K x∨K' x→x<wx.heap.size∧x≠b)→wx.heap[b]?=some (.cells #[.int .i64 m] 75 (0,0))→m≤4096→Calls Tryz.prog 37 #[.pointer (some ⟨b,0,none⟩),.agg es.toArray,.slice AL L.length cL] wx (FillA (fun x=>(K x∨K' x)∨wx.heap.size≤x) b 75 wx F p m)
theorem FillA.get {P:Nat→Prop} {b:Nat} {T:TypeId} {w:World} {F:ByteArray→Option Ty} {p:Ty} {m:Nat} {e:Ending} {w':World} (h:FillA P b T w F p m e w'):∃ (rs:List Value) (u:Ty) (n1:Nat),e=.returned (.agg rs.toArray)∧RepT P w' u rs∧w'.heap[b]?=some (.cells #[.int .i64 n1] T (0,0))∧Exact n1 (m+fillN F p) u (fillT F p)∧n1≤8192+cntT p∧cntT u≤cntT p*4097∧ButG (fun x=>x=b) w w':=by
 obtain⟨rs,u,n1,h1,h2,h3,h4,h5,h6,h7,h8⟩:=h
 exact⟨rs,u,n1,h1,h2,h3,⟨h4,h5⟩,h6,h7,h8⟩
theorem put6_far {w:World} {g y:Nat} {v0 v1 v2 v3 v4 v5:Value} {p:Addr} (h:p.block≠g∨p.off<y∨y+6≤p.off):(put6 w g y v0 v1 v2 v3 v4 v5).cell? p=w.cell? p:=by
 have hne:∀ i,i<6→(⟨g,y+i,none⟩:Addr)≠p:=fun i hi e=>by
  subst e
  rcases h with h | h | h
  ·exact h rfl
  ·have h:y+i<y:=h
   omega
  ·have h:y+6≤y+i:=h
   omega
 unfold put6
 rw[World.cell?_setCell_other _ _ _ _ (hne 5 (by omega)),World.cell?_setCell_other _ _ _ _ (hne 4 (by omega)),World.cell?_setCell_other _ _ _ _ (hne 3 (by omega)),World.cell?_setCell_other _ _ _ _ (hne 2 (by omega)),World.cell?_setCell_other _ _ _ _ (hne 1 (by omega)),World.cell?_setCell_other _ _ _ _ (show (⟨g,y,none⟩:Addr)≠p from hne 0 (by omega))]
theorem put6_but {O:Nat→Prop} {a w:World} {g y:Nat} {v0 v1 v2 v3 v4 v5:Value} (h:ButG O a w) (hg:O g∨a.heap.size≤g):ButG O a (put6 w g y v0 v1 v2 v3 v4 v5):=
 (((((h.set (p:=⟨g,y,none⟩) hg v0).set (p:=⟨g,y+1,none⟩) hg v1).set (p:=⟨g,y+2,none⟩) hg v2).set (p:=⟨g,y+3,none⟩) hg v3).set (p:=⟨g,y+4,none⟩) hg v4).set (p:=⟨g,y+5,none⟩) hg v5
theorem rep_put6 {P:Nat→Prop} {w:World} {g y:Nat} {v0 v1 v2 v3 v4 v5:Value} {t:Ty} {cs:List Value} (hP:∀ x,P x→x≠g) (hr:RepT P w t cs):RepT P (put6 w g y v0 v1 v2 v3 v4 v5) t cs:=
 RepT.keep (fun _ h=>h) (fun b o v hk hc=>by rw[put6_far (.inl (hP b hk))];exact hc) t cs hr
structure PlT (P:Nat→Prop) (w:World) (g:Nat) (l:List Ty):Prop where
 lt:g<w.heap.size
 cell:∀ y,y<l.length*6→∃ v,w.cell? ⟨g,y,none⟩=some v
 free:∀ y,w.frozen? ⟨g,y,none⟩=false
 reps:∀ i (h:i<l.length),∃ cs,RepT P w l[i] cs∧∀ j u,cs[j]?=some u→w.cell? ⟨g,i*6+j,none⟩=some u
theorem PlT.weak {P P':Nat→Prop} {w:World} {g:Nat} {l:List Ty} (h:PlT P w g l) (hp:∀ x,P x→P' x):PlT P' w g l:=
 ⟨h.lt,h.cell,h.free,fun i hi=>by obtain⟨cs,h1,h2⟩:=h.reps i hi;exact⟨cs,h1.weak hp,h2⟩⟩
theorem frozen_block {w w':World} {g y:Nat} (h:w'.heap[g]?=w.heap[g]?) (h0:w.frozen? ⟨g,y,none⟩=false):w'.frozen? ⟨g,y,none⟩=false:=by
 unfold World.frozen? at h0 ⊢
 simp only at h0 ⊢
 rw[h]
 exact h0
theorem PlT.but {P O:Nat→Prop} {w w':World} {g:Nat} {l:List Ty} (h:PlT P w g l) (hb:ButG O w w') (hg:¬ O g) (hp:∀ x,P x→¬ O x):PlT P w' g l:=
 ⟨Nat.lt_of_lt_of_le h.lt hb.size,fun y hy=>by obtain⟨v,hv⟩:=h.cell y hy;exact⟨v,hb.cell hg hv⟩,fun y=>frozen_block (hb.block g h.lt hg) (h.free y),
  fun i hi=>by obtain⟨cs,h1,h2⟩:=h.reps i hi;exact⟨cs,h1.but hb fun x hx=>⟨hp x hx,hx⟩,fun j u hj=>hb.cell hg (h2 j u hj)⟩⟩
theorem PlT.set {P:Nat→Prop} {w:World} {g i:Nat} {l:List Ty} {t:Ty} {v0 v1 v2 v3 v4 v5:Value} (h:PlT P w g l) (hP:∀ x,P x→x≠g) (hi:i<l.length) (ht:RepT P w t [v0,v1,v2,v3,v4,v5]):PlT P (put6 w g (i*6) v0 v1 v2 v3 v4 v5) g (l.set i t):=by
 refine⟨by rw[put6_size];exact h.lt,fun y hy=>?_,fun y=>?_,fun k hk=>?_⟩
 ·rw[List.length_set] at hy
  exact some_set (some_set (some_set (some_set (some_set (some_set (h.cell y hy))))))
 ·simp only[put6,World.frozen?_setCell]
  exact h.free y
 ·rw[List.length_set] at hk
  by_cases e:i=k
  ·subst e
   refine⟨_,by rw[List.getElem_set_self];exact rep_put6 hP ht,fun j u hj=>put6_at (fun x hx=>h.cell _ (by omega)) j u hj⟩
  ·obtain⟨cs,h1,h2⟩:=h.reps k hk
   have h6:=h1.six
   refine⟨cs,by rw[List.getElem_set_ne e];exact rep_put6 hP h1,fun j u hj=>?_⟩
   have hj6:=(List.getElem?_eq_some_iff.1 hj).1
   rw[put6_far (.inr (by show k*6+j<i*6∨i*6+6≤k*6+j;omega))]
   exact h2 j u hj
theorem PlT.list {P:Nat→Prop} {w:World} {g c:Nat} {l:List Ty} (h:PlT P w g l) (hc:l.length≤c) (hl:l.length≤1000000000000000):ListT (fun x=>P x∨x=g) w l (some ⟨g,0,none⟩) c:=
 ⟨g,0,⟨hc,hl,(fun h=>by cases h),fun _=>⟨rfl,.inr rfl⟩⟩,fun i hi=>by
  obtain⟨cs,h1,h2⟩:=h.reps i hi
  exact⟨cs,fun j u hj=>by rw[Nat.zero_add];exact h2 j u hj,h1.weak fun b hb=>.inl hb⟩⟩
theorem clone_types {K:Nat→Prop} {w:World} {l:List Ty} {b o c:Nat} (hL:∀ i (h:i<l.length),AtT K w l[i] b (o+i*6)) (hn:l.length≤1000000) :
  Calls Tryz.prog 66 #[.slice (some ⟨b,o,none⟩) l.length c] w fun e w'=>∃ g c',e=.returned (.slice (some ⟨g,0,none⟩) l.length c')∧w.heap.size≤g∧l.length≤c'∧PlT K w' g l∧Below w.heap.size w w':=by
 obtain⟨news,h1,h2,h3,h4⟩:=row_cells hL
 refine (clone_ty ⟨b,o,none⟩ l.length c news w hn h1 h3 fun j u hj=>?_).mono ?_
 ·have e2:((⟨b,o,none⟩:Addr).add j)=⟨b,o+j,none⟩:=by unfold Addr.add;by_cases h0:j=0 <;> simp[h0]
  rw[e2];exact h2 j u hj
 ·rintro e w' ⟨g,c',rfl,hg,hgl,hc,hown,hb⟩
  refine⟨g,c',rfl,hg,hc,?_,hb⟩
  rcases hown.2 with ⟨hv,hz⟩ | ⟨g',cap,cur,hv,hB,hh,hle,hmax,hsz,htk⟩
  ·cases hv
  ·injection hv with hv _ _
   injection hv with hv
   injection hv with hv
   subst hv
   have hcell:∀ y u,news[y]?=some u→w'.cell? ⟨g,y,none⟩=some u:=fun y u hy=>by
    rw[←htk,List.getElem?_take] at hy
    split at hy
    ·rw[Ch hh];simpa using hy
    ·cases hy
   refine⟨hgl,fun y hy=>?_,fun y=>Lib.frozen_of_heap hh y,fun i hi=>?_⟩
   ·have hy2:y<news.length:=by omega
    exact⟨news[y],hcell y _ (List.getElem?_eq_getElem hy2)⟩
   ·obtain⟨cs,h5,h6⟩:=h4 i hi
    exact⟨cs,h5.later hb,fun j u hj=>hcell _ u (h6 j u hj)⟩
end Go.Proofs.YtlpfpehegddcfaaGreatDoor

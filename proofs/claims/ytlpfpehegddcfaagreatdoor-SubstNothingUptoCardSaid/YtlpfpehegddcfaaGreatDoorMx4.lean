import Derived.Test.YtlpfpehegddcfaaGreatDoorMx3
namespace Go.Proofs.YtlpfpehegddcfaaGreatDoor
set_option maxRecDepth 100000
set_option maxHeartbeats 64000000
open Go.RowKit
structure Shp where
 t:Bool
 n:Bool
 f:Bool
 v:Bool
 lo:Int
 hi:Int
 known:Bool
def Ak (k:Int):Shp:=
 if 1<=k/\k<=8 then ⟨false,false,false,false,0,0,true⟩ else if k=9 then ⟨false,true,false,false,0,0,true⟩ else if k=10\/k=16\/k=22 then ⟨true,false,false,false,0,0,true⟩
 else if k=11\/k=18 then ⟨false,false,false,false,1,1,true⟩ else if k=12 then ⟨false,false,false,false,0,-1,true⟩ else if k=13 then ⟨false,false,false,true,1,-1,true⟩
 else if k=14 then ⟨false,false,true,false,0,0,true⟩ else if k=15\/k=23 then ⟨false,false,false,false,2,-1,true⟩ else if k=17 then ⟨true,false,false,false,0,-1,true⟩
 else if k=19 then ⟨false,false,false,false,2,2,true⟩ else if k=20 then ⟨true,true,false,false,2,2,true⟩ else if k=21 then ⟨true,true,false,false,4,4,true⟩ else ⟨false,false,false,false,0,0,false⟩
def Cn (s:Shp):Value:=.agg #[.bool s.t,.bool s.n,.bool s.f,.bool s.v,.int .i64 s.lo,.int .i64 s.hi]
theorem Jcr (w:World):Calls Tryz.prog 94 #[.int .i64 1] w fun e w'=>e=.returned (.tuple #[Cn (Ak 1),.bool (Ak 1).known])/\Below w.heap.size w w':=by
 go_enter Tryz.func94,Tryz.ntmps94;go_wp2_with fail;exact bodyPost_ret (v:=.tuple #[Cn (Ak 1),.bool (Ak 1).known]) (by simp[results,Tryz.results94,go_sem,Cn,Ak]) rfl ⟨rfl,(Below.refl _ _).alloc (Nat.le_refl _) _⟩
theorem Jcs (w:World):Calls Tryz.prog 94 #[.int .i64 2] w fun e w'=>e=.returned (.tuple #[Cn (Ak 2),.bool (Ak 2).known])/\Below w.heap.size w w':=by
 go_enter Tryz.func94,Tryz.ntmps94;go_wp2_with fail;exact bodyPost_ret (v:=.tuple #[Cn (Ak 2),.bool (Ak 2).known]) (by simp[results,Tryz.results94,go_sem,Cn,Ak]) rfl ⟨rfl,(Below.refl _ _).alloc (Nat.le_refl _) _⟩
theorem Jct (w:World):Calls Tryz.prog 94 #[.int .i64 3] w fun e w'=>e=.returned (.tuple #[Cn (Ak 3),.bool (Ak 3).known])/\Below w.heap.size w w':=by
 go_enter Tryz.func94,Tryz.ntmps94;go_wp2_with fail;exact bodyPost_ret (v:=.tuple #[Cn (Ak 3),.bool (Ak 3).known]) (by simp[results,Tryz.results94,go_sem,Cn,Ak]) rfl ⟨rfl,(Below.refl _ _).alloc (Nat.le_refl _) _⟩
theorem Jcu (w:World):Calls Tryz.prog 94 #[.int .i64 4] w fun e w'=>e=.returned (.tuple #[Cn (Ak 4),.bool (Ak 4).known])/\Below w.heap.size w w':=by
 go_enter Tryz.func94,Tryz.ntmps94;go_wp2_with fail;exact bodyPost_ret (v:=.tuple #[Cn (Ak 4),.bool (Ak 4).known]) (by simp[results,Tryz.results94,go_sem,Cn,Ak]) rfl ⟨rfl,(Below.refl _ _).alloc (Nat.le_refl _) _⟩
theorem Jcv (w:World):Calls Tryz.prog 94 #[.int .i64 5] w fun e w'=>e=.returned (.tuple #[Cn (Ak 5),.bool (Ak 5).known])/\Below w.heap.size w w':=by
 go_enter Tryz.func94,Tryz.ntmps94;go_wp2_with fail;exact bodyPost_ret (v:=.tuple #[Cn (Ak 5),.bool (Ak 5).known]) (by simp[results,Tryz.results94,go_sem,Cn,Ak]) rfl ⟨rfl,(Below.refl _ _).alloc (Nat.le_refl _) _⟩
theorem Jcw (w:World):Calls Tryz.prog 94 #[.int .i64 6] w fun e w'=>e=.returned (.tuple #[Cn (Ak 6),.bool (Ak 6).known])/\Below w.heap.size w w':=by
 go_enter Tryz.func94,Tryz.ntmps94;go_wp2_with fail;exact bodyPost_ret (v:=.tuple #[Cn (Ak 6),.bool (Ak 6).known]) (by simp[results,Tryz.results94,go_sem,Cn,Ak]) rfl ⟨rfl,(Below.refl _ _).alloc (Nat.le_refl _) _⟩
theorem Jcx (w:World):Calls Tryz.prog 94 #[.int .i64 7] w fun e w'=>e=.returned (.tuple #[Cn (Ak 7),.bool (Ak 7).known])/\Below w.heap.size w w':=by
 go_enter Tryz.func94,Tryz.ntmps94;go_wp2_with fail;exact bodyPost_ret (v:=.tuple #[Cn (Ak 7),.bool (Ak 7).known]) (by simp[results,Tryz.results94,go_sem,Cn,Ak]) rfl ⟨rfl,(Below.refl _ _).alloc (Nat.le_refl _) _⟩
theorem Jcy (w:World):Calls Tryz.prog 94 #[.int .i64 8] w fun e w'=>e=.returned (.tuple #[Cn (Ak 8),.bool (Ak 8).known])/\Below w.heap.size w w':=by
 go_enter Tryz.func94,Tryz.ntmps94;go_wp2_with fail;exact bodyPost_ret (v:=.tuple #[Cn (Ak 8),.bool (Ak 8).known]) (by simp[results,Tryz.results94,go_sem,Cn,Ak]) rfl ⟨rfl,(Below.refl _ _).alloc (Nat.le_refl _) _⟩
theorem Jcz (w:World):Calls Tryz.prog 94 #[.int .i64 9] w fun e w'=>e=.returned (.tuple #[Cn (Ak 9),.bool (Ak 9).known])/\Below w.heap.size w w':=by
 go_enter Tryz.func94,Tryz.ntmps94;go_wp2_with fail;exact bodyPost_ret (v:=.tuple #[Cn (Ak 9),.bool (Ak 9).known]) (by simp[results,Tryz.results94,go_sem,Cn,Ak]) rfl ⟨rfl,(Below.refl _ _).alloc (Nat.le_refl _) _⟩
theorem ξ (w:World):Calls Tryz.prog 94 #[.int .i64 10] w fun e w'=>e=.returned (.tuple #[Cn (Ak 10),.bool (Ak 10).known])/\Below w.heap.size w w':=by
 go_enter Tryz.func94,Tryz.ntmps94;go_wp2_with fail;exact bodyPost_ret (v:=.tuple #[Cn (Ak 10),.bool (Ak 10).known]) (by simp[results,Tryz.results94,go_sem,Cn,Ak]) rfl ⟨rfl,(Below.refl _ _).alloc (Nat.le_refl _) _⟩
theorem σ (w:World):Calls Tryz.prog 94 #[.int .i64 11] w fun e w'=>e=.returned (.tuple #[Cn (Ak 11),.bool (Ak 11).known])/\Below w.heap.size w w':=by
 go_enter Tryz.func94,Tryz.ntmps94;go_wp2_with fail;exact bodyPost_ret (v:=.tuple #[Cn (Ak 11),.bool (Ak 11).known]) (by simp[results,Tryz.results94,go_sem,Cn,Ak]) rfl ⟨rfl,(Below.refl _ _).alloc (Nat.le_refl _) _⟩
theorem τ (w:World):Calls Tryz.prog 94 #[.int .i64 12] w fun e w'=>e=.returned (.tuple #[Cn (Ak 12),.bool (Ak 12).known])/\Below w.heap.size w w':=by
 go_enter Tryz.func94,Tryz.ntmps94;go_wp2_with fail;exact bodyPost_ret (v:=.tuple #[Cn (Ak 12),.bool (Ak 12).known]) (by simp[results,Tryz.results94,go_sem,Cn,Ak]) rfl ⟨rfl,(Below.refl _ _).alloc (Nat.le_refl _) _⟩
theorem υ (w:World):Calls Tryz.prog 94 #[.int .i64 13] w fun e w'=>e=.returned (.tuple #[Cn (Ak 13),.bool (Ak 13).known])/\Below w.heap.size w w':=by
 go_enter Tryz.func94,Tryz.ntmps94;go_wp2_with fail;exact bodyPost_ret (v:=.tuple #[Cn (Ak 13),.bool (Ak 13).known]) (by simp[results,Tryz.results94,go_sem,Cn,Ak]) rfl ⟨rfl,(Below.refl _ _).alloc (Nat.le_refl _) _⟩
theorem φ (w:World):Calls Tryz.prog 94 #[.int .i64 14] w fun e w'=>e=.returned (.tuple #[Cn (Ak 14),.bool (Ak 14).known])/\Below w.heap.size w w':=by
 go_enter Tryz.func94,Tryz.ntmps94;go_wp2_with fail;exact bodyPost_ret (v:=.tuple #[Cn (Ak 14),.bool (Ak 14).known]) (by simp[results,Tryz.results94,go_sem,Cn,Ak]) rfl ⟨rfl,(Below.refl _ _).alloc (Nat.le_refl _) _⟩
theorem χ (w:World):Calls Tryz.prog 94 #[.int .i64 15] w fun e w'=>e=.returned (.tuple #[Cn (Ak 15),.bool (Ak 15).known])/\Below w.heap.size w w':=by
 go_enter Tryz.func94,Tryz.ntmps94;go_wp2_with fail;exact bodyPost_ret (v:=.tuple #[Cn (Ak 15),.bool (Ak 15).known]) (by simp[results,Tryz.results94,go_sem,Cn,Ak]) rfl ⟨rfl,(Below.refl _ _).alloc (Nat.le_refl _) _⟩
theorem ψ (w:World):Calls Tryz.prog 94 #[.int .i64 16] w fun e w'=>e=.returned (.tuple #[Cn (Ak 16),.bool (Ak 16).known])/\Below w.heap.size w w':=by
 go_enter Tryz.func94,Tryz.ntmps94;go_wp2_with fail;exact bodyPost_ret (v:=.tuple #[Cn (Ak 16),.bool (Ak 16).known]) (by simp[results,Tryz.results94,go_sem,Cn,Ak]) rfl ⟨rfl,(Below.refl _ _).alloc (Nat.le_refl _) _⟩
theorem ω (w:World):Calls Tryz.prog 94 #[.int .i64 17] w fun e w'=>e=.returned (.tuple #[Cn (Ak 17),.bool (Ak 17).known])/\Below w.heap.size w w':=by
 go_enter Tryz.func94,Tryz.ntmps94;go_wp2_with fail;exact bodyPost_ret (v:=.tuple #[Cn (Ak 17),.bool (Ak 17).known]) (by simp[results,Tryz.results94,go_sem,Cn,Ak]) rfl ⟨rfl,(Below.refl _ _).alloc (Nat.le_refl _) _⟩
theorem Jaa (w:World):Calls Tryz.prog 94 #[.int .i64 18] w fun e w'=>e=.returned (.tuple #[Cn (Ak 18),.bool (Ak 18).known])/\Below w.heap.size w w':=by
 go_enter Tryz.func94,Tryz.ntmps94;go_wp2_with fail;exact bodyPost_ret (v:=.tuple #[Cn (Ak 18),.bool (Ak 18).known]) (by simp[results,Tryz.results94,go_sem,Cn,Ak]) rfl ⟨rfl,(Below.refl _ _).alloc (Nat.le_refl _) _⟩
theorem Jab (w:World):Calls Tryz.prog 94 #[.int .i64 19] w fun e w'=>e=.returned (.tuple #[Cn (Ak 19),.bool (Ak 19).known])/\Below w.heap.size w w':=by
 go_enter Tryz.func94,Tryz.ntmps94;go_wp2_with fail;exact bodyPost_ret (v:=.tuple #[Cn (Ak 19),.bool (Ak 19).known]) (by simp[results,Tryz.results94,go_sem,Cn,Ak]) rfl ⟨rfl,(Below.refl _ _).alloc (Nat.le_refl _) _⟩
theorem Jac (w:World):Calls Tryz.prog 94 #[.int .i64 20] w fun e w'=>e=.returned (.tuple #[Cn (Ak 20),.bool (Ak 20).known])/\Below w.heap.size w w':=by
 go_enter Tryz.func94,Tryz.ntmps94;go_wp2_with fail;exact bodyPost_ret (v:=.tuple #[Cn (Ak 20),.bool (Ak 20).known]) (by simp[results,Tryz.results94,go_sem,Cn,Ak]) rfl ⟨rfl,(Below.refl _ _).alloc (Nat.le_refl _) _⟩
theorem Jad (w:World):Calls Tryz.prog 94 #[.int .i64 21] w fun e w'=>e=.returned (.tuple #[Cn (Ak 21),.bool (Ak 21).known])/\Below w.heap.size w w':=by
 go_enter Tryz.func94,Tryz.ntmps94;go_wp2_with fail;exact bodyPost_ret (v:=.tuple #[Cn (Ak 21),.bool (Ak 21).known]) (by simp[results,Tryz.results94,go_sem,Cn,Ak]) rfl ⟨rfl,(Below.refl _ _).alloc (Nat.le_refl _) _⟩
theorem Jae (w:World):Calls Tryz.prog 94 #[.int .i64 22] w fun e w'=>e=.returned (.tuple #[Cn (Ak 22),.bool (Ak 22).known])/\Below w.heap.size w w':=by
 go_enter Tryz.func94,Tryz.ntmps94;go_wp2_with fail;exact bodyPost_ret (v:=.tuple #[Cn (Ak 22),.bool (Ak 22).known]) (by simp[results,Tryz.results94,go_sem,Cn,Ak]) rfl ⟨rfl,(Below.refl _ _).alloc (Nat.le_refl _) _⟩
theorem Jaf (w:World):Calls Tryz.prog 94 #[.int .i64 23] w fun e w'=>e=.returned (.tuple #[Cn (Ak 23),.bool (Ak 23).known])/\Below w.heap.size w w':=by
 go_enter Tryz.func94,Tryz.ntmps94;go_wp2_with fail;exact bodyPost_ret (v:=.tuple #[Cn (Ak 23),.bool (Ak 23).known]) (by simp[results,Tryz.results94,go_sem,Cn,Ak]) rfl ⟨rfl,(Below.refl _ _).alloc (Nat.le_refl _) _⟩
theorem Jah (k:Int) (w:World) (hk:k<1\/23<k):Calls Tryz.prog 94 #[.int .i64 k] w fun e w'=>e=.returned (.tuple #[Cn (Ak k),.bool (Ak k).known])/\Below w.heap.size w w':=by
 have HS:Z9 (Ak k=⟨false,false,false,false,0,0,false⟩):=Hd (by
  unfold Ak
  repeat rw[if_neg (by omega)])
 have t1:(k == 1)=false:=by rw[beq_eq_false_iff_ne];omega
 have t2:(k == 2)=false:=by rw[beq_eq_false_iff_ne];omega
 have t3:(k == 3)=false:=by rw[beq_eq_false_iff_ne];omega
 have t4:(k == 4)=false:=by rw[beq_eq_false_iff_ne];omega
 have t5:(k == 5)=false:=by rw[beq_eq_false_iff_ne];omega
 have t6:(k == 6)=false:=by rw[beq_eq_false_iff_ne];omega
 have t7:(k == 7)=false:=by rw[beq_eq_false_iff_ne];omega
 have t8:(k == 8)=false:=by rw[beq_eq_false_iff_ne];omega
 have t9:(k == 9)=false:=by rw[beq_eq_false_iff_ne];omega
 have t10:(k == 10)=false:=by rw[beq_eq_false_iff_ne];omega
 have t11:(k == 11)=false:=by rw[beq_eq_false_iff_ne];omega
 have t12:(k == 12)=false:=by rw[beq_eq_false_iff_ne];omega
 have t13:(k == 13)=false:=by rw[beq_eq_false_iff_ne];omega
 have t14:(k == 14)=false:=by rw[beq_eq_false_iff_ne];omega
 have t15:(k == 15)=false:=by rw[beq_eq_false_iff_ne];omega
 have t16:(k == 16)=false:=by rw[beq_eq_false_iff_ne];omega
 have t17:(k == 17)=false:=by rw[beq_eq_false_iff_ne];omega
 have t18:(k == 18)=false:=by rw[beq_eq_false_iff_ne];omega
 have t19:(k == 19)=false:=by rw[beq_eq_false_iff_ne];omega
 have t20:(k == 20)=false:=by rw[beq_eq_false_iff_ne];omega
 have t21:(k == 21)=false:=by rw[beq_eq_false_iff_ne];omega
 have t22:(k == 22)=false:=by rw[beq_eq_false_iff_ne];omega
 have t23:(k == 23)=false:=by rw[beq_eq_false_iff_ne];omega
 rw[HS.o];clear hk;go_enter Tryz.func94,Tryz.ntmps94;go_wp2_with fail;exact bodyPost_ret (v:=.tuple #[Cn ⟨false,false,false,false,0,0,false⟩,.bool false]) (by simp[results,Tryz.results94,go_sem,Cn]) rfl ⟨rfl,(Below.refl _ _).alloc (Nat.le_refl _) _⟩
theorem Xe (k:Int) (w:World):Calls Tryz.prog 94 #[.int .i64 k] w fun e w'=>e=.returned (.tuple #[Cn (Ak k),.bool (Ak k).known])/\Below w.heap.size w w':=by
 by_cases h:k<1\/23<k
 ·exact Jah k w h
 ·have:k=1\/k=2\/k=3\/k=4\/k=5\/k=6\/k=7\/k=8\/k=9\/k=10\/k=11\/k=12\/k=13\/k=14\/k=15\/k=16\/k=17\/k=18\/k=19\/k=20\/k=21\/k=22\/k=23:=by omega
  rcases this with rfl|rfl|rfl|rfl|rfl|rfl|rfl|rfl|rfl|rfl|rfl|rfl|rfl|rfl|rfl|rfl|rfl|rfl|rfl|rfl|rfl|rfl|rfl
  ·exact Jcr w
  ·exact Jcs w
  ·exact Jct w
  ·exact Jcu w
  ·exact Jcv w
  ·exact Jcw w
  ·exact Jcx w
  ·exact Jcy w
  ·exact Jcz w
  ·exact ξ w
  ·exact σ w
  ·exact τ w
  ·exact υ w
  ·exact φ w
  ·exact χ w
  ·exact ψ w
  ·exact ω w
  ·exact Jaa w
  ·exact Jab w
  ·exact Jac w
  ·exact Jad w
  ·exact Jae w
  ·exact Jaf w
def L4 (t:Ty):Prop:=∀(K K':Nat->Prop) (t':Ty),Vh 104 (fun w b o=>De K w t b o) (fun w b o=>De K' w t' b o) (B5 t t')
theorem Rw (l l':List Ty) (h:∀p∈l,L4 p) {K K':Nat->Prop}{w:World}{A A':Option Addr}{c c':Nat}(h1:Bk K w l A c) (h2:Bk K' w l' A' c') :
  Calls Tryz.prog 145 #[.slice A l.length c,.slice A' l'.length c',.func (.func 104) #[] #[]] w fun e w'=>e=.returned (.int .i64 (Ca (Bw l) (Bw l')))/\Gw w w':=by
 obtain⟨b,o,hr,hx⟩:=h1;obtain⟨b',o',hr',hx'⟩:=h2;exact Vk flat J1 (fun x w b o=>De K w x b o) (fun x w b o=>De K' w x b o) (fun _ _ _ _ _ hb h=>h.later hb) (fun _ _ _ _ _ hb h=>h.later hb) l l' (fun x hx y=>h x hx K K' y) A A' c c' w b o b' o' (fun h=>(hr.some h).1) (fun h=>(hr'.some h).1) (hr.big) (hr'.big) hx hx'
def Hj (K:Nat->Prop) (f:Z8×Int×Ty) (w:World) (b o:Nat):Prop:=w.cell? ⟨b,o,none⟩=some (.string f.1)/\w.cell? ⟨b,o+1,none⟩=some (.int .i64 f.2.1)/\De K w f.2.2 b (o+2)
theorem Hj.later {K:Nat->Prop}{f:Z8×Int×Ty}{w w':World}{b o:Nat}(h:Hj K f w b o) (hb:Below w.heap.size w w'):Hj K f w' b o:=⟨Aa hb h.1,Aa hb h.2.1,h.2.2.later hb⟩
def L5 (K:Nat->Prop) (v:Z8×List Ty) (w:World) (b o:Nat):Prop:=∃B d,w.cell? ⟨b,o,none⟩=some (.string v.1)/\w.cell? ⟨b,o+1,none⟩=some (.slice B v.2.length d)/\Bk K w v.2 B d
theorem L5.later {K:Nat->Prop}{v:Z8×List Ty}{w w':World}{b o:Nat}(h:L5 K v w b o) (hb:Below w.heap.size w w'):L5 K v w' b o:=by
 obtain⟨B,d,h1,h2,h3⟩:=h;exact⟨B,d,Aa hb h1,Aa hb h2,h3.later hb⟩
theorem Jas (v:Z8×List Ty) (h:∀b∈v.2,L4 b) (K K':Nat->Prop) (v':Z8×List Ty):Vh 149 (L5 K v) (L5 K' v') (Ca (Dy.s v.1 :: Bw v.2) (.s v'.1 :: Bw v'.2)):=by
 refine⟨fun w b o b' o' h1 h2=>?_⟩;rw[O8];obtain⟨vn,vl⟩:=v;obtain⟨vn',vl'⟩:=v';obtain⟨B,d,a0,a1,a2⟩:=h1;obtain⟨B',d',b0,b1,b2⟩:=h2;have KL:=Hd (Rw vl vl' h (w:=w.drew.drew) (a2.later (Below.refl _ _).drew.drew) (b2.later (Below.refl _ _).drew.drew));have HS:=Hd (And.intro a1 b1);have HS1:=Hd (And.intro a0 b0);simp only at HS HS1 KL ⊢;have KC:=Hd (fun w=>J3 vn vn' w);generalize Dv vn vn'=cn at KC ⊢;generalize Ca (Bw vl) (Bw vl')=cl at KL ⊢;clear h a0 a1 a2 b0 b1 b2;go_enter Tryz.func149,Tryz.ntmps149;go_wp2_with fail;refine wp_region_held_drew (S:=(fun w'=>w'.cell? ⟨b,o,none⟩=some (.string vn)/\w'.cell? ⟨b',o',none⟩=some (.string vn'))) (by kernel_rfl) HS1.o (fun hA=>?_);refine Ab.s [0,1,2,3,4,5,6,7] ?_
 iterate 8 (refine Ab.k (so rfl) hA ?_;try simp only[Act.put,Bd,Be,Bf])
 refine Ab.d ?_;refine wpAnyH_ready (rs:=[8]) (by kernel_rfl) (by simp) ?_;refine AllReadyH.cons (sd (some 14) rfl) (fun K hK=>?_) AllReadyH.nil;go_simp;refine (KC.o _).mono ?_;rintro e w2 ⟨rfl,rfl⟩;go_wp2_with fail;refine hK.out _ _ (HS1.o) (fun hA=>?_);clear hK K;try simp only[Act.put,Bd,Be,Bf]
 refine Ab.s [9] ?_;refine Ab.k (so rfl) hA ?_;try simp only[Act.put,Bd,Be,Bf]
 refine Ab.d ?_;refine wpAnyH_done (by kernel_rfl) ?_ _;clear hA;by_cases hc:cn=0
 case neg=>
  have tc:(cn != 0)=true:=by simpa using hc
  have HC:=Hd hc;clear hc;go_wp2_with fail;go_ret
  exact⟨by rw[Dr HC.o];rfl,(Gw.refl w).drew⟩
 have tc:(cn != 0)=false:=by simpa using hc
 have hD:=Hd hc;clear hc;go_wp2_with fail;refine wp_region_held_drew (S:=(fun w'=>w'.cell? ⟨b,o+1,none⟩=some (.slice B vl.length d)/\w'.cell? ⟨b',o'+1,none⟩=some (.slice B' vl'.length d'))) (by kernel_rfl) HS.o (fun hA=>?_);refine Ab.s [0,1,2,3,4,5,6,7] ?_
 iterate 8 (refine Ab.k (so rfl) hA ?_;try simp only[Act.put,Bd,Be,Bf])
 refine Ab.d ?_;refine wpAnyH_ready (rs:=[8]) (by kernel_rfl) (by simp) ?_;refine AllReadyH.cons (sd (some 26) rfl) (fun K hK=>?_) AllReadyH.nil;go_simp;refine KL.o.mono ?_;rintro e w4 ⟨rfl,hC⟩;have hB:Z9 (Gw w w4):=Hd ((Gw.refl w).drew.drew.trans hC);have hE:=Hd (And.intro (Aa hB.o.below HS.o.1) (Aa hB.o.below HS.o.2));clear hC;go_wp2_with fail;refine hK.out _ _ (hE.o) (fun hA=>?_);clear hK K;try simp only[Act.put,Bd,Be,Bf]
 refine Ab.s [9] ?_;refine Ab.k (so rfl) hA ?_;try simp only[Act.put,Bd,Be,Bf]
 refine Ab.d ?_;refine wpAnyH_done (by kernel_rfl) ?_ _;clear hA;go_wp2_with fail;go_ret
 exact⟨by rw[hD.o,Bn];rfl,hB.o⟩
theorem V6 (f:Z8×Int×Ty) (h:L4 f.2.2) (K K':Nat->Prop) (f':Z8×Int×Ty):Vh 147 (Hj K f) (Hj K' f') (Ca ([Dy.s f.1,.i f.2.1]++flat f.2.2) ([.s f'.1,.i f'.2.1]++flat f'.2.2)):=by
 refine⟨fun w b o b' o' h1 h2=>?_⟩;rw[Kz];obtain⟨fn,fi,ft⟩:=f;obtain⟨fn',fi',ft'⟩:=f';obtain⟨a0,a1,a2⟩:=h1;obtain⟨b0,b1,b2⟩:=h2;simp only at a0 a1 a2 b0 b1 b2 h ⊢;rw[<-Ha];have KA:=Hd (fun w=>J3 fn fn' w);have KB:=Hd (fun w=>E8 fi fi' w);generalize Dv fn fn'=ca at KA ⊢;generalize Dp fi fi'=cb at KB ⊢;have hB:Z9 (Gw w (w.alloc (.cells #[.int .i64 ca,.int .i64 cb] 3)).drew):=Hd ((Gw.refl _).alloc _).drew;have KL:=Hd ((h K K' ft').ok (w.alloc (.cells #[.int .i64 ca,.int .i64 cb] 3)).drew.drew b (o+2) b' (o'+2) (a2.later hB.o.drew.below) (b2.later hB.o.drew.below));generalize B5 ft ft'=cl at KL ⊢;have HS1:Z9 (w.drew.cell? ⟨b,o,none⟩=some (.string fn)/\w.drew.cell? ⟨b',o',none⟩=some (.string fn')/\w.drew.cell? ⟨b,o+1,none⟩=some (.int .i64 fi)/\w.drew.cell? ⟨b',o'+1,none⟩=some (.int .i64 fi')):=Hd ⟨a0,b0,a1,b1⟩;have hC:Z9 ((w.alloc (.cells #[.int .i64 ca,.int .i64 cb] 3)).drew.cell? ⟨b,o,none⟩=some (.string fn)/\(w.alloc (.cells #[.int .i64 ca,.int .i64 cb] 3)).drew.cell? ⟨b',o',none⟩=some (.string fn')/\(w.alloc (.cells #[.int .i64 ca,.int .i64 cb] 3)).drew.cell? ⟨b,o+1,none⟩=some (.int .i64 fi)/\(w.alloc (.cells #[.int .i64 ca,.int .i64 cb] 3)).drew.cell? ⟨b',o'+1,none⟩=some (.int .i64 fi')):=Hd ⟨Aa hB.o.below a0,Aa hB.o.below b0,Aa hB.o.below a1,Aa hB.o.below b1⟩;clear h a0 a1 a2 b0 b1 b2;go_enter Tryz.func147,Tryz.ntmps147;go_wp2_with fail;refine wp_region_held_drew (S:=(fun w'=>w'.cell? ⟨b,o,none⟩=some (.string fn)/\w'.cell? ⟨b',o',none⟩=some (.string fn')/\w'.cell? ⟨b,o+1,none⟩=some (.int .i64 fi)/\w'.cell? ⟨b',o'+1,none⟩=some (.int .i64 fi'))) (by kernel_rfl) HS1.o (fun hA=>?_);refine Ab.s [0,1,2,3,4,5,6,7,9,10,11,12,13,14,15,16] ?_
 iterate 16 (refine Ab.k (so rfl) hA ?_;try simp only[Act.put,Bd,Be,Bf])
 refine Ab.d ?_;refine wpAnyH_ready (rs:=[8]) (by kernel_rfl) (by simp) ?_;refine AllReadyH.cons (sd (some 14) rfl) (fun K hK=>?_) AllReadyH.nil;go_simp;refine (KA.o _).mono ?_;rintro e w2 ⟨rfl,rfl⟩;go_wp2_with fail;refine hK.out _ _ (HS1.o) (fun hA=>?_);clear hK K;try simp only[Act.put,Bd,Be,Bf]
 refine wpAnyH_ready (rs:=[17]) (by kernel_rfl) (by simp) ?_;refine AllReadyH.cons (sd (some 23) rfl) (fun K hK=>?_) AllReadyH.nil;go_simp;refine (KB.o _).mono ?_;rintro e w2 ⟨rfl,rfl⟩;go_wp2_with fail;refine hK.out _ _ (HS1.o) (fun hA=>?_);clear hK K;try simp only[Act.put,Bd,Be,Bf]
 refine wpAnyH_ready (rs:=[18]) (by kernel_rfl) (by simp) ?_;refine AllReadyH.cons (sd (some 24) rfl) (fun K hK=>?_) AllReadyH.nil;go_simp;refine hK.out _ _ (hC.o) (fun hA=>?_);clear hK K;try simp only[Act.put,Bd,Be,Bf]
 refine wpAnyH_ready (rs:=[19]) (by kernel_rfl) (by simp) ?_;refine AllReadyH.cons (sd (some 25) rfl) (fun K hK=>?_) AllReadyH.nil;go_simp;refine (Jeq _ _ _ _ (Jc9 w ca cb).1 (Jc9 w ca cb).2).mono ?_;rintro e w2 ⟨rfl,rfl⟩;go_wp2_with fail;refine hK.out _ _ (hC.o) (fun hA=>?_);clear hK K;try simp only[Act.put,Bd,Be,Bf]
 refine Ab.s [20] ?_;refine Ab.k (so rfl) hA ?_;try simp only[Act.put,Bd,Be,Bf]
 refine Ab.d ?_;refine wpAnyH_done (by kernel_rfl) ?_ _;clear hA;by_cases hc:Fw ca cb=0
 case neg=>
  have tc:(Fw ca cb != 0)=true:=by simpa using hc
  have HC:=Hd hc;clear hc;go_wp2_with fail;go_ret
  exact⟨by rw[Dr HC.o];rfl,hB.o⟩
 have tc:(Fw ca cb != 0)=false:=by simpa using hc
 have hF:=Hd hc;clear hc;go_wp2_with fail;refine wp_region_held_drew (S:=(fun _=>True)) (by kernel_rfl) trivial (fun hA=>?_);refine Ab.s [0,1,2,3,4,5] ?_
 iterate 6 (refine Ab.k (so rfl) hA ?_;try simp only[Act.put,Bd,Be,Bf])
 refine Ab.d ?_;refine wpAnyH_ready (rs:=[6]) (by kernel_rfl) (by simp) ?_;refine AllReadyH.cons (sd (some 35) rfl) (fun K hK=>?_) AllReadyH.nil;go_simp;refine KL.o.mono ?_;rintro e w4 ⟨rfl,hD⟩;have hE:Z9 (Gw w w4):=Hd (hB.o.drew.trans hD);clear hD;go_wp2_with fail;refine hK.out _ _ (trivial) (fun hA=>?_);clear hK K;try simp only[Act.put,Bd,Be,Bf]
 refine Ab.s [7] ?_;refine Ab.k (so rfl) hA ?_;try simp only[Act.put,Bd,Be,Bf]
 refine Ab.d ?_;refine wpAnyH_done (by kernel_rfl) ?_ _;clear hA;go_wp2_with fail;go_ret
 exact⟨by rw[hF.o,Bn];rfl,hE.o⟩
theorem Sy (l l':Bx) (h:∀f∈l,L4 f.2.2) {K K':Nat->Prop}{w:World}{A A':Option Addr}{c c':Nat}(h1:Dt K w l A c) (h2:Dt K' w l' A' c') :
  Calls Tryz.prog 146 #[.slice A l.length c,.slice A' l'.length c',.func (.func 147) #[] #[]] w fun e w'=>e=.returned (.int .i64 (Ca (Ee l) (Ee l')))/\Gw w w':=by
 obtain⟨b,o,hr,hx⟩:=h1;obtain⟨b',o',hr',hx'⟩:=h2;exact Sm (fun f=>[.s f.1,.i f.2.1]++flat f.2.2) Pc (fun x w b o=>Hj K x w b o) (fun x w b o=>Hj K' x w b o) (fun _ _ _ _ _ hb h=>h.later hb) (fun _ _ _ _ _ hb h=>h.later hb) l l' (fun x hx y=>V6 x (h x hx) K K' y) A A' c c' w b o b' o' (fun h=>(hr.some h).1) (fun h=>(hr'.some h).1) (hr.big) (hr'.big) (fun i hi=>⟨(hx i hi).1,(hx i hi).2.1,(hx i hi).2.2.2⟩) (fun i hi=>⟨(hx' i hi).1,(hx' i hi).2.1,(hx' i hi).2.2.2⟩)
theorem Jar (l l':Bt) (h:∀v∈l,∀b∈v.2,L4 b) {K K':Nat->Prop}{w:World}{A A':Option Addr}{c c':Nat}(h1:Da K w l A c) (h2:Da K' w l' A' c') :
  Calls Tryz.prog 148 #[.slice A l.length c,.slice A' l'.length c',.func (.func 149) #[] #[]] w fun e w'=>e=.returned (.int .i64 (Ca (Ef l) (Ef l')))/\Gw w w':=by
 obtain⟨b,o,hr,hx⟩:=h1;obtain⟨b',o',hr',hx'⟩:=h2;exact Xv (fun v=>.s v.1 :: Bw v.2) Pe (fun x w b o=>L5 K x w b o) (fun x w b o=>L5 K' x w b o) (fun _ _ _ _ _ hb h=>h.later hb) (fun _ _ _ _ _ hb h=>h.later hb) l l' (fun x hx y=>Jas x (h x hx) K K' y) A A' c c' w b o b' o' (fun h=>(hr.some h).1) (fun h=>(hr'.some h).1) (hr.big) (hr'.big)
  (fun i hi=>by obtain⟨B,d,x0,x1,_,x3⟩:=hx i hi;exact⟨B,d,x0,x1,x3⟩) (fun i hi=>by obtain⟨B,d,x0,x1,_,x3⟩:=hx' i hi;exact⟨B,d,x0,x1,x3⟩)
theorem Bc {B:Nat}{a w:World}(h:Below B a w):∀n,Below B a (w.drewN n)
 | 0=>h
 | n+1=>(Bc h n).drew
def Ao (s:Shp) (t:Z8) (n:Int) (np nf nv:Nat):Bool:=
 !((!s.t && !(t.toList == [])) || (!s.n && n != 0) || (!s.f && decide (0<nf)) || (!s.v && decide (0<nv))) && (decide (s.lo<=(np:Int)) && (s.hi == -1 || decide ((np:Int)<=s.hi)))
theorem V8 {w:World}{b o np nf nv c1 c2 c3:Nat}{t:Z8}{n lo hi:Int}{A1 A2 A3:Option Addr}(x1:w.cell? ⟨b,o+1,none⟩=some (.string t)) (x2:w.cell? ⟨b,o+2,none⟩=some (.int .i64 n)) (x3:w.cell? ⟨b,o+3,none⟩=some (.slice A1 np c1)) (x4:w.cell? ⟨b,o+4,none⟩=some (.slice A2 nf c2)) (x5:w.cell? ⟨b,o+5,none⟩=some (.slice A3 nv c3)) :
  Calls Tryz.prog 95 #[.agg #[.bool false,.bool false,.bool false,.bool false,.int .i64 lo,.int .i64 hi],.pointer (some ⟨b,o,none⟩)] w fun e w'=>e=.returned (.bool (Ao ⟨false,false,false,false,lo,hi,true⟩ t n np nf nv))/\Below w.heap.size w w':=by
 have hA:b<w.heap.size:=World.block_lt_of_cell? _ _ x1;have HB:Z9 (Below w.heap.size w (w.alloc (.cells #[.bool false,.bool false,.bool false,.bool false,.int .i64 lo,.int .i64 hi] 138))):=Hd ((Below.refl _ _).alloc (Nat.le_refl _) _)
 cases q0:t.toList with
 | nil=>
  have e0:(t.toList == [])=true:=by rw[q0];rfl
  have Q0:=Hd e0;by_cases q1:n=0
  ·have e1:(n != 0)=false:=by simpa using q1
   have Q1:=Hd q1;clear q1;by_cases q2:nf=0
   ·have e2:¬ 0<nf:=(by omega);have z2:decide ((0:Int)<(nf:Int))=false:=(by simp;omega);have Q2:=Hd e2;clear q2;by_cases q3:nv=0
    ·have e3:¬ 0<nv:=(by omega);have z3:decide ((0:Int)<(nv:Int))=false:=(by simp;omega);have Q3:=Hd e3;clear q3;by_cases h1:lo<=(np:Int)
     ·by_cases h2:hi = -1
      ·have t2:(hi == -1)=true:=(by simpa using h2);have HR:Z9 (Ao ⟨false,false,false,false,lo,hi,true⟩ t n np nf nv=true):=Hd (by unfold Ao;simp[Q0.o,Q1.o,Q2.o,Q3.o,h1,h2]);clear h2;go_enter Tryz.func95,Tryz.ntmps95;go_wp2_with fail
       go_quiet (fail)
       go_wp2_with fail;go_ret
       exact⟨by rw[HR.o];first|rfl|(show Ending.returned (.bool (decide ((np:Int)<=hi)))=_;rw[t3]),by first|exact HB.o|exact Bc HB.o _|exact HB.o.drew⟩
      ·have t2:(hi == -1)=false:=(by simpa using h2);by_cases h3:(np:Int)<=hi
       ·have t3:decide ((np:Int)<=hi)=true:=(by simpa using h3);have HR:Z9 (Ao ⟨false,false,false,false,lo,hi,true⟩ t n np nf nv=true):=Hd (by unfold Ao;simp[Q0.o,Q1.o,Q2.o,Q3.o,h1,t2,h3]);clear h2;go_enter Tryz.func95,Tryz.ntmps95;go_wp2_with fail
        go_quiet (fail)
        go_wp2_with fail;go_ret
        exact⟨by rw[HR.o];first|rfl|(show Ending.returned (.bool (decide ((np:Int)<=hi)))=_;rw[t3]),by first|exact HB.o|exact Bc HB.o _|exact HB.o.drew⟩
       ·have t3:decide ((np:Int)<=hi)=false:=(by simpa using h3);have HR:Z9 (Ao ⟨false,false,false,false,lo,hi,true⟩ t n np nf nv=false):=Hd (by unfold Ao;simp[Q0.o,Q1.o,Q2.o,Q3.o,t2,h3]);clear h2;go_enter Tryz.func95,Tryz.ntmps95;go_wp2_with fail
        go_quiet (fail)
        go_wp2_with fail;go_ret
        exact⟨by rw[HR.o];first|rfl|(show Ending.returned (.bool (decide ((np:Int)<=hi)))=_;rw[t3]),by first|exact HB.o|exact Bc HB.o _|exact HB.o.drew⟩
     ·have t1:decide (lo<=(np:Int))=false:=(by simpa using h1);have t1b:(np:Int)<lo:=(by omega);have HR:Z9 (Ao ⟨false,false,false,false,lo,hi,true⟩ t n np nf nv=false):=Hd (by unfold Ao;simp[Q0.o,Q1.o,Q2.o,Q3.o,h1]);go_enter Tryz.func95,Tryz.ntmps95;go_wp2_with fail
      go_quiet (fail)
      go_wp2_with fail;go_ret
      exact⟨by rw[HR.o];first|rfl|(show Ending.returned (.bool (decide ((np:Int)<=hi)))=_;rw[t3]),by first|exact HB.o|exact Bc HB.o _|exact HB.o.drew⟩
    ·have e3:0<nv:=(by omega);have z3:decide ((0:Int)<(nv:Int))=true:=(by simp;omega);have Q3:=Hd e3;clear q3;have HR:Z9 (Ao ⟨false,false,false,false,lo,hi,true⟩ t n np nf nv=false):=Hd (by unfold Ao;simp[Q0.o,Q1.o,Q2.o,Q3.o]);go_enter Tryz.func95,Tryz.ntmps95;go_wp2_with fail;go_ret
     exact⟨by rw[HR.o];first|rfl|(show Ending.returned (.bool (decide ((np:Int)<=hi)))=_;rw[t3]),by first|exact HB.o|exact Bc HB.o _|exact HB.o.drew⟩
   ·have e2:0<nf:=(by omega);have z2:decide ((0:Int)<(nf:Int))=true:=(by simp;omega);have Q2:=Hd e2;clear q2;have HR:Z9 (Ao ⟨false,false,false,false,lo,hi,true⟩ t n np nf nv=false):=Hd (by unfold Ao;simp[Q0.o,Q1.o,Q2.o]);go_enter Tryz.func95,Tryz.ntmps95;go_wp2_with fail;go_ret
    exact⟨by rw[HR.o];first|rfl|(show Ending.returned (.bool (decide ((np:Int)<=hi)))=_;rw[t3]),by first|exact HB.o|exact Bc HB.o _|exact HB.o.drew⟩
  ·have e1:(n != 0)=true:=by simpa using q1
   have Q1:=Hd q1;have HR:Z9 (Ao ⟨false,false,false,false,lo,hi,true⟩ t n np nf nv=false):=Hd (by unfold Ao;simp[Q0.o,Q1.o]);clear q1;go_enter Tryz.func95,Tryz.ntmps95;go_wp2_with fail;go_ret
   exact⟨by rw[HR.o];first|rfl|(show Ending.returned (.bool (decide ((np:Int)<=hi)))=_;rw[t3]),by first|exact HB.o|exact Bc HB.o _|exact HB.o.drew⟩
 | cons hd tl=>
  have e0:(t.toList == [])=false:=by rw[q0];rfl
  have Q0:=Hd e0;have HR:Z9 (Ao ⟨false,false,false,false,lo,hi,true⟩ t n np nf nv=false):=Hd (by unfold Ao;simp[Q0.o]);go_enter Tryz.func95,Tryz.ntmps95;go_wp2_with fail;go_ret
  exact⟨by rw[HR.o];first|rfl|(show Ending.returned (.bool (decide ((np:Int)<=hi)))=_;rw[t3]),by first|exact HB.o|exact Bc HB.o _|exact HB.o.drew⟩
theorem Wc {w:World}{b o np nf nv c1 c2 c3:Nat}{t:Z8}{n lo hi:Int}{A1 A2 A3:Option Addr}(x1:w.cell? ⟨b,o+1,none⟩=some (.string t)) (x2:w.cell? ⟨b,o+2,none⟩=some (.int .i64 n)) (x3:w.cell? ⟨b,o+3,none⟩=some (.slice A1 np c1)) (x4:w.cell? ⟨b,o+4,none⟩=some (.slice A2 nf c2)) (x5:w.cell? ⟨b,o+5,none⟩=some (.slice A3 nv c3)) :
  Calls Tryz.prog 95 #[.agg #[.bool true,.bool false,.bool false,.bool false,.int .i64 lo,.int .i64 hi],.pointer (some ⟨b,o,none⟩)] w fun e w'=>e=.returned (.bool (Ao ⟨true,false,false,false,lo,hi,true⟩ t n np nf nv))/\Below w.heap.size w w':=by
 have hA:b<w.heap.size:=World.block_lt_of_cell? _ _ x1;have HB:Z9 (Below w.heap.size w (w.alloc (.cells #[.bool true,.bool false,.bool false,.bool false,.int .i64 lo,.int .i64 hi] 138))):=Hd ((Below.refl _ _).alloc (Nat.le_refl _) _);by_cases q1:n=0
 ·have e1:(n != 0)=false:=by simpa using q1
  have Q1:=Hd q1;clear q1;by_cases q2:nf=0
  ·have e2:¬ 0<nf:=by omega
   have z2:decide ((0:Int)<(nf:Int))=false:=by simp;omega
   have Q2:=Hd e2;clear q2;by_cases q3:nv=0
   ·have e3:¬ 0<nv:=(by omega);have z3:decide ((0:Int)<(nv:Int))=false:=(by simp;omega);have Q3:=Hd e3;clear q3;by_cases h1:lo<=(np:Int)
    ·by_cases h2:hi = -1
     ·have t2:(hi == -1)=true:=(by simpa using h2);have HR:Z9 (Ao ⟨true,false,false,false,lo,hi,true⟩ t n np nf nv=true):=Hd (by unfold Ao;simp[Q1.o,Q2.o,Q3.o,h1,h2]);clear h2;go_enter Tryz.func95,Tryz.ntmps95;go_wp2_with fail
      go_quiet (fail)
      go_wp2_with fail;go_ret
      exact⟨by rw[HR.o];first|rfl|(show Ending.returned (.bool (decide ((np:Int)<=hi)))=_;rw[t3]),by first|exact HB.o|exact Bc HB.o _|exact HB.o.drew⟩
     ·have t2:(hi == -1)=false:=(by simpa using h2);by_cases h3:(np:Int)<=hi
      ·have t3:decide ((np:Int)<=hi)=true:=(by simpa using h3);have HR:Z9 (Ao ⟨true,false,false,false,lo,hi,true⟩ t n np nf nv=true):=Hd (by unfold Ao;simp[Q1.o,Q2.o,Q3.o,h1,t2,h3]);clear h2;go_enter Tryz.func95,Tryz.ntmps95;go_wp2_with fail
       go_quiet (fail)
       go_wp2_with fail;go_ret
       exact⟨by rw[HR.o];first|rfl|(show Ending.returned (.bool (decide ((np:Int)<=hi)))=_;rw[t3]),by first|exact HB.o|exact Bc HB.o _|exact HB.o.drew⟩
      ·have t3:decide ((np:Int)<=hi)=false:=(by simpa using h3);have HR:Z9 (Ao ⟨true,false,false,false,lo,hi,true⟩ t n np nf nv=false):=Hd (by unfold Ao;simp[Q1.o,Q2.o,Q3.o,t2,h3]);clear h2;go_enter Tryz.func95,Tryz.ntmps95;go_wp2_with fail
       go_quiet (fail)
       go_wp2_with fail;go_ret
       exact⟨by rw[HR.o];first|rfl|(show Ending.returned (.bool (decide ((np:Int)<=hi)))=_;rw[t3]),by first|exact HB.o|exact Bc HB.o _|exact HB.o.drew⟩
    ·have t1:decide (lo<=(np:Int))=false:=(by simpa using h1);have t1b:(np:Int)<lo:=(by omega);have HR:Z9 (Ao ⟨true,false,false,false,lo,hi,true⟩ t n np nf nv=false):=Hd (by unfold Ao;simp[Q1.o,Q2.o,Q3.o,h1]);go_enter Tryz.func95,Tryz.ntmps95;go_wp2_with fail
     go_quiet (fail)
     go_wp2_with fail;go_ret
     exact⟨by rw[HR.o];first|rfl|(show Ending.returned (.bool (decide ((np:Int)<=hi)))=_;rw[t3]),by first|exact HB.o|exact Bc HB.o _|exact HB.o.drew⟩
   ·have e3:0<nv:=(by omega);have z3:decide ((0:Int)<(nv:Int))=true:=(by simp;omega);have Q3:=Hd e3;clear q3;have HR:Z9 (Ao ⟨true,false,false,false,lo,hi,true⟩ t n np nf nv=false):=Hd (by unfold Ao;simp[Q1.o,Q2.o,Q3.o]);go_enter Tryz.func95,Tryz.ntmps95;go_wp2_with fail;go_ret
    exact⟨by rw[HR.o];first|rfl|(show Ending.returned (.bool (decide ((np:Int)<=hi)))=_;rw[t3]),by first|exact HB.o|exact Bc HB.o _|exact HB.o.drew⟩
  ·have e2:0<nf:=by omega
   have z2:decide ((0:Int)<(nf:Int))=true:=by simp;omega
   have Q2:=Hd e2;clear q2;have HR:Z9 (Ao ⟨true,false,false,false,lo,hi,true⟩ t n np nf nv=false):=Hd (by unfold Ao;simp[Q1.o,Q2.o]);go_enter Tryz.func95,Tryz.ntmps95;go_wp2_with fail;go_ret
   exact⟨by rw[HR.o];first|rfl|(show Ending.returned (.bool (decide ((np:Int)<=hi)))=_;rw[t3]),by first|exact HB.o|exact Bc HB.o _|exact HB.o.drew⟩
 ·have e1:(n != 0)=true:=by simpa using q1
  have Q1:=Hd q1;have HR:Z9 (Ao ⟨true,false,false,false,lo,hi,true⟩ t n np nf nv=false):=Hd (by unfold Ao;simp[Q1.o]);clear q1;go_enter Tryz.func95,Tryz.ntmps95;go_wp2_with fail;go_ret
  exact⟨by rw[HR.o];first|rfl|(show Ending.returned (.bool (decide ((np:Int)<=hi)))=_;rw[t3]),by first|exact HB.o|exact Bc HB.o _|exact HB.o.drew⟩
theorem Wd {w:World}{b o np nf nv c1 c2 c3:Nat}{t:Z8}{n lo hi:Int}{A1 A2 A3:Option Addr}(x1:w.cell? ⟨b,o+1,none⟩=some (.string t)) (_x2:w.cell? ⟨b,o+2,none⟩=some (.int .i64 n)) (x3:w.cell? ⟨b,o+3,none⟩=some (.slice A1 np c1)) (x4:w.cell? ⟨b,o+4,none⟩=some (.slice A2 nf c2)) (x5:w.cell? ⟨b,o+5,none⟩=some (.slice A3 nv c3)) :
  Calls Tryz.prog 95 #[.agg #[.bool true,.bool true,.bool false,.bool false,.int .i64 lo,.int .i64 hi],.pointer (some ⟨b,o,none⟩)] w fun e w'=>e=.returned (.bool (Ao ⟨true,true,false,false,lo,hi,true⟩ t n np nf nv))/\Below w.heap.size w w':=by
 have hA:b<w.heap.size:=World.block_lt_of_cell? _ _ x1;have HB:Z9 (Below w.heap.size w (w.alloc (.cells #[.bool true,.bool true,.bool false,.bool false,.int .i64 lo,.int .i64 hi] 138))):=Hd ((Below.refl _ _).alloc (Nat.le_refl _) _);by_cases q2:nf=0
 ·have e2:¬ 0<nf:=by omega
  have z2:decide ((0:Int)<(nf:Int))=false:=by simp;omega
  have Q2:=Hd e2;clear q2;by_cases q3:nv=0
  ·have e3:¬ 0<nv:=by omega
   have z3:decide ((0:Int)<(nv:Int))=false:=by simp;omega
   have Q3:=Hd e3;clear q3;by_cases h1:lo<=(np:Int)
   ·by_cases h2:hi = -1
    ·have t2:(hi == -1)=true:=(by simpa using h2);have HR:Z9 (Ao ⟨true,true,false,false,lo,hi,true⟩ t n np nf nv=true):=Hd (by unfold Ao;simp[Q2.o,Q3.o,h1,h2]);clear h2;go_enter Tryz.func95,Tryz.ntmps95;go_wp2_with fail
     go_quiet (fail)
     go_wp2_with fail;go_ret
     exact⟨by rw[HR.o];first|rfl|(show Ending.returned (.bool (decide ((np:Int)<=hi)))=_;rw[t3]),by first|exact HB.o|exact Bc HB.o _|exact HB.o.drew⟩
    ·have t2:(hi == -1)=false:=(by simpa using h2);by_cases h3:(np:Int)<=hi
     ·have t3:decide ((np:Int)<=hi)=true:=(by simpa using h3);have HR:Z9 (Ao ⟨true,true,false,false,lo,hi,true⟩ t n np nf nv=true):=Hd (by unfold Ao;simp[Q2.o,Q3.o,h1,t2,h3]);clear h2;go_enter Tryz.func95,Tryz.ntmps95;go_wp2_with fail
      go_quiet (fail)
      go_wp2_with fail;go_ret
      exact⟨by rw[HR.o];first|rfl|(show Ending.returned (.bool (decide ((np:Int)<=hi)))=_;rw[t3]),by first|exact HB.o|exact Bc HB.o _|exact HB.o.drew⟩
     ·have t3:decide ((np:Int)<=hi)=false:=(by simpa using h3);have HR:Z9 (Ao ⟨true,true,false,false,lo,hi,true⟩ t n np nf nv=false):=Hd (by unfold Ao;simp[Q2.o,Q3.o,t2,h3]);clear h2;go_enter Tryz.func95,Tryz.ntmps95;go_wp2_with fail
      go_quiet (fail)
      go_wp2_with fail;go_ret
      exact⟨by rw[HR.o];first|rfl|(show Ending.returned (.bool (decide ((np:Int)<=hi)))=_;rw[t3]),by first|exact HB.o|exact Bc HB.o _|exact HB.o.drew⟩
   ·have t1:decide (lo<=(np:Int))=false:=(by simpa using h1);have t1b:(np:Int)<lo:=(by omega);have HR:Z9 (Ao ⟨true,true,false,false,lo,hi,true⟩ t n np nf nv=false):=Hd (by unfold Ao;simp[Q2.o,Q3.o,h1]);go_enter Tryz.func95,Tryz.ntmps95;go_wp2_with fail
    go_quiet (fail)
    go_wp2_with fail;go_ret
    exact⟨by rw[HR.o];first|rfl|(show Ending.returned (.bool (decide ((np:Int)<=hi)))=_;rw[t3]),by first|exact HB.o|exact Bc HB.o _|exact HB.o.drew⟩
  ·have e3:0<nv:=by omega
   have z3:decide ((0:Int)<(nv:Int))=true:=by simp;omega
   have Q3:=Hd e3;clear q3;have HR:Z9 (Ao ⟨true,true,false,false,lo,hi,true⟩ t n np nf nv=false):=Hd (by unfold Ao;simp[Q2.o,Q3.o]);go_enter Tryz.func95,Tryz.ntmps95;go_wp2_with fail;go_ret
   exact⟨by rw[HR.o];first|rfl|(show Ending.returned (.bool (decide ((np:Int)<=hi)))=_;rw[t3]),by first|exact HB.o|exact Bc HB.o _|exact HB.o.drew⟩
 ·have e2:0<nf:=by omega
  have z2:decide ((0:Int)<(nf:Int))=true:=by simp;omega
  have Q2:=Hd e2;clear q2;have HR:Z9 (Ao ⟨true,true,false,false,lo,hi,true⟩ t n np nf nv=false):=Hd (by unfold Ao;simp[Q2.o]);go_enter Tryz.func95,Tryz.ntmps95;go_wp2_with fail;go_ret
  exact⟨by rw[HR.o];first|rfl|(show Ending.returned (.bool (decide ((np:Int)<=hi)))=_;rw[t3]),by first|exact HB.o|exact Bc HB.o _|exact HB.o.drew⟩

import Derived.Test.YtlpfpehegddcfaaGreatDoorMw3
namespace Go.Proofs.YtlpfpehegddcfaaGreatDoor
set_option maxRecDepth 100000
set_option maxHeartbeats 64000000
open Go.RowKit
structure Shp where
 t:Bool
 n:Bool
 f:Bool
 v:Bool
 lo:Int
 hi:Int
 known:Bool
def Ak (k:Int):Shp:=
 if 1<=k/\k<=8 then ⟨false,false,false,false,0,0,true⟩ else if k=9 then ⟨false,true,false,false,0,0,true⟩ else if k=10\/k=16\/k=22 then ⟨true,false,false,false,0,0,true⟩
 else if k=11\/k=18 then ⟨false,false,false,false,1,1,true⟩ else if k=12 then ⟨false,false,false,false,0,-1,true⟩ else if k=13 then ⟨false,false,false,true,1,-1,true⟩
 else if k=14 then ⟨false,false,true,false,0,0,true⟩ else if k=15\/k=23 then ⟨false,false,false,false,2,-1,true⟩ else if k=17 then ⟨true,false,false,false,0,-1,true⟩
 else if k=19 then ⟨false,false,false,false,2,2,true⟩ else if k=20 then ⟨true,true,false,false,2,2,true⟩ else if k=21 then ⟨true,true,false,false,4,4,true⟩ else ⟨false,false,false,false,0,0,false⟩
def Cr (s:Shp):Value:=.agg #[.bool s.t,.bool s.n,.bool s.f,.bool s.v,.int .i64 s.lo,.int .i64 s.hi]
theorem Je5 (w:World):Calls Tryz.prog 94 #[.int .i64 1] w fun e w'=>e=.returned (.tuple #[Cr (Ak 1),.bool (Ak 1).known])/\Below w.heap.size w w':=by
 go_enter Tryz.func94,Tryz.ntmps94;go_wp2_with fail;exact bodyPost_ret (v:=.tuple #[Cr (Ak 1),.bool (Ak 1).known]) (by simp[results,Tryz.results94,go_sem,Cr,Ak]) rfl ⟨rfl,(Below.refl _ _).alloc (Nat.le_refl _) _⟩
theorem Je6 (w:World):Calls Tryz.prog 94 #[.int .i64 2] w fun e w'=>e=.returned (.tuple #[Cr (Ak 2),.bool (Ak 2).known])/\Below w.heap.size w w':=by
 go_enter Tryz.func94,Tryz.ntmps94;go_wp2_with fail;exact bodyPost_ret (v:=.tuple #[Cr (Ak 2),.bool (Ak 2).known]) (by simp[results,Tryz.results94,go_sem,Cr,Ak]) rfl ⟨rfl,(Below.refl _ _).alloc (Nat.le_refl _) _⟩
theorem Je7 (w:World):Calls Tryz.prog 94 #[.int .i64 3] w fun e w'=>e=.returned (.tuple #[Cr (Ak 3),.bool (Ak 3).known])/\Below w.heap.size w w':=by
 go_enter Tryz.func94,Tryz.ntmps94;go_wp2_with fail;exact bodyPost_ret (v:=.tuple #[Cr (Ak 3),.bool (Ak 3).known]) (by simp[results,Tryz.results94,go_sem,Cr,Ak]) rfl ⟨rfl,(Below.refl _ _).alloc (Nat.le_refl _) _⟩
theorem Je8 (w:World):Calls Tryz.prog 94 #[.int .i64 4] w fun e w'=>e=.returned (.tuple #[Cr (Ak 4),.bool (Ak 4).known])/\Below w.heap.size w w':=by
 go_enter Tryz.func94,Tryz.ntmps94;go_wp2_with fail;exact bodyPost_ret (v:=.tuple #[Cr (Ak 4),.bool (Ak 4).known]) (by simp[results,Tryz.results94,go_sem,Cr,Ak]) rfl ⟨rfl,(Below.refl _ _).alloc (Nat.le_refl _) _⟩
theorem Je9 (w:World):Calls Tryz.prog 94 #[.int .i64 5] w fun e w'=>e=.returned (.tuple #[Cr (Ak 5),.bool (Ak 5).known])/\Below w.heap.size w w':=by
 go_enter Tryz.func94,Tryz.ntmps94;go_wp2_with fail;exact bodyPost_ret (v:=.tuple #[Cr (Ak 5),.bool (Ak 5).known]) (by simp[results,Tryz.results94,go_sem,Cr,Ak]) rfl ⟨rfl,(Below.refl _ _).alloc (Nat.le_refl _) _⟩
theorem Jfa (w:World):Calls Tryz.prog 94 #[.int .i64 6] w fun e w'=>e=.returned (.tuple #[Cr (Ak 6),.bool (Ak 6).known])/\Below w.heap.size w w':=by
 go_enter Tryz.func94,Tryz.ntmps94;go_wp2_with fail;exact bodyPost_ret (v:=.tuple #[Cr (Ak 6),.bool (Ak 6).known]) (by simp[results,Tryz.results94,go_sem,Cr,Ak]) rfl ⟨rfl,(Below.refl _ _).alloc (Nat.le_refl _) _⟩
theorem Jfb (w:World):Calls Tryz.prog 94 #[.int .i64 7] w fun e w'=>e=.returned (.tuple #[Cr (Ak 7),.bool (Ak 7).known])/\Below w.heap.size w w':=by
 go_enter Tryz.func94,Tryz.ntmps94;go_wp2_with fail;exact bodyPost_ret (v:=.tuple #[Cr (Ak 7),.bool (Ak 7).known]) (by simp[results,Tryz.results94,go_sem,Cr,Ak]) rfl ⟨rfl,(Below.refl _ _).alloc (Nat.le_refl _) _⟩
theorem Jfc (w:World):Calls Tryz.prog 94 #[.int .i64 8] w fun e w'=>e=.returned (.tuple #[Cr (Ak 8),.bool (Ak 8).known])/\Below w.heap.size w w':=by
 go_enter Tryz.func94,Tryz.ntmps94;go_wp2_with fail;exact bodyPost_ret (v:=.tuple #[Cr (Ak 8),.bool (Ak 8).known]) (by simp[results,Tryz.results94,go_sem,Cr,Ak]) rfl ⟨rfl,(Below.refl _ _).alloc (Nat.le_refl _) _⟩
theorem Jfd (w:World):Calls Tryz.prog 94 #[.int .i64 9] w fun e w'=>e=.returned (.tuple #[Cr (Ak 9),.bool (Ak 9).known])/\Below w.heap.size w w':=by
 go_enter Tryz.func94,Tryz.ntmps94;go_wp2_with fail;exact bodyPost_ret (v:=.tuple #[Cr (Ak 9),.bool (Ak 9).known]) (by simp[results,Tryz.results94,go_sem,Cr,Ak]) rfl ⟨rfl,(Below.refl _ _).alloc (Nat.le_refl _) _⟩
theorem Jb6 (w:World):Calls Tryz.prog 94 #[.int .i64 10] w fun e w'=>e=.returned (.tuple #[Cr (Ak 10),.bool (Ak 10).known])/\Below w.heap.size w w':=by
 go_enter Tryz.func94,Tryz.ntmps94;go_wp2_with fail;exact bodyPost_ret (v:=.tuple #[Cr (Ak 10),.bool (Ak 10).known]) (by simp[results,Tryz.results94,go_sem,Cr,Ak]) rfl ⟨rfl,(Below.refl _ _).alloc (Nat.le_refl _) _⟩
theorem Jb7 (w:World):Calls Tryz.prog 94 #[.int .i64 11] w fun e w'=>e=.returned (.tuple #[Cr (Ak 11),.bool (Ak 11).known])/\Below w.heap.size w w':=by
 go_enter Tryz.func94,Tryz.ntmps94;go_wp2_with fail;exact bodyPost_ret (v:=.tuple #[Cr (Ak 11),.bool (Ak 11).known]) (by simp[results,Tryz.results94,go_sem,Cr,Ak]) rfl ⟨rfl,(Below.refl _ _).alloc (Nat.le_refl _) _⟩
theorem Jb8 (w:World):Calls Tryz.prog 94 #[.int .i64 12] w fun e w'=>e=.returned (.tuple #[Cr (Ak 12),.bool (Ak 12).known])/\Below w.heap.size w w':=by
 go_enter Tryz.func94,Tryz.ntmps94;go_wp2_with fail;exact bodyPost_ret (v:=.tuple #[Cr (Ak 12),.bool (Ak 12).known]) (by simp[results,Tryz.results94,go_sem,Cr,Ak]) rfl ⟨rfl,(Below.refl _ _).alloc (Nat.le_refl _) _⟩
theorem Jb9 (w:World):Calls Tryz.prog 94 #[.int .i64 13] w fun e w'=>e=.returned (.tuple #[Cr (Ak 13),.bool (Ak 13).known])/\Below w.heap.size w w':=by
 go_enter Tryz.func94,Tryz.ntmps94;go_wp2_with fail;exact bodyPost_ret (v:=.tuple #[Cr (Ak 13),.bool (Ak 13).known]) (by simp[results,Tryz.results94,go_sem,Cr,Ak]) rfl ⟨rfl,(Below.refl _ _).alloc (Nat.le_refl _) _⟩
theorem Jca (w:World):Calls Tryz.prog 94 #[.int .i64 14] w fun e w'=>e=.returned (.tuple #[Cr (Ak 14),.bool (Ak 14).known])/\Below w.heap.size w w':=by
 go_enter Tryz.func94,Tryz.ntmps94;go_wp2_with fail;exact bodyPost_ret (v:=.tuple #[Cr (Ak 14),.bool (Ak 14).known]) (by simp[results,Tryz.results94,go_sem,Cr,Ak]) rfl ⟨rfl,(Below.refl _ _).alloc (Nat.le_refl _) _⟩
theorem Jcb (w:World):Calls Tryz.prog 94 #[.int .i64 15] w fun e w'=>e=.returned (.tuple #[Cr (Ak 15),.bool (Ak 15).known])/\Below w.heap.size w w':=by
 go_enter Tryz.func94,Tryz.ntmps94;go_wp2_with fail;exact bodyPost_ret (v:=.tuple #[Cr (Ak 15),.bool (Ak 15).known]) (by simp[results,Tryz.results94,go_sem,Cr,Ak]) rfl ⟨rfl,(Below.refl _ _).alloc (Nat.le_refl _) _⟩
theorem Jcc (w:World):Calls Tryz.prog 94 #[.int .i64 16] w fun e w'=>e=.returned (.tuple #[Cr (Ak 16),.bool (Ak 16).known])/\Below w.heap.size w w':=by
 go_enter Tryz.func94,Tryz.ntmps94;go_wp2_with fail;exact bodyPost_ret (v:=.tuple #[Cr (Ak 16),.bool (Ak 16).known]) (by simp[results,Tryz.results94,go_sem,Cr,Ak]) rfl ⟨rfl,(Below.refl _ _).alloc (Nat.le_refl _) _⟩
theorem Jcd (w:World):Calls Tryz.prog 94 #[.int .i64 17] w fun e w'=>e=.returned (.tuple #[Cr (Ak 17),.bool (Ak 17).known])/\Below w.heap.size w w':=by
 go_enter Tryz.func94,Tryz.ntmps94;go_wp2_with fail;exact bodyPost_ret (v:=.tuple #[Cr (Ak 17),.bool (Ak 17).known]) (by simp[results,Tryz.results94,go_sem,Cr,Ak]) rfl ⟨rfl,(Below.refl _ _).alloc (Nat.le_refl _) _⟩
theorem Jce (w:World):Calls Tryz.prog 94 #[.int .i64 18] w fun e w'=>e=.returned (.tuple #[Cr (Ak 18),.bool (Ak 18).known])/\Below w.heap.size w w':=by
 go_enter Tryz.func94,Tryz.ntmps94;go_wp2_with fail;exact bodyPost_ret (v:=.tuple #[Cr (Ak 18),.bool (Ak 18).known]) (by simp[results,Tryz.results94,go_sem,Cr,Ak]) rfl ⟨rfl,(Below.refl _ _).alloc (Nat.le_refl _) _⟩
theorem Jcf (w:World):Calls Tryz.prog 94 #[.int .i64 19] w fun e w'=>e=.returned (.tuple #[Cr (Ak 19),.bool (Ak 19).known])/\Below w.heap.size w w':=by
 go_enter Tryz.func94,Tryz.ntmps94;go_wp2_with fail;exact bodyPost_ret (v:=.tuple #[Cr (Ak 19),.bool (Ak 19).known]) (by simp[results,Tryz.results94,go_sem,Cr,Ak]) rfl ⟨rfl,(Below.refl _ _).alloc (Nat.le_refl _) _⟩
theorem Jcg (w:World):Calls Tryz.prog 94 #[.int .i64 20] w fun e w'=>e=.returned (.tuple #[Cr (Ak 20),.bool (Ak 20).known])/\Below w.heap.size w w':=by
 go_enter Tryz.func94,Tryz.ntmps94;go_wp2_with fail;exact bodyPost_ret (v:=.tuple #[Cr (Ak 20),.bool (Ak 20).known]) (by simp[results,Tryz.results94,go_sem,Cr,Ak]) rfl ⟨rfl,(Below.refl _ _).alloc (Nat.le_refl _) _⟩
theorem Jch (w:World):Calls Tryz.prog 94 #[.int .i64 21] w fun e w'=>e=.returned (.tuple #[Cr (Ak 21),.bool (Ak 21).known])/\Below w.heap.size w w':=by
 go_enter Tryz.func94,Tryz.ntmps94;go_wp2_with fail;exact bodyPost_ret (v:=.tuple #[Cr (Ak 21),.bool (Ak 21).known]) (by simp[results,Tryz.results94,go_sem,Cr,Ak]) rfl ⟨rfl,(Below.refl _ _).alloc (Nat.le_refl _) _⟩
theorem Jci (w:World):Calls Tryz.prog 94 #[.int .i64 22] w fun e w'=>e=.returned (.tuple #[Cr (Ak 22),.bool (Ak 22).known])/\Below w.heap.size w w':=by
 go_enter Tryz.func94,Tryz.ntmps94;go_wp2_with fail;exact bodyPost_ret (v:=.tuple #[Cr (Ak 22),.bool (Ak 22).known]) (by simp[results,Tryz.results94,go_sem,Cr,Ak]) rfl ⟨rfl,(Below.refl _ _).alloc (Nat.le_refl _) _⟩
theorem Jcj (w:World):Calls Tryz.prog 94 #[.int .i64 23] w fun e w'=>e=.returned (.tuple #[Cr (Ak 23),.bool (Ak 23).known])/\Below w.heap.size w w':=by
 go_enter Tryz.func94,Tryz.ntmps94;go_wp2_with fail;exact bodyPost_ret (v:=.tuple #[Cr (Ak 23),.bool (Ak 23).known]) (by simp[results,Tryz.results94,go_sem,Cr,Ak]) rfl ⟨rfl,(Below.refl _ _).alloc (Nat.le_refl _) _⟩
theorem Jcl (k:Int) (w:World) (hk:k<1\/23<k):Calls Tryz.prog 94 #[.int .i64 k] w fun e w'=>e=.returned (.tuple #[Cr (Ak k),.bool (Ak k).known])/\Below w.heap.size w w':=by
 have HS:Z9 (Ak k=⟨false,false,false,false,0,0,false⟩):=Hd (by
  unfold Ak
  repeat rw[if_neg (by omega)])
 have t1:(k == 1)=false:=by rw[beq_eq_false_iff_ne];omega
 have t2:(k == 2)=false:=by rw[beq_eq_false_iff_ne];omega
 have t3:(k == 3)=false:=by rw[beq_eq_false_iff_ne];omega
 have t4:(k == 4)=false:=by rw[beq_eq_false_iff_ne];omega
 have t5:(k == 5)=false:=by rw[beq_eq_false_iff_ne];omega
 have t6:(k == 6)=false:=by rw[beq_eq_false_iff_ne];omega
 have t7:(k == 7)=false:=by rw[beq_eq_false_iff_ne];omega
 have t8:(k == 8)=false:=by rw[beq_eq_false_iff_ne];omega
 have t9:(k == 9)=false:=by rw[beq_eq_false_iff_ne];omega
 have t10:(k == 10)=false:=by rw[beq_eq_false_iff_ne];omega
 have t11:(k == 11)=false:=by rw[beq_eq_false_iff_ne];omega
 have t12:(k == 12)=false:=by rw[beq_eq_false_iff_ne];omega
 have t13:(k == 13)=false:=by rw[beq_eq_false_iff_ne];omega
 have t14:(k == 14)=false:=by rw[beq_eq_false_iff_ne];omega
 have t15:(k == 15)=false:=by rw[beq_eq_false_iff_ne];omega
 have t16:(k == 16)=false:=by rw[beq_eq_false_iff_ne];omega
 have t17:(k == 17)=false:=by rw[beq_eq_false_iff_ne];omega
 have t18:(k == 18)=false:=by rw[beq_eq_false_iff_ne];omega
 have t19:(k == 19)=false:=by rw[beq_eq_false_iff_ne];omega
 have t20:(k == 20)=false:=by rw[beq_eq_false_iff_ne];omega
 have t21:(k == 21)=false:=by rw[beq_eq_false_iff_ne];omega
 have t22:(k == 22)=false:=by rw[beq_eq_false_iff_ne];omega
 have t23:(k == 23)=false:=by rw[beq_eq_false_iff_ne];omega
 rw[HS.o];clear hk;go_enter Tryz.func94,Tryz.ntmps94;go_wp2_with fail;exact bodyPost_ret (v:=.tuple #[Cr ⟨false,false,false,false,0,0,false⟩,.bool false]) (by simp[results,Tryz.results94,go_sem,Cr]) rfl ⟨rfl,(Below.refl _ _).alloc (Nat.le_refl _) _⟩
theorem Y1 (k:Int) (w:World):Calls Tryz.prog 94 #[.int .i64 k] w fun e w'=>e=.returned (.tuple #[Cr (Ak k),.bool (Ak k).known])/\Below w.heap.size w w':=by
 by_cases h:k<1\/23<k
 ·exact Jcl k w h
 ·have:k=1\/k=2\/k=3\/k=4\/k=5\/k=6\/k=7\/k=8\/k=9\/k=10\/k=11\/k=12\/k=13\/k=14\/k=15\/k=16\/k=17\/k=18\/k=19\/k=20\/k=21\/k=22\/k=23:=by omega
  rcases this with rfl|rfl|rfl|rfl|rfl|rfl|rfl|rfl|rfl|rfl|rfl|rfl|rfl|rfl|rfl|rfl|rfl|rfl|rfl|rfl|rfl|rfl|rfl
  ·exact Je5 w
  ·exact Je6 w
  ·exact Je7 w
  ·exact Je8 w
  ·exact Je9 w
  ·exact Jfa w
  ·exact Jfb w
  ·exact Jfc w
  ·exact Jfd w
  ·exact Jb6 w
  ·exact Jb7 w
  ·exact Jb8 w
  ·exact Jb9 w
  ·exact Jca w
  ·exact Jcb w
  ·exact Jcc w
  ·exact Jcd w
  ·exact Jce w
  ·exact Jcf w
  ·exact Jcg w
  ·exact Jch w
  ·exact Jci w
  ·exact Jcj w
def Cf (s:Z8):Ty:=.mk 10 s 0 [] [] []
theorem Im (s:Z8):(Cf s).k=10:=rfl
theorem Jd (l:List Z8):Bk (l.map Cf)=l.map Cf:=Hl fun x hx=>by
 obtain⟨s,_,rfl⟩:=List.mem_map.1 hx;rw[Im];decide
theorem Lh (l:List Z8) {k:Int}(h:k≠10):Cv k (l.map Cf)=false:=by
 cases e:Cv k (l.map Cf)
 ·rfl
 ·obtain⟨t,ht,hk⟩:=G9.1 e;obtain⟨s,_,rfl⟩:=List.mem_map.1 ht;exact absurd (show k=10 from hk.symm) h
theorem Yk (l:List Z8):Cy (l.map Cf)=l.map Cf:=by
 unfold Cy;rw[Jd,List.filter_eq_self];intro x hx;obtain⟨s,_,rfl⟩:=List.mem_map.1 hx;rw[Eo _ (by rw[Im];decide) (by rw[Im];decide) (by rw[Im];decide) (by rw[K9];exact Lh l (by decide)) (by rw[Tl];exact Lh l (by decide)),if_neg (by rw[Im];decide),if_pos (Im s),Jb3,Lh l (by decide)];rfl
def Js (f:Z8×Int×Ty):Ty:=if f.2.1 % 2=1 then Bl [E7 4,f.2.2] else f.2.2
def Gj (fs:Bv) (s:Z8):Ty:=match fs.find? fun f=>decide (f.1=s) with
 | none=>E7 2
 | some f=>Js f
def Jgs (t k:Ty):Ty:=
 if t.k=11/\(k.k=7\/k.k=9) then Bl (E7 4 :: t.ps)
 else if t.k=12/\k.k=9 then (if k.n<0 then E7 4 else (t.ps[k.n.toNat]?).getD (E7 4))
 else if t.k=12/\k.k=7 then Bl (E7 4 :: t.ps) else E7 2
theorem Jfr {t p:Ty}(h:p∈t.ps):SizeOf.sizeOf p<SizeOf.sizeOf t:=by
 obtain⟨k,s,n,ps,fs,vs⟩:=t;exact D8 h
def Zh (t k:Ty):Ty:=if k.k=1 then k else if t.k=3\/t.k=1 then t else if k.k=15 then Bl (k.ps.attach.map fun ⟨p,_⟩=>Zh t p) else if t.k=15 then Bl (t.ps.attach.map fun ⟨p,_⟩=>Zh p k) else if t.k=14/\k.k=10 then Gj t.fs k.t else Jgs t k
termination_by SizeOf.sizeOf t+SizeOf.sizeOf k
decreasing_by
 ·have:=Jfr ‹_›;omega
 ·have:=Jfr ‹_›;omega
theorem Zq (t k:Ty):Zh t k=if k.k=1 then k else if t.k=3\/t.k=1 then t else if k.k=15 then Bl (k.ps.map (Zh t)) else if t.k=15 then Bl (t.ps.map fun p=>Zh p k) else if t.k=14/\k.k=10 then Gj t.fs k.t else Jgs t k:=by
 rw[Zh];simp only[List.map_attach_eq_pmap,List.pmap_eq_map]
def Ni (t:Ty):Prop:=∀(K K':Nat->Prop) (t':Ty),Ws 104 (fun w b o=>Dm K w t b o) (fun w b o=>Dm K' w t' b o) (B6 t t')
theorem S0 (l l':List Ty) (h:∀p∈l,Ni p) {K K':Nat->Prop}{w:World}{A A':Option Addr}{c c':Nat}(h1:Bh K w l A c) (h2:Bh K' w l' A' c') :
  Calls Tryz.prog 145 #[.slice A l.length c,.slice A' l'.length c',.func (.func 104) #[] #[]] w fun e w'=>e=.returned (.int .i64 (Cb (Bz l) (Bz l')))/\Gw w w':=by
 obtain⟨b,o,hr,hx⟩:=h1;obtain⟨b',o',hr',hx'⟩:=h2;exact Ww flat La (fun x w b o=>Dm K w x b o) (fun x w b o=>Dm K' w x b o) (fun _ _ _ _ _ hb h=>h.later hb) (fun _ _ _ _ _ hb h=>h.later hb) l l' (fun x hx y=>h x hx K K' y) A A' c c' w b o b' o' (fun h=>(hr.some h).1) (fun h=>(hr'.some h).1) (hr.big) (hr'.big) hx hx'
def Hz (K:Nat->Prop) (f:Z8×Int×Ty) (w:World) (b o:Nat):Prop:=w.cell? ⟨b,o,none⟩=some (.string f.1)/\w.cell? ⟨b,o+1,none⟩=some (.int .i64 f.2.1)/\Dm K w f.2.2 b (o+2)
theorem Hz.later {K:Nat->Prop}{f:Z8×Int×Ty}{w w':World}{b o:Nat}(h:Hz K f w b o) (hb:Below w.heap.size w w'):Hz K f w' b o:=⟨Aa hb h.1,Aa hb h.2.1,h.2.2.later hb⟩
def Nj (K:Nat->Prop) (v:Z8×List Ty) (w:World) (b o:Nat):Prop:=∃B d,w.cell? ⟨b,o,none⟩=some (.string v.1)/\w.cell? ⟨b,o+1,none⟩=some (.slice B v.2.length d)/\Bh K w v.2 B d
theorem Nj.later {K:Nat->Prop}{v:Z8×List Ty}{w w':World}{b o:Nat}(h:Nj K v w b o) (hb:Below w.heap.size w w'):Nj K v w' b o:=by
 obtain⟨B,d,h1,h2,h3⟩:=h;exact⟨B,d,Aa hb h1,Aa hb h2,h3.later hb⟩
theorem Jcv (v:Z8×List Ty) (h:∀b∈v.2,Ni b) (K K':Nat->Prop) (v':Z8×List Ty):Ws 149 (Nj K v) (Nj K' v') (Cb (D4.s v.1 :: Bz v.2) (.s v'.1 :: Bz v'.2)):=by
 refine⟨fun w b o b' o' h1 h2=>?_⟩;rw[Qc];obtain⟨vn,vl⟩:=v;obtain⟨vn',vl'⟩:=v';obtain⟨B,d,a0,a1,a2⟩:=h1;obtain⟨B',d',b0,b1,b2⟩:=h2;have KL:=Hd (S0 vl vl' h (w:=w.drew.drew) (a2.later (Below.refl _ _).drew.drew) (b2.later (Below.refl _ _).drew.drew));have HS:=Hd (And.intro a1 b1);have HS1:=Hd (And.intro a0 b0);simp only at HS HS1 KL ⊢;have KC:=Hd (fun w=>Lc vn vn' w);generalize Dt vn vn'=cn at KC ⊢;generalize Cb (Bz vl) (Bz vl')=cl at KL ⊢;clear h a0 a1 a2 b0 b1 b2;go_enter Tryz.func149,Tryz.ntmps149;go_wp2_with fail;refine wp_region_held_drew (S:=(fun w'=>w'.cell? ⟨b,o,none⟩=some (.string vn)/\w'.cell? ⟨b',o',none⟩=some (.string vn'))) (by kernel_rfl) HS1.o (fun hA=>?_);refine Ab.s [0,1,2,3,4,5,6,7] ?_
 iterate 8 (refine Ab.k (so rfl) hA ?_;try simp only[Act.put,Az,Ba,Bb])
 refine Ab.d ?_;refine wpAnyH_ready (rs:=[8]) (by kernel_rfl) (by simp) ?_;refine AllReadyH.cons (sd (some 14) rfl) (fun K hK=>?_) AllReadyH.nil;go_simp;refine (KC.o _).mono ?_;rintro e w2 ⟨rfl,rfl⟩;go_wp2_with fail;refine hK.out _ _ (HS1.o) (fun hA=>?_);clear hK K;try simp only[Act.put,Az,Ba,Bb]
 refine Ab.s [9] ?_;refine Ab.k (so rfl) hA ?_;try simp only[Act.put,Az,Ba,Bb]
 refine Ab.d ?_;refine wpAnyH_done (by kernel_rfl) ?_ _;clear hA;by_cases hc:cn=0
 case neg=>
  have tc:(cn != 0)=true:=by simpa using hc
  have HC:=Hd hc;clear hc;go_wp2_with fail;go_ret
  exact⟨by rw[Dv HC.o];rfl,(Gw.refl w).drew⟩
 have tc:(cn != 0)=false:=by simpa using hc
 have hD:=Hd hc;clear hc;go_wp2_with fail;refine wp_region_held_drew (S:=(fun w'=>w'.cell? ⟨b,o+1,none⟩=some (.slice B vl.length d)/\w'.cell? ⟨b',o'+1,none⟩=some (.slice B' vl'.length d'))) (by kernel_rfl) HS.o (fun hA=>?_);refine Ab.s [0,1,2,3,4,5,6,7] ?_
 iterate 8 (refine Ab.k (so rfl) hA ?_;try simp only[Act.put,Az,Ba,Bb])
 refine Ab.d ?_;refine wpAnyH_ready (rs:=[8]) (by kernel_rfl) (by simp) ?_;refine AllReadyH.cons (sd (some 26) rfl) (fun K hK=>?_) AllReadyH.nil;go_simp;refine KL.o.mono ?_;rintro e w4 ⟨rfl,hC⟩;have hB:Z9 (Gw w w4):=Hd ((Gw.refl w).drew.drew.trans hC);have hE:=Hd (And.intro (Aa hB.o.below HS.o.1) (Aa hB.o.below HS.o.2));clear hC;go_wp2_with fail;refine hK.out _ _ (hE.o) (fun hA=>?_);clear hK K;try simp only[Act.put,Az,Ba,Bb]
 refine Ab.s [9] ?_;refine Ab.k (so rfl) hA ?_;try simp only[Act.put,Az,Ba,Bb]
 refine Ab.d ?_;refine wpAnyH_done (by kernel_rfl) ?_ _;clear hA;go_wp2_with fail;go_ret
 exact⟨by rw[hD.o,Bo];rfl,hB.o⟩
theorem Xo (f:Z8×Int×Ty) (h:Ni f.2.2) (K K':Nat->Prop) (f':Z8×Int×Ty):Ws 147 (Hz K f) (Hz K' f') (Cb ([D4.s f.1,.i f.2.1]++flat f.2.2) ([.s f'.1,.i f'.2.1]++flat f'.2.2)):=by
 refine⟨fun w b o b' o' h1 h2=>?_⟩;rw[Ma];obtain⟨fn,fi,ft⟩:=f;obtain⟨fn',fi',ft'⟩:=f';obtain⟨a0,a1,a2⟩:=h1;obtain⟨b0,b1,b2⟩:=h2;simp only at a0 a1 a2 b0 b1 b2 h ⊢;rw[<-Hp];have KA:=Hd (fun w=>Lc fn fn' w);have KB:=Hd (fun w=>Fj fi fi' w);generalize Dt fn fn'=ca at KA ⊢;generalize Dr fi fi'=cb at KB ⊢;have hB:Z9 (Gw w (w.alloc (.cells #[.int .i64 ca,.int .i64 cb] 3)).drew):=Hd ((Gw.refl _).alloc _).drew;have KL:=Hd ((h K K' ft').ok (w.alloc (.cells #[.int .i64 ca,.int .i64 cb] 3)).drew.drew b (o+2) b' (o'+2) (a2.later hB.o.drew.below) (b2.later hB.o.drew.below));generalize B6 ft ft'=cl at KL ⊢;have HS1:Z9 (w.drew.cell? ⟨b,o,none⟩=some (.string fn)/\w.drew.cell? ⟨b',o',none⟩=some (.string fn')/\w.drew.cell? ⟨b,o+1,none⟩=some (.int .i64 fi)/\w.drew.cell? ⟨b',o'+1,none⟩=some (.int .i64 fi')):=Hd ⟨a0,b0,a1,b1⟩;have hC:Z9 ((w.alloc (.cells #[.int .i64 ca,.int .i64 cb] 3)).drew.cell? ⟨b,o,none⟩=some (.string fn)/\(w.alloc (.cells #[.int .i64 ca,.int .i64 cb] 3)).drew.cell? ⟨b',o',none⟩=some (.string fn')/\(w.alloc (.cells #[.int .i64 ca,.int .i64 cb] 3)).drew.cell? ⟨b,o+1,none⟩=some (.int .i64 fi)/\(w.alloc (.cells #[.int .i64 ca,.int .i64 cb] 3)).drew.cell? ⟨b',o'+1,none⟩=some (.int .i64 fi')):=Hd ⟨Aa hB.o.below a0,Aa hB.o.below b0,Aa hB.o.below a1,Aa hB.o.below b1⟩;clear h a0 a1 a2 b0 b1 b2;go_enter Tryz.func147,Tryz.ntmps147;go_wp2_with fail;refine wp_region_held_drew (S:=(fun w'=>w'.cell? ⟨b,o,none⟩=some (.string fn)/\w'.cell? ⟨b',o',none⟩=some (.string fn')/\w'.cell? ⟨b,o+1,none⟩=some (.int .i64 fi)/\w'.cell? ⟨b',o'+1,none⟩=some (.int .i64 fi'))) (by kernel_rfl) HS1.o (fun hA=>?_);refine Ab.s [0,1,2,3,4,5,6,7,9,10,11,12,13,14,15,16] ?_
 iterate 16 (refine Ab.k (so rfl) hA ?_;try simp only[Act.put,Az,Ba,Bb])
 refine Ab.d ?_;refine wpAnyH_ready (rs:=[8]) (by kernel_rfl) (by simp) ?_;refine AllReadyH.cons (sd (some 14) rfl) (fun K hK=>?_) AllReadyH.nil;go_simp;refine (KA.o _).mono ?_;rintro e w2 ⟨rfl,rfl⟩;go_wp2_with fail;refine hK.out _ _ (HS1.o) (fun hA=>?_);clear hK K;try simp only[Act.put,Az,Ba,Bb]
 refine wpAnyH_ready (rs:=[17]) (by kernel_rfl) (by simp) ?_;refine AllReadyH.cons (sd (some 23) rfl) (fun K hK=>?_) AllReadyH.nil;go_simp;refine (KB.o _).mono ?_;rintro e w2 ⟨rfl,rfl⟩;go_wp2_with fail;refine hK.out _ _ (HS1.o) (fun hA=>?_);clear hK K;try simp only[Act.put,Az,Ba,Bb]
 refine wpAnyH_ready (rs:=[18]) (by kernel_rfl) (by simp) ?_;refine AllReadyH.cons (sd (some 24) rfl) (fun K hK=>?_) AllReadyH.nil;go_simp;refine hK.out _ _ (hC.o) (fun hA=>?_);clear hK K;try simp only[Act.put,Az,Ba,Bb]
 refine wpAnyH_ready (rs:=[19]) (by kernel_rfl) (by simp) ?_;refine AllReadyH.cons (sd (some 25) rfl) (fun K hK=>?_) AllReadyH.nil;go_simp;refine (Jg5 _ _ _ _ (Jfm w ca cb).1 (Jfm w ca cb).2).mono ?_;rintro e w2 ⟨rfl,rfl⟩;go_wp2_with fail;refine hK.out _ _ (hC.o) (fun hA=>?_);clear hK K;try simp only[Act.put,Az,Ba,Bb]
 refine Ab.s [20] ?_;refine Ab.k (so rfl) hA ?_;try simp only[Act.put,Az,Ba,Bb]
 refine Ab.d ?_;refine wpAnyH_done (by kernel_rfl) ?_ _;clear hA;by_cases hc:F2 ca cb=0
 case neg=>
  have tc:(F2 ca cb != 0)=true:=by simpa using hc
  have HC:=Hd hc;clear hc;go_wp2_with fail;go_ret
  exact⟨by rw[Dv HC.o];rfl,hB.o⟩
 have tc:(F2 ca cb != 0)=false:=by simpa using hc
 have hF:=Hd hc;clear hc;go_wp2_with fail;refine wp_region_held_drew (S:=(fun _=>True)) (by kernel_rfl) trivial (fun hA=>?_);refine Ab.s [0,1,2,3,4,5] ?_
 iterate 6 (refine Ab.k (so rfl) hA ?_;try simp only[Act.put,Az,Ba,Bb])
 refine Ab.d ?_;refine wpAnyH_ready (rs:=[6]) (by kernel_rfl) (by simp) ?_;refine AllReadyH.cons (sd (some 35) rfl) (fun K hK=>?_) AllReadyH.nil;go_simp;refine KL.o.mono ?_;rintro e w4 ⟨rfl,hD⟩;have hE:Z9 (Gw w w4):=Hd (hB.o.drew.trans hD);clear hD;go_wp2_with fail;refine hK.out _ _ (trivial) (fun hA=>?_);clear hK K;try simp only[Act.put,Az,Ba,Bb]
 refine Ab.s [7] ?_;refine Ab.k (so rfl) hA ?_;try simp only[Act.put,Az,Ba,Bb]
 refine Ab.d ?_;refine wpAnyH_done (by kernel_rfl) ?_ _;clear hA;go_wp2_with fail;go_ret
 exact⟨by rw[hF.o,Bo];rfl,hE.o⟩
theorem T8 (l l':Bv) (h:∀f∈l,Ni f.2.2) {K K':Nat->Prop}{w:World}{A A':Option Addr}{c c':Nat}(h1:Du K w l A c) (h2:Du K' w l' A' c') :
  Calls Tryz.prog 146 #[.slice A l.length c,.slice A' l'.length c',.func (.func 147) #[] #[]] w fun e w'=>e=.returned (.int .i64 (Cb (Ea l) (Ea l')))/\Gw w w':=by
 obtain⟨b,o,hr,hx⟩:=h1;obtain⟨b',o',hr',hx'⟩:=h2;exact Tr (fun f=>[.s f.1,.i f.2.1]++flat f.2.2) Qf (fun x w b o=>Hz K x w b o) (fun x w b o=>Hz K' x w b o) (fun _ _ _ _ _ hb h=>h.later hb) (fun _ _ _ _ _ hb h=>h.later hb) l l' (fun x hx y=>Xo x (h x hx) K K' y) A A' c c' w b o b' o' (fun h=>(hr.some h).1) (fun h=>(hr'.some h).1) (hr.big) (hr'.big) (fun i hi=>⟨(hx i hi).1,(hx i hi).2.1,(hx i hi).2.2.2⟩) (fun i hi=>⟨(hx' i hi).1,(hx' i hi).2.1,(hx' i hi).2.2.2⟩)
theorem Jcu (l l':Bw) (h:∀v∈l,∀b∈v.2,Ni b) {K K':Nat->Prop}{w:World}{A A':Option Addr}{c c':Nat}(h1:Dd K w l A c) (h2:Dd K' w l' A' c') :
  Calls Tryz.prog 148 #[.slice A l.length c,.slice A' l'.length c',.func (.func 149) #[] #[]] w fun e w'=>e=.returned (.int .i64 (Cb (Eb l) (Eb l')))/\Gw w w':=by
 obtain⟨b,o,hr,hx⟩:=h1;obtain⟨b',o',hr',hx'⟩:=h2;exact Zm (fun v=>.s v.1 :: Bz v.2) Qh (fun x w b o=>Nj K x w b o) (fun x w b o=>Nj K' x w b o) (fun _ _ _ _ _ hb h=>h.later hb) (fun _ _ _ _ _ hb h=>h.later hb) l l' (fun x hx y=>Jcv x (h x hx) K K' y) A A' c c' w b o b' o' (fun h=>(hr.some h).1) (fun h=>(hr'.some h).1) (hr.big) (hr'.big)
  (fun i hi=>by obtain⟨B,d,x0,x1,_,x3⟩:=hx i hi;exact⟨B,d,x0,x1,x3⟩) (fun i hi=>by obtain⟨B,d,x0,x1,_,x3⟩:=hx' i hi;exact⟨B,d,x0,x1,x3⟩)
theorem Bd {B:Nat}{a w:World}(h:Below B a w):∀n,Below B a (w.drewN n)
 | 0=>h
 | n+1=>(Bd h n).drew
def Ar (s:Shp) (t:Z8) (n:Int) (np nf nv:Nat):Bool:=
 !((!s.t && !(t.toList == [])) || (!s.n && n != 0) || (!s.f && decide (0<nf)) || (!s.v && decide (0<nv))) && (decide (s.lo<=(np:Int)) && (s.hi == -1 || decide ((np:Int)<=s.hi)))

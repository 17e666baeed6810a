import Derived.Test.YtlpfpehegddcfaaGreatDoorMn9
namespace Go.Proofs.YtlpfpehegddcfaaGreatDoor
set_option maxRecDepth 100000
set_option maxHeartbeats 64000000
open Go.RowKit
theorem fits_ftff {w:World} {b o np nf nv c1 c2 c3:Nat} {t:ByteArray} {n lo hi:Int} {A1 A2 A3:Option Addr} (x1:w.cell? ⟨b,o+1,none⟩=some (.string t)) (_x2:w.cell? ⟨b,o+2,none⟩=some (.int .i64 n)) (x3:w.cell? ⟨b,o+3,none⟩=some (.slice A1 np c1)) (x4:w.cell? ⟨b,o+4,none⟩=some (.slice A2 nf c2)) (x5:w.cell? ⟨b,o+5,none⟩=some (.slice A3 nv c3)) :
  Calls Tryz.prog 95 #[.agg #[.bool false,.bool true,.bool false,.bool false,.int .i64 lo,.int .i64 hi],.pointer (some ⟨b,o,none⟩)] w fun e w'=>e=.returned (.bool (fitsB ⟨false,true,false,false,lo,hi,true⟩ t n np nf nv))∧Below w.heap.size w w':=by
 have hlt:b<w.heap.size:=World.block_lt_of_cell? _ _ x1
 have HB:Hid (Below w.heap.size w (w.alloc (.cells #[.bool false,.bool true,.bool false,.bool false,.int .i64 lo,.int .i64 hi] 138))):=Hd ((Below.refl _ _).alloc (Nat.le_refl _) _)
 cases q0:t.toList with
 | nil=>
  have e0:(t.toList == [])=true:=by rw[q0];rfl
  have Q0:=Hd e0
  by_cases q2:nf=0
  ·have e2:¬ 0<nf:=by omega
   have z2:decide ((0:Int)<(nf:Int))=false:=by simp;omega
   have Q2:=Hd e2
   clear q2
   by_cases q3:nv=0
   ·have e3:¬ 0<nv:=by omega
    have z3:decide ((0:Int)<(nv:Int))=false:=by simp;omega
    have Q3:=Hd e3
    clear q3
    by_cases h1:lo≤(np:Int)
    ·by_cases h2:hi = -1
     ·have t2:(hi == -1)=true:=by simpa using h2
      have HR:Hid (fitsB ⟨false,true,false,false,lo,hi,true⟩ t n np nf nv=true):=Hd (by unfold fitsB;simp[Q0.out,Q2.out,Q3.out,h1,h2])
      clear h2
      go_enter Tryz.func95,Tryz.ntmps95
      go_wp2_with fail
      go_quiet (fail)
      go_wp2_with fail
      go_ret
      exact⟨by rw[HR.out];first | rfl | (show Ending.returned (.bool (decide ((np:Int)≤hi)))=_;rw[t3]),by first | exact HB.out | exact drewN_below HB.out _ | exact HB.out.drew⟩
     ·have t2:(hi == -1)=false:=by simpa using h2
      by_cases h3:(np:Int)≤hi
      ·have t3:decide ((np:Int)≤hi)=true:=by simpa using h3
       have HR:Hid (fitsB ⟨false,true,false,false,lo,hi,true⟩ t n np nf nv=true):=Hd (by unfold fitsB;simp[Q0.out,Q2.out,Q3.out,h1,t2,h3])
       clear h2
       go_enter Tryz.func95,Tryz.ntmps95
       go_wp2_with fail
       go_quiet (fail)
       go_wp2_with fail
       go_ret
       exact⟨by rw[HR.out];first | rfl | (show Ending.returned (.bool (decide ((np:Int)≤hi)))=_;rw[t3]),by first | exact HB.out | exact drewN_below HB.out _ | exact HB.out.drew⟩
      ·have t3:decide ((np:Int)≤hi)=false:=by simpa using h3
       have HR:Hid (fitsB ⟨false,true,false,false,lo,hi,true⟩ t n np nf nv=false):=Hd (by unfold fitsB;simp[Q0.out,Q2.out,Q3.out,t2,h3])
       clear h2
       go_enter Tryz.func95,Tryz.ntmps95
       go_wp2_with fail
       go_quiet (fail)
       go_wp2_with fail
       go_ret
       exact⟨by rw[HR.out];first | rfl | (show Ending.returned (.bool (decide ((np:Int)≤hi)))=_;rw[t3]),by first | exact HB.out | exact drewN_below HB.out _ | exact HB.out.drew⟩
    ·have t1:decide (lo≤(np:Int))=false:=by simpa using h1
     have t1b:(np:Int)<lo:=by omega
     have HR:Hid (fitsB ⟨false,true,false,false,lo,hi,true⟩ t n np nf nv=false):=Hd (by unfold fitsB;simp[Q0.out,Q2.out,Q3.out,h1])
     go_enter Tryz.func95,Tryz.ntmps95
     go_wp2_with fail
     go_quiet (fail)
     go_wp2_with fail
     go_ret
     exact⟨by rw[HR.out];first | rfl | (show Ending.returned (.bool (decide ((np:Int)≤hi)))=_;rw[t3]),by first | exact HB.out | exact drewN_below HB.out _ | exact HB.out.drew⟩
   ·have e3:0<nv:=by omega
    have z3:decide ((0:Int)<(nv:Int))=true:=by simp;omega
    have Q3:=Hd e3
    clear q3
    have HR:Hid (fitsB ⟨false,true,false,false,lo,hi,true⟩ t n np nf nv=false):=Hd (by unfold fitsB;simp[Q0.out,Q2.out,Q3.out])
    go_enter Tryz.func95,Tryz.ntmps95
    go_wp2_with fail
    go_ret
    exact⟨by rw[HR.out];first | rfl | (show Ending.returned (.bool (decide ((np:Int)≤hi)))=_;rw[t3]),by first | exact HB.out | exact drewN_below HB.out _ | exact HB.out.drew⟩
  ·have e2:0<nf:=by omega
   have z2:decide ((0:Int)<(nf:Int))=true:=by simp;omega
   have Q2:=Hd e2
   clear q2
   have HR:Hid (fitsB ⟨false,true,false,false,lo,hi,true⟩ t n np nf nv=false):=Hd (by unfold fitsB;simp[Q0.out,Q2.out])
   go_enter Tryz.func95,Tryz.ntmps95
   go_wp2_with fail
   go_ret
   exact⟨by rw[HR.out];first | rfl | (show Ending.returned (.bool (decide ((np:Int)≤hi)))=_;rw[t3]),by first | exact HB.out | exact drewN_below HB.out _ | exact HB.out.drew⟩
 | cons hd tl=>
  have e0:(t.toList == [])=false:=by rw[q0];rfl
  have Q0:=Hd e0
  have HR:Hid (fitsB ⟨false,true,false,false,lo,hi,true⟩ t n np nf nv=false):=Hd (by unfold fitsB;simp[Q0.out])
  go_enter Tryz.func95,Tryz.ntmps95
  go_wp2_with fail
  go_ret
  exact⟨by rw[HR.out];first | rfl | (show Ending.returned (.bool (decide ((np:Int)≤hi)))=_;rw[t3]),by first | exact HB.out | exact drewN_below HB.out _ | exact HB.out.drew⟩
theorem fits_ffft {w:World} {b o np nf nv c1 c2 c3:Nat} {t:ByteArray} {n lo hi:Int} {A1 A2 A3:Option Addr} (x1:w.cell? ⟨b,o+1,none⟩=some (.string t)) (x2:w.cell? ⟨b,o+2,none⟩=some (.int .i64 n)) (x3:w.cell? ⟨b,o+3,none⟩=some (.slice A1 np c1)) (x4:w.cell? ⟨b,o+4,none⟩=some (.slice A2 nf c2)) (_x5:w.cell? ⟨b,o+5,none⟩=some (.slice A3 nv c3)) :
  Calls Tryz.prog 95 #[.agg #[.bool false,.bool false,.bool false,.bool true,.int .i64 lo,.int .i64 hi],.pointer (some ⟨b,o,none⟩)] w fun e w'=>e=.returned (.bool (fitsB ⟨false,false,false,true,lo,hi,true⟩ t n np nf nv))∧Below w.heap.size w w':=by
 have hlt:b<w.heap.size:=World.block_lt_of_cell? _ _ x1
 have HB:Hid (Below w.heap.size w (w.alloc (.cells #[.bool false,.bool false,.bool false,.bool true,.int .i64 lo,.int .i64 hi] 138))):=Hd ((Below.refl _ _).alloc (Nat.le_refl _) _)
 cases q0:t.toList with
 | nil=>
  have e0:(t.toList == [])=true:=by rw[q0];rfl
  have Q0:=Hd e0
  by_cases q1:n=0
  ·have e1:(n != 0)=false:=by simpa using q1
   have Q1:=Hd q1
   clear q1
   by_cases q2:nf=0
   ·have e2:¬ 0<nf:=by omega
    have z2:decide ((0:Int)<(nf:Int))=false:=by simp;omega
    have Q2:=Hd e2
    clear q2
    by_cases h1:lo≤(np:Int)
    ·by_cases h2:hi = -1
     ·have t2:(hi == -1)=true:=by simpa using h2
      have HR:Hid (fitsB ⟨false,false,false,true,lo,hi,true⟩ t n np nf nv=true):=Hd (by unfold fitsB;simp[Q0.out,Q1.out,Q2.out,h1,h2])
      clear h2
      go_enter Tryz.func95,Tryz.ntmps95
      go_wp2_with fail
      go_quiet (fail)
      go_wp2_with fail
      go_ret
      exact⟨by rw[HR.out];first | rfl | (show Ending.returned (.bool (decide ((np:Int)≤hi)))=_;rw[t3]),by first | exact HB.out | exact drewN_below HB.out _ | exact HB.out.drew⟩
     ·have t2:(hi == -1)=false:=by simpa using h2
      by_cases h3:(np:Int)≤hi
      ·have t3:decide ((np:Int)≤hi)=true:=by simpa using h3
       have HR:Hid (fitsB ⟨false,false,false,true,lo,hi,true⟩ t n np nf nv=true):=Hd (by unfold fitsB;simp[Q0.out,Q1.out,Q2.out,h1,t2,h3])
       clear h2
       go_enter Tryz.func95,Tryz.ntmps95
       go_wp2_with fail
       go_quiet (fail)
       go_wp2_with fail
       go_ret
       exact⟨by rw[HR.out];first | rfl | (show Ending.returned (.bool (decide ((np:Int)≤hi)))=_;rw[t3]),by first | exact HB.out | exact drewN_below HB.out _ | exact HB.out.drew⟩
      ·have t3:decide ((np:Int)≤hi)=false:=by simpa using h3
       have HR:Hid (fitsB ⟨false,false,false,true,lo,hi,true⟩ t n np nf nv=false):=Hd (by unfold fitsB;simp[Q0.out,Q1.out,Q2.out,t2,h3])
       clear h2
       go_enter Tryz.func95,Tryz.ntmps95
       go_wp2_with fail
       go_quiet (fail)
       go_wp2_with fail
       go_ret
       exact⟨by rw[HR.out];first | rfl | (show Ending.returned (.bool (decide ((np:Int)≤hi)))=_;rw[t3]),by first | exact HB.out | exact drewN_below HB.out _ | exact HB.out.drew⟩
    ·have t1:decide (lo≤(np:Int))=false:=by simpa using h1
     have t1b:(np:Int)<lo:=by omega
     have HR:Hid (fitsB ⟨false,false,false,true,lo,hi,true⟩ t n np nf nv=false):=Hd (by unfold fitsB;simp[Q0.out,Q1.out,Q2.out,h1])
     go_enter Tryz.func95,Tryz.ntmps95
     go_wp2_with fail
     go_quiet (fail)
     go_wp2_with fail
     go_ret
     exact⟨by rw[HR.out];first | rfl | (show Ending.returned (.bool (decide ((np:Int)≤hi)))=_;rw[t3]),by first | exact HB.out | exact drewN_below HB.out _ | exact HB.out.drew⟩
   ·have e2:0<nf:=by omega
    have z2:decide ((0:Int)<(nf:Int))=true:=by simp;omega
    have Q2:=Hd e2
    clear q2
    have HR:Hid (fitsB ⟨false,false,false,true,lo,hi,true⟩ t n np nf nv=false):=Hd (by unfold fitsB;simp[Q0.out,Q1.out,Q2.out])
    go_enter Tryz.func95,Tryz.ntmps95
    go_wp2_with fail
    go_ret
    exact⟨by rw[HR.out];first | rfl | (show Ending.returned (.bool (decide ((np:Int)≤hi)))=_;rw[t3]),by first | exact HB.out | exact drewN_below HB.out _ | exact HB.out.drew⟩
  ·have e1:(n != 0)=true:=by simpa using q1
   have Q1:=Hd q1
   have HR:Hid (fitsB ⟨false,false,false,true,lo,hi,true⟩ t n np nf nv=false):=Hd (by unfold fitsB;simp[Q0.out,Q1.out])
   clear q1
   go_enter Tryz.func95,Tryz.ntmps95
   go_wp2_with fail
   go_ret
   exact⟨by rw[HR.out];first | rfl | (show Ending.returned (.bool (decide ((np:Int)≤hi)))=_;rw[t3]),by first | exact HB.out | exact drewN_below HB.out _ | exact HB.out.drew⟩
 | cons hd tl=>
  have e0:(t.toList == [])=false:=by rw[q0];rfl
  have Q0:=Hd e0
  have HR:Hid (fitsB ⟨false,false,false,true,lo,hi,true⟩ t n np nf nv=false):=Hd (by unfold fitsB;simp[Q0.out])
  go_enter Tryz.func95,Tryz.ntmps95
  go_wp2_with fail
  go_ret
  exact⟨by rw[HR.out];first | rfl | (show Ending.returned (.bool (decide ((np:Int)≤hi)))=_;rw[t3]),by first | exact HB.out | exact drewN_below HB.out _ | exact HB.out.drew⟩
theorem fits_fftf {w:World} {b o np nf nv c1 c2 c3:Nat} {t:ByteArray} {n lo hi:Int} {A1 A2 A3:Option Addr} (x1:w.cell? ⟨b,o+1,none⟩=some (.string t)) (x2:w.cell? ⟨b,o+2,none⟩=some (.int .i64 n)) (x3:w.cell? ⟨b,o+3,none⟩=some (.slice A1 np c1)) (_x4:w.cell? ⟨b,o+4,none⟩=some (.slice A2 nf c2)) (x5:w.cell? ⟨b,o+5,none⟩=some (.slice A3 nv c3)) :
  Calls Tryz.prog 95 #[.agg #[.bool false,.bool false,.bool true,.bool false,.int .i64 lo,.int .i64 hi],.pointer (some ⟨b,o,none⟩)] w fun e w'=>e=.returned (.bool (fitsB ⟨false,false,true,false,lo,hi,true⟩ t n np nf nv))∧Below w.heap.size w w':=by
 have hlt:b<w.heap.size:=World.block_lt_of_cell? _ _ x1
 have HB:Hid (Below w.heap.size w (w.alloc (.cells #[.bool false,.bool false,.bool true,.bool false,.int .i64 lo,.int .i64 hi] 138))):=Hd ((Below.refl _ _).alloc (Nat.le_refl _) _)
 cases q0:t.toList with
 | nil=>
  have e0:(t.toList == [])=true:=by rw[q0];rfl
  have Q0:=Hd e0
  by_cases q1:n=0
  ·have e1:(n != 0)=false:=by simpa using q1
   have Q1:=Hd q1
   clear q1
   by_cases q3:nv=0
   ·have e3:¬ 0<nv:=by omega
    have z3:decide ((0:Int)<(nv:Int))=false:=by simp;omega
    have Q3:=Hd e3
    clear q3
    by_cases h1:lo≤(np:Int)
    ·by_cases h2:hi = -1
     ·have t2:(hi == -1)=true:=by simpa using h2
      have HR:Hid (fitsB ⟨false,false,true,false,lo,hi,true⟩ t n np nf nv=true):=Hd (by unfold fitsB;simp[Q0.out,Q1.out,Q3.out,h1,h2])
      clear h2
      go_enter Tryz.func95,Tryz.ntmps95
      go_wp2_with fail
      go_quiet (fail)
      go_wp2_with fail
      go_ret
      exact⟨by rw[HR.out];first | rfl | (show Ending.returned (.bool (decide ((np:Int)≤hi)))=_;rw[t3]),by first | exact HB.out | exact drewN_below HB.out _ | exact HB.out.drew⟩
     ·have t2:(hi == -1)=false:=by simpa using h2
      by_cases h3:(np:Int)≤hi
      ·have t3:decide ((np:Int)≤hi)=true:=by simpa using h3
       have HR:Hid (fitsB ⟨false,false,true,false,lo,hi,true⟩ t n np nf nv=true):=Hd (by unfold fitsB;simp[Q0.out,Q1.out,Q3.out,h1,t2,h3])
       clear h2
       go_enter Tryz.func95,Tryz.ntmps95
       go_wp2_with fail
       go_quiet (fail)
       go_wp2_with fail
       go_ret
       exact⟨by rw[HR.out];first | rfl | (show Ending.returned (.bool (decide ((np:Int)≤hi)))=_;rw[t3]),by first | exact HB.out | exact drewN_below HB.out _ | exact HB.out.drew⟩
      ·have t3:decide ((np:Int)≤hi)=false:=by simpa using h3
       have HR:Hid (fitsB ⟨false,false,true,false,lo,hi,true⟩ t n np nf nv=false):=Hd (by unfold fitsB;simp[Q0.out,Q1.out,Q3.out,t2,h3])
       clear h2
       go_enter Tryz.func95,Tryz.ntmps95
       go_wp2_with fail
       go_quiet (fail)
       go_wp2_with fail
       go_ret
       exact⟨by rw[HR.out];first | rfl | (show Ending.returned (.bool (decide ((np:Int)≤hi)))=_;rw[t3]),by first | exact HB.out | exact drewN_below HB.out _ | exact HB.out.drew⟩
    ·have t1:decide (lo≤(np:Int))=false:=by simpa using h1
     have t1b:(np:Int)<lo:=by omega
     have HR:Hid (fitsB ⟨false,false,true,false,lo,hi,true⟩ t n np nf nv=false):=Hd (by unfold fitsB;simp[Q0.out,Q1.out,Q3.out,h1])
     go_enter Tryz.func95,Tryz.ntmps95
     go_wp2_with fail
     go_quiet (fail)
     go_wp2_with fail
     go_ret
     exact⟨by rw[HR.out];first | rfl | (show Ending.returned (.bool (decide ((np:Int)≤hi)))=_;rw[t3]),by first | exact HB.out | exact drewN_below HB.out _ | exact HB.out.drew⟩
   ·have e3:0<nv:=by omega
    have z3:decide ((0:Int)<(nv:Int))=true:=by simp;omega
    have Q3:=Hd e3
    clear q3
    have HR:Hid (fitsB ⟨false,false,true,false,lo,hi,true⟩ t n np nf nv=false):=Hd (by unfold fitsB;simp[Q0.out,Q1.out,Q3.out])
    go_enter Tryz.func95,Tryz.ntmps95
    go_wp2_with fail
    go_ret
    exact⟨by rw[HR.out];first | rfl | (show Ending.returned (.bool (decide ((np:Int)≤hi)))=_;rw[t3]),by first | exact HB.out | exact drewN_below HB.out _ | exact HB.out.drew⟩
  ·have e1:(n != 0)=true:=by simpa using q1
   have Q1:=Hd q1
   have HR:Hid (fitsB ⟨false,false,true,false,lo,hi,true⟩ t n np nf nv=false):=Hd (by unfold fitsB;simp[Q0.out,Q1.out])
   clear q1
   go_enter Tryz.func95,Tryz.ntmps95
   go_wp2_with fail
   go_ret
   exact⟨by rw[HR.out];first | rfl | (show Ending.returned (.bool (decide ((np:Int)≤hi)))=_;rw[t3]),by first | exact HB.out | exact drewN_below HB.out _ | exact HB.out.drew⟩
 | cons hd tl=>
  have e0:(t.toList == [])=false:=by rw[q0];rfl
  have Q0:=Hd e0
  have HR:Hid (fitsB ⟨false,false,true,false,lo,hi,true⟩ t n np nf nv=false):=Hd (by unfold fitsB;simp[Q0.out])
  go_enter Tryz.func95,Tryz.ntmps95
  go_wp2_with fail
  go_ret
  exact⟨by rw[HR.out];first | rfl | (show Ending.returned (.bool (decide ((np:Int)≤hi)))=_;rw[t3]),by first | exact HB.out | exact drewN_below HB.out _ | exact HB.out.drew⟩
theorem MapIs.putL {P:Program} {α:Type} {M:MK P α} {W:World} {b n:Nat} {F:ByteArray→Option α} (h:MapIs M W b n F) (hn:n<maxLen) (s:ByteArray) (hs:s.size≤maxLen) (a:α) :
  ∃ w',(Instr.mapUpdate M.T (.map (some b)) (.string s) (M.val a)).run P W=.ok () w'∧MapIs M w' b (n+1) (updF F s a)∧W.grownBy w' (some b):=by
 obtain⟨L,h,hL,hF⟩:=h
 obtain⟨w',hrun,ho,hg⟩:=World.ownsMap.update h (Go.Maps.string_keyed M.hS) M.hT (Nat.lt_of_le_of_lt hL hn) (M.key s hs) (M.hR a)
 rw[put_datL M L (s,a)] at ho
 have ho2:=own_fit ho
 rw[size_datL] at ho2
 refine⟨w',hrun,⟨_,ho2,?_,fun x=>?_⟩,hg⟩
 ·rw[insL_len]
  have:=lessL_len L s
  simp only
  omega
 ·rw[find_insL (s,a) x _ (by rw[find_less];simp)]
  unfold updF
  simp only
  by_cases e:s=x
  ·rw[if_pos e,if_pos e]
  ·rw[if_neg e,if_neg e,find_less,if_neg e,hF]
def setMK:MK Tryz.prog Unit where
 T:=186
 S:=9
 E:=193
 val:=fun _=>.agg #[]
 dat:=fun _=>.agg []
 zero:=()
 R:=fun v=>match v with
  | .agg ⟨[]⟩=>some (.agg [],[])
  | _=>none
 hR:=fun _=>rfl
 inv:=by
  intro v a ps h
  split at h
  ·rfl
  ·cases h
 hS:=Tryz.underlying9
 hT:=Tryz.underlying186
 hz:=Tryz.zeroValue193
def sgn (x y:Bool):Int:=if x then -1 else if y then 1 else 0
theorem sign_any (x y:Bool) (w:World):Calls Tryz.prog 44 #[.bool x,.bool y] w fun e w'=>e=.returned (.int .i64 (sgn x y))∧w'=w:=by
 cases x <;> cases y
 all_goals
  go_enter Tryz.func44,Tryz.ntmps44
  go_wp2_with fail
  go_ret
  exact⟨rfl,rfl⟩
theorem cmpZ_cases (x y:Int):(x<y∧¬ y<x∧cmpZ x y = -1)∨(¬ x<y∧y<x∧cmpZ x y=1)∨(¬ x<y∧¬ y<x∧cmpZ x y=0):=by
 unfold cmpZ
 by_cases h:x<y
 ·exact .inl ⟨h,by omega,by rw[if_pos h]⟩
 ·by_cases h2:y<x
  ·exact .inr (.inl ⟨h,h2,by rw[if_neg h,if_pos h2]⟩)
  ·exact .inr (.inr ⟨h,h2,by rw[if_neg h,if_neg h2]⟩)
theorem cmpB_cases (x y:ByteArray):(Op.bytesLess x.toList y.toList=true∧(x.toList == y.toList)=false∧cmpB x y = -1)∨(Op.bytesLess x.toList y.toList=false∧(x.toList == y.toList)=false∧cmpB x y=1)∨(Op.bytesLess x.toList y.toList=false∧(x.toList == y.toList)=true∧cmpB x y=0):=by
 have h1:=less_iff x y
 have h2:=gtr_iff x y
 unfold cmpB
 by_cases h:x.data.toList<y.data.toList
 ·refine .inl ⟨by rw[h1];simpa using h,?_,by rw[if_pos h]⟩
  rw[ByteArray.toList_eq,ByteArray.toList_eq]
  exact beq_eq_false_iff_ne.2 fun e=>List.lt_irrefl _ (e ▸ h)
 ·have e1:Op.bytesLess x.toList y.toList=false:=by rw[h1];simpa using h
  rw[e1,Bool.false_or] at h2
  by_cases h3:y.data.toList<x.data.toList
  ·refine .inr (.inl ⟨e1,?_,by rw[if_neg h,if_pos h3]⟩)
   have:(!(x.toList == y.toList))=true:=by rw[h2];simpa using h3
   simpa using this
  ·refine .inr (.inr ⟨e1,?_,by rw[if_neg h,if_neg h3]⟩)
   have:(!(x.toList == y.toList))=false:=by rw[h2];simpa using h3
   simpa using this
def OrdR (t:Ty):Prop:=∀ (K K':Nat→Prop) (t':Ty) (w:World) (cs cs':List Value),RepT K w t cs→RepT K' w t' cs'→Calls Tryz.prog 20 #[.agg cs.toArray,.agg cs'.toArray] w fun e w'=>e=.returned (.int .i64 (ordT t t'))∧Gw w w'
theorem AtT.six2 {K:Nat→Prop} {w:World} {t:Ty} {b o:Nat} (h:AtT K w t b o):∃ x0 x1 x2 x3 x4 x5 x6 x7 x8 x9 xa xb,(w.cell? ⟨b,o,none⟩=some (.int .i64 x0)∧w.cell? ⟨b,o+1,none⟩=some (.string x1)∧w.cell? ⟨b,o+2,none⟩=some (.int .i64 x2)∧w.cell? ⟨b,o+3,none⟩=some (.slice x3 x4 x5)∧w.cell? ⟨b,o+4,none⟩=some (.slice x6 x7 x8)∧w.cell? ⟨b,o+5,none⟩=some (.slice x9 xa xb))∧RepT K w t [.int .i64 x0,.string x1,.int .i64 x2,.slice x3 x4 x5,.slice x6 x7 x8,.slice x9 xa xb]:=by
 obtain⟨k,s,n,A,lp,c,A',lf,c',A'',lv,c'',hr,e0,e1,e2,e3,e4,e5⟩:=h.vals
 exact⟨k,s,n,A,lp,c,A',lf,c',A'',lv,c'',⟨e0,e1,e2,e3,e4,e5⟩,hr⟩
theorem list_ref (l l':List (Ty)) (h:∀ p∈l,OrdR p) {K K':Nat→Prop} {w:World} {A A':Option Addr} {c c':Nat} (h1:ListT K w l A c) (h2:ListT K' w l' A' c') :
  Calls Tryz.prog 45 #[.slice A l.length c,.slice A' l'.length c'] w fun e w'=>e=.returned (.int .i64 (lexC (rowE flat l) (rowE flat l')))∧Gw w w':=by
 have H1:=Hd h1
 have H2:=Hd h2
 have HI:=Hd h
 have hl1:l.length≤1000000000000000:=by obtain⟨_,_,hr,_⟩:=h1;exact hr.big
 have hl2:l'.length≤1000000000000000:=by obtain⟨_,_,hr,_⟩:=h2;exact hr.big
 clear h h1 h2
 by_cases heq:l.length=l'.length
 ·rw[row_same flat heq]
  generalize hres:restC flat l l' 0=res
  have HRES:=Hd hres
  have HEQ:=Hd heq
  rw[←heq]
  have hirr:¬ l.length<l.length:=Nat.lt_irrefl _
  clear hres heq hl2
  go_enter Tryz.func45,Tryz.ntmps45
  go_wp2_with fail
  refine (sign_any _ _ _).mono ?_
  rintro e w1 ⟨rfl,rfl⟩
  simp only[sgn]
  go_wp2_with fail
  go_loopw [5,6] (fun vc vi wr=>∃ (cc:Int) (i:Nat),i≤l.length∧vc=.int .i64 cc∧vi=.int .i64 i∧or2 cc (restC flat l l' i)=res∧Gw w1 wr) (fun _ vi _=>l.length - (intOf vi).toNat)
  case atStart=>exact⟨0,0,by omega,by first | rfl | simp,rfl,by rw[or2_zero];exact HRES.out,Gw.refl _⟩
  case round=>
   obtain⟨cc,i,hi,rfl,rfl,ho,hb⟩:=hrel
   have HO:=Hd ho
   have HB:=Hd hb
   clear ho
   by_cases hcc:cc=0
   ·subst hcc
    by_cases hin:i<l.length
    ·have t1:decide ((i:Int)<(l.length:Int))=true:=by simp;omega
     have wr2:wrap64 ((i:Int)+1)=((i+1:Nat):Int):=wrap_one (by omega)
     have HM:=Hd (measI hin)
     have hin':i<l'.length:=by rw[←HEQ.out];exact hin
     have hstep:=rest_step flat cleanT HEQ.out hin hin'
     have hval:or2 (lexC (flat l[i]) (flat l'[i])) (restC flat l l' (i+1))=res:=by rw[←hstep,←or2_zero (restC flat l l' i)];exact HO.out
     obtain⟨b,o,hA,_,hat⟩:=H1.out.at (by omega)
     obtain⟨b',o',hA',_,hat'⟩:=H2.out.at (by omega)
     subst hA hA'
     have i0:(0:Int)≤(i:Int):=by omega
     have i1:(i:Int)<(l.length:Int):=by omega
     clear hstep
     have HLE:Hid (i+1≤l.length):=Hd hin
     obtain⟨p0,p1,p2,p3,p4,p5,p6,p7,p8,p9,pa,pb,hp,hrp⟩:=((hat i hin).later hb.below).six2
     obtain⟨q0,q1,q2,q3,q4,q5,q6,q7,q8,q9,qa,qb,hq,hrq⟩:=((hat' i hin').later hb.below).six2
     have KO:Hid (∀ wx,Below wr.heap.size wr wx→Calls Tryz.prog 20 #[.agg #[.int .i64 p0,.string p1,.int .i64 p2,.slice p3 p4 p5,.slice p6 p7 p8,.slice p9 pa pb],.agg #[.int .i64 q0,.string q1,.int .i64 q2,.slice q3 q4 q5,.slice q6 q7 q8,.slice q9 qa qb]] wx fun e w'=>e=.returned (.int .i64 (ordT (l[i]'hin) (l'[i]'hin')))∧Gw wx w'):=Hd fun wx hx=>HI.out _ (List.getElem_mem hin) K K' (l'[i]'hin') wx _ _ (hrp.later hx) (hrq.later hx)
     have HC:Hid (∀ wx,Below wr.heap.size wr wx→(wx.cell? ⟨b,o+i*6,none⟩=some (.int .i64 p0)∧wx.cell? ⟨b,o+i*6+1,none⟩=some (.string p1)∧wx.cell? ⟨b,o+i*6+2,none⟩=some (.int .i64 p2)∧wx.cell? ⟨b,o+i*6+3,none⟩=some (.slice p3 p4 p5)∧wx.cell? ⟨b,o+i*6+4,none⟩=some (.slice p6 p7 p8)∧wx.cell? ⟨b,o+i*6+5,none⟩=some (.slice p9 pa pb))∧wx.cell? ⟨b',o'+i*6,none⟩=some (.int .i64 q0)∧wx.cell? ⟨b',o'+i*6+1,none⟩=some (.string q1)∧wx.cell? ⟨b',o'+i*6+2,none⟩=some (.int .i64 q2)∧wx.cell? ⟨b',o'+i*6+3,none⟩=some (.slice q3 q4 q5)∧wx.cell? ⟨b',o'+i*6+4,none⟩=some (.slice q6 q7 q8)∧wx.cell? ⟨b',o'+i*6+5,none⟩=some (.slice q9 qa qb)):=Hd fun wx hx=>⟨⟨cell_stays hx hp.1,cell_stays hx hp.2.1,cell_stays hx hp.2.2.1,cell_stays hx hp.2.2.2.1,cell_stays hx hp.2.2.2.2.1,cell_stays hx hp.2.2.2.2.2⟩,⟨cell_stays hx hq.1,cell_stays hx hq.2.1,cell_stays hx hq.2.2.1,cell_stays hx hq.2.2.2.1,cell_stays hx hq.2.2.2.2.1,cell_stays hx hq.2.2.2.2.2⟩⟩
     have hval2:or2 (ordT (l[i]'hin) (l'[i]'hin')) (restC flat l l' (i+1))=res:=hval
     have HV:=Hd hval2
     generalize ordT (l[i]'hin) (l'[i]'hin')=oo at KO HV
     clear hat hat' hp hq hrp hrq hval hval2 hi hb
     go_wp2_with fail
     refine wp_region_held_drew (S:=(fun w'=>(w'.cell? ⟨b,o+i*6,none⟩=some (.int .i64 p0)∧w'.cell? ⟨b,o+i*6+1,none⟩=some (.string p1)∧w'.cell? ⟨b,o+i*6+2,none⟩=some (.int .i64 p2)∧w'.cell? ⟨b,o+i*6+3,none⟩=some (.slice p3 p4 p5)∧w'.cell? ⟨b,o+i*6+4,none⟩=some (.slice p6 p7 p8)∧w'.cell? ⟨b,o+i*6+5,none⟩=some (.slice p9 pa pb))∧w'.cell? ⟨b',o'+i*6,none⟩=some (.int .i64 q0)∧w'.cell? ⟨b',o'+i*6+1,none⟩=some (.string q1)∧w'.cell? ⟨b',o'+i*6+2,none⟩=some (.int .i64 q2)∧w'.cell? ⟨b',o'+i*6+3,none⟩=some (.slice q3 q4 q5)∧w'.cell? ⟨b',o'+i*6+4,none⟩=some (.slice q6 q7 q8)∧w'.cell? ⟨b',o'+i*6+5,none⟩=some (.slice q9 qa qb))) (by kernel_rfl) (HC.out _ (Below.refl _ _).drew) (fun hHeld=>?_)
     refine Plan.start [0,1,2,3,4,5,6,7] ?_
     iterate 8 (refine Plan.tk (so rfl) hHeld ?_;try simp only[Act.put,pz1,pz2,pz3])
     refine Plan.done ?_
     refine wpAnyH_ready (rs:=[8]) (by kernel_rfl) (by simp) ?_
     refine AllReadyH.cons (sd (some 36) rfl) (fun K hK=>?_) AllReadyH.nil
     go_simp
     refine (KO.out _ (Below.refl _ _).drew).mono ?_
     rintro e w2 ⟨rfl,hb2⟩
     have HB2:=Hd ((Below.refl wr.heap.size wr).drew.trans hb2.below)
     have HG2:=Hd ((HB.out.drew).trans hb2)
     clear hb2
     go_wp2_with fail
     refine hK.out _ _ (HC.out _ HB2.out) (fun hHeld=>?_)
     clear hK K
     try simp only[Act.put,pz1,pz2,pz3]
     refine Plan.start [9] ?_
     refine Plan.tk (so rfl) hHeld ?_
     try simp only[Act.put,pz1,pz2,pz3]
     refine Plan.done ?_
     refine wpAnyH_done (by kernel_rfl) ?_ _
     clear hHeld
     clear i0 i1 t1
     go_wp2_with fail
     refine⟨⟨oo,i+1,HLE.out,by first | rfl | trivial,by first | rfl | rw[wr2],HV.out,HG2.out⟩,?_⟩
     first | exact HM.out | (rw[wr2];exact HM.out)
    ·have t1:decide ((i:Int)<(l.length:Int))=false:=by simp;omega
     have HR:Hid (res=0):=Hd (by
      have h:=HO.out
      rw[show i=l.length from by omega,rest_end flat HEQ.out,or2_zero] at h
      exact h.symm)
     clear hi hb
     go_wp2_with fail
     go_ret
     exact⟨by rw[HR.out];rfl,HB.out⟩
   ·have hc0:(cc == 0)=false:=by simpa using hcc
    have HR:Hid (res=cc):=Hd (by rw[←HO.out,or2_ne hcc])
    clear hi hb hcc
    go_wp2_with fail
    go_ret
    exact⟨by rw[HR.out];rfl,HB.out⟩
 ·rw[row_len flat heq]
  rcases cmpZ_cases (l.length:Int) (l'.length:Int) with ⟨ha,hb,he⟩ | ⟨ha,hb,he⟩ | ⟨ha,hb,he⟩
  ·have HE:=Hd he
   have n1:l.length<l'.length:=by omega
   have n2:¬ l'.length<l.length:=by omega
   clear he heq ha hb
   go_enter Tryz.func45,Tryz.ntmps45
   go_wp2_with fail
   refine (sign_any _ _ _).mono ?_
   rintro e w1 ⟨rfl,rfl⟩
   simp only[sgn]
   go_wp2_with fail
   go_loopw [5,6] (fun vc _ wr=>vc=.int .i64 (-1)∧wr=w1) (fun _ _ _=>0)
   case atStart=>exact⟨by first | rfl | simp,rfl⟩
   case round=>
    obtain⟨rfl,rfl⟩:=hrel
    go_wp2_with fail
    go_ret
    exact⟨by rw[HE.out];rfl,Gw.refl _⟩
  ·have HE:=Hd he
   have n1:¬ l.length<l'.length:=by omega
   have n2:l'.length<l.length:=by omega
   clear he heq ha hb
   go_enter Tryz.func45,Tryz.ntmps45
   go_wp2_with fail
   refine (sign_any _ _ _).mono ?_
   rintro e w1 ⟨rfl,rfl⟩
   simp only[sgn]
   go_wp2_with fail
   go_loopw [5,6] (fun vc _ wr=>vc=.int .i64 (1)∧wr=w1) (fun _ _ _=>0)
   case atStart=>exact⟨by first | rfl | simp,rfl⟩
   case round=>
    obtain⟨rfl,rfl⟩:=hrel
    go_wp2_with fail
    go_ret
    exact⟨by rw[HE.out];rfl,Gw.refl _⟩
  ·exact absurd heq (by omega)
theorem wp_append_room {P:Program} {w:World} {o:Oper} {a:Act} {K:Act→World→Prop} {Q:Exit→Act→World→Prop} (s x:Operand) (t:TypeId)
  (ho:o.op=.call { callee:=.builtin .append,args:=#[s,x],argTypes:=#[t,t] })
  (e:TypeId) (i:TypeInfo) (size:Nat) (ht:P.underlying t=some (.slice e)) (hi:P.info? e=some i) (hsize:i.size=size)
  (b off n cap:Nat) (hs:a.eval s=.slice (some ⟨b,off,none⟩) n cap)
  (ad:Addr) (m c:Nat) (news:List Value) (hx:a.eval x=.slice (some ad) m c) (hl:news.length=m*size) (hnews:∀ j u,news[j]?=some u→w.cell? (ad.add j)=some u) (h1:∀ u∈news,u.oneCell'=true)
  (hroom:n+m≤cap) (oo:Nat) (hoo:oo=off+n*size) (hspare:∀ j,j<news.length→(w.cell? ⟨b,oo+j,none⟩).isSome=true∧w.frozen? ⟨b,oo+j,none⟩=false)
  (h:K (a.put o.dst (.slice (some ⟨b,off,none⟩) (n+m) cap)) (w.setCells b oo news)) :
  Oper.wp P o a w K Q:=by
 subst hsize
 subst hoo
 have hrun:=run_append_room_cells (P:=P) w t o.type e i ht hi b off n cap ad m c news hl hnews h1 hroom (fun j hj=>(hspare j hj).1) (fun j hj=>(hspare j hj).2)
 unfold Oper.wp execOp
 simp only[ho,resolve,invoke,builtin,Sem.run_bind,Sem.run_pure,Result.andThen_ok,List.map_toArray,List.map_cons,List.map_nil,hs,hx,hrun]
 exact h
theorem six_set {W:World} {b:Nat} {T:TypeId} {x0 x1 x2 x3 x4 x5:Value} (h:W.heap[b]?=some (.cells #[x0,x1,x2,x3,x4,x5] T (0,0))) (y0 y1 y2 y3 y4 y5:Value) :
  ((((((W.setCell ⟨b,0,none⟩ y0).setCell ⟨b,1,none⟩ y1).setCell ⟨b,2,none⟩ y2).setCell ⟨b,3,none⟩ y3).setCell ⟨b,4,none⟩ y4).setCell ⟨b,5,none⟩ y5).heap[b]?=some (.cells #[y0,y1,y2,y3,y4,y5] T (0,0)):=by
 have h0:=Go.heap_setCell_same W b 0 _ _ y0 h
 have h1:=Go.heap_setCell_same _ b 1 _ _ y1 h0
 have h2:=Go.heap_setCell_same _ b 2 _ _ y2 h1
 have h3:=Go.heap_setCell_same _ b 3 _ _ y3 h2
 have h4:=Go.heap_setCell_same _ b 4 _ _ y4 h3
 exact Go.heap_setCell_same _ b 5 _ _ y5 h4
theorem sets_other {g b:Nat} (hb:b≠g):∀ (vs:List Value) (o:Nat) (w:World),(w.setCells g o vs).heap[b]?=w.heap[b]?
 | [],_,_=>rfl
 | v :: vs,o,w=>by
  show ((w.setCell ⟨g,o,none⟩ v).setCells g (o+1) vs).heap[b]?=_
  rw[sets_other hb vs (o+1),Below.heap_setCell _ _ _ _ hb]
theorem sets_below {g B:Nat} {a:World} (hg:B≤g):∀ (vs:List Value) (o:Nat) (w:World),Below B a w→Below B a (w.setCells g o vs)
 | [],_,_,h=>h
 | v :: vs,o,w,h=>sets_below hg vs (o+1) (w.setCell ⟨g,o,none⟩ v) (h.setCell hg v)
theorem KeepR.next {K:Nat→Prop} {w1 wr w':World} {gk g c:Nat} {h:Kinds} {ts:List Ty} {i:Nat} {F:List Ty} (r:KeepR K w1 wr gk g c h ts i F) (hi:i<ts.length) (hk:keepT h ts[i]=false) (hb:Below wr.heap.size wr w'):KeepR K w1 w' gk g c h ts (i+1) F:=by
 have hgl:gk<wr.heap.size:=(Array.getElem?_eq_some_iff.1 r.kb).1
 refine⟨hi,?_,?_,r.below.trans (hb.mono r.below.size),r.row.later hb⟩
 ·rw[filter_take hi,hk,r.f];simp
 ·unfold KB;rw[hb.block _ hgl];exact r.kb
theorem KeepR.push {K:Nat→Prop} {w1 wr wy:World} {gk g c:Nat} {h:Kinds} {ts:List Ty} {i:Nat} {F:List Ty} {cs:List Value} (r:KeepR K w1 wr gk g c h ts i F) (hi:i<ts.length) (hk:keepT h ts[i]=true) (hb:Below wr.heap.size wr wy) (hg:w1.heap.size≤g) (ht:RepT K w1 ts[i] cs) :
  KeepR K w1 (wy.setCells g (F.length*6) cs) gk g c h ts (i+1) (F++[ts[i]]):=by
 have hgl:gk<wr.heap.size:=(Array.getElem?_eq_some_iff.1 r.kb).1
 have hne:gk≠g:=by
  rintro rfl
  obtain⟨cur,h1,_⟩:=r.row.blk
  rw[r.kb] at h1
  injection h1 with h1
  injection h1 with _ h1
  exact absurd h1 (by decide)
 have hf:=r.fle
 refine⟨hi,?_,?_,sets_below hg cs _ _ (r.below.trans (hb.mono r.below.size)),(r.row.later hb).put (by omega) ht⟩
 ·rw[filter_take hi,hk,r.f];simp
 ·unfold KB
  rw[sets_other hne,hb.block _ hgl]
  exact r.kb
theorem InT.pre {K:Nat→Prop} {w0 w:World} {g c:Nat} {F R:List Ty} (h:InT K w0 w g c (F++R)):InT K w0 w g c F:=by
 have:=h.le
 rw[List.length_append] at this
 refine⟨by omega,h.mx,h.blk,fun i t hi=>h.reps i t ?_⟩
 rw[List.getElem?_append_left (List.getElem?_eq_some_iff.1 hi).1]
 exact hi
end Go.Proofs.YtlpfpehegddcfaaGreatDoor

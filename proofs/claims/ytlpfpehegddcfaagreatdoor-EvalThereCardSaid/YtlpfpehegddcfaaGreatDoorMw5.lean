import Derived.Test.YtlpfpehegddcfaaGreatDoorMw4
namespace Go.Proofs.YtlpfpehegddcfaaGreatDoor
set_option maxRecDepth 100000
set_option maxHeartbeats 64000000
open Go.RowKit
theorem Xr {w:World}{b o np nf nv c1 c2 c3:Nat}{t:Z8}{n lo hi:Int}{A1 A2 A3:Option Addr}(x1:w.cell? ⟨b,o+1,none⟩=some (.string t)) (x2:w.cell? ⟨b,o+2,none⟩=some (.int .i64 n)) (x3:w.cell? ⟨b,o+3,none⟩=some (.slice A1 np c1)) (x4:w.cell? ⟨b,o+4,none⟩=some (.slice A2 nf c2)) (x5:w.cell? ⟨b,o+5,none⟩=some (.slice A3 nv c3)) :
  Calls Tryz.prog 95 #[.agg #[.bool false,.bool false,.bool false,.bool false,.int .i64 lo,.int .i64 hi],.pointer (some ⟨b,o,none⟩)] w fun e w'=>e=.returned (.bool (Ar ⟨false,false,false,false,lo,hi,true⟩ t n np nf nv))/\Below w.heap.size w w':=by
 have hA:b<w.heap.size:=World.block_lt_of_cell? _ _ x1;have HB:Z9 (Below w.heap.size w (w.alloc (.cells #[.bool false,.bool false,.bool false,.bool false,.int .i64 lo,.int .i64 hi] 138))):=Hd ((Below.refl _ _).alloc (Nat.le_refl _) _)
 cases q0:t.toList with
 | nil=>
  have e0:(t.toList == [])=true:=by rw[q0];rfl
  have Q0:=Hd e0;by_cases q1:n=0
  ·have e1:(n != 0)=false:=by simpa using q1
   have Q1:=Hd q1;clear q1;by_cases q2:nf=0
   ·have e2:¬ 0<nf:=(by omega);have z2:decide ((0:Int)<(nf:Int))=false:=(by simp;omega);have Q2:=Hd e2;clear q2;by_cases q3:nv=0
    ·have e3:¬ 0<nv:=(by omega);have z3:decide ((0:Int)<(nv:Int))=false:=(by simp;omega);have Q3:=Hd e3;clear q3;by_cases h1:lo<=(np:Int)
     ·by_cases h2:hi = -1
      ·have t2:(hi == -1)=true:=(by simpa using h2);have HR:Z9 (Ar ⟨false,false,false,false,lo,hi,true⟩ t n np nf nv=true):=Hd (by unfold Ar;simp[Q0.o,Q1.o,Q2.o,Q3.o,h1,h2]);clear h2;go_enter Tryz.func95,Tryz.ntmps95;go_wp2_with fail
       go_quiet (fail)
       go_wp2_with fail;go_ret
       exact⟨by rw[HR.o];first|rfl|(show Ending.returned (.bool (decide ((np:Int)<=hi)))=_;rw[t3]),by first|exact HB.o|exact Bd HB.o _|exact HB.o.drew⟩
      ·have t2:(hi == -1)=false:=(by simpa using h2);by_cases h3:(np:Int)<=hi
       ·have t3:decide ((np:Int)<=hi)=true:=(by simpa using h3);have HR:Z9 (Ar ⟨false,false,false,false,lo,hi,true⟩ t n np nf nv=true):=Hd (by unfold Ar;simp[Q0.o,Q1.o,Q2.o,Q3.o,h1,t2,h3]);clear h2;go_enter Tryz.func95,Tryz.ntmps95;go_wp2_with fail
        go_quiet (fail)
        go_wp2_with fail;go_ret
        exact⟨by rw[HR.o];first|rfl|(show Ending.returned (.bool (decide ((np:Int)<=hi)))=_;rw[t3]),by first|exact HB.o|exact Bd HB.o _|exact HB.o.drew⟩
       ·have t3:decide ((np:Int)<=hi)=false:=(by simpa using h3);have HR:Z9 (Ar ⟨false,false,false,false,lo,hi,true⟩ t n np nf nv=false):=Hd (by unfold Ar;simp[Q0.o,Q1.o,Q2.o,Q3.o,t2,h3]);clear h2;go_enter Tryz.func95,Tryz.ntmps95;go_wp2_with fail
        go_quiet (fail)
        go_wp2_with fail;go_ret
        exact⟨by rw[HR.o];first|rfl|(show Ending.returned (.bool (decide ((np:Int)<=hi)))=_;rw[t3]),by first|exact HB.o|exact Bd HB.o _|exact HB.o.drew⟩
     ·have t1:decide (lo<=(np:Int))=false:=(by simpa using h1);have t1b:(np:Int)<lo:=(by omega);have HR:Z9 (Ar ⟨false,false,false,false,lo,hi,true⟩ t n np nf nv=false):=Hd (by unfold Ar;simp[Q0.o,Q1.o,Q2.o,Q3.o,h1]);go_enter Tryz.func95,Tryz.ntmps95;go_wp2_with fail
      go_quiet (fail)
      go_wp2_with fail;go_ret
      exact⟨by rw[HR.o];first|rfl|(show Ending.returned (.bool (decide ((np:Int)<=hi)))=_;rw[t3]),by first|exact HB.o|exact Bd HB.o _|exact HB.o.drew⟩
    ·have e3:0<nv:=(by omega);have z3:decide ((0:Int)<(nv:Int))=true:=(by simp;omega);have Q3:=Hd e3;clear q3;have HR:Z9 (Ar ⟨false,false,false,false,lo,hi,true⟩ t n np nf nv=false):=Hd (by unfold Ar;simp[Q0.o,Q1.o,Q2.o,Q3.o]);go_enter Tryz.func95,Tryz.ntmps95;go_wp2_with fail;go_ret
     exact⟨by rw[HR.o];first|rfl|(show Ending.returned (.bool (decide ((np:Int)<=hi)))=_;rw[t3]),by first|exact HB.o|exact Bd HB.o _|exact HB.o.drew⟩
   ·have e2:0<nf:=(by omega);have z2:decide ((0:Int)<(nf:Int))=true:=(by simp;omega);have Q2:=Hd e2;clear q2;have HR:Z9 (Ar ⟨false,false,false,false,lo,hi,true⟩ t n np nf nv=false):=Hd (by unfold Ar;simp[Q0.o,Q1.o,Q2.o]);go_enter Tryz.func95,Tryz.ntmps95;go_wp2_with fail;go_ret
    exact⟨by rw[HR.o];first|rfl|(show Ending.returned (.bool (decide ((np:Int)<=hi)))=_;rw[t3]),by first|exact HB.o|exact Bd HB.o _|exact HB.o.drew⟩
  ·have e1:(n != 0)=true:=by simpa using q1
   have Q1:=Hd q1;have HR:Z9 (Ar ⟨false,false,false,false,lo,hi,true⟩ t n np nf nv=false):=Hd (by unfold Ar;simp[Q0.o,Q1.o]);clear q1;go_enter Tryz.func95,Tryz.ntmps95;go_wp2_with fail;go_ret
   exact⟨by rw[HR.o];first|rfl|(show Ending.returned (.bool (decide ((np:Int)<=hi)))=_;rw[t3]),by first|exact HB.o|exact Bd HB.o _|exact HB.o.drew⟩
 | cons hd tl=>
  have e0:(t.toList == [])=false:=by rw[q0];rfl
  have Q0:=Hd e0;have HR:Z9 (Ar ⟨false,false,false,false,lo,hi,true⟩ t n np nf nv=false):=Hd (by unfold Ar;simp[Q0.o]);go_enter Tryz.func95,Tryz.ntmps95;go_wp2_with fail;go_ret
  exact⟨by rw[HR.o];first|rfl|(show Ending.returned (.bool (decide ((np:Int)<=hi)))=_;rw[t3]),by first|exact HB.o|exact Bd HB.o _|exact HB.o.drew⟩
theorem Xv {w:World}{b o np nf nv c1 c2 c3:Nat}{t:Z8}{n lo hi:Int}{A1 A2 A3:Option Addr}(x1:w.cell? ⟨b,o+1,none⟩=some (.string t)) (x2:w.cell? ⟨b,o+2,none⟩=some (.int .i64 n)) (x3:w.cell? ⟨b,o+3,none⟩=some (.slice A1 np c1)) (x4:w.cell? ⟨b,o+4,none⟩=some (.slice A2 nf c2)) (x5:w.cell? ⟨b,o+5,none⟩=some (.slice A3 nv c3)) :
  Calls Tryz.prog 95 #[.agg #[.bool true,.bool false,.bool false,.bool false,.int .i64 lo,.int .i64 hi],.pointer (some ⟨b,o,none⟩)] w fun e w'=>e=.returned (.bool (Ar ⟨true,false,false,false,lo,hi,true⟩ t n np nf nv))/\Below w.heap.size w w':=by
 have hA:b<w.heap.size:=World.block_lt_of_cell? _ _ x1;have HB:Z9 (Below w.heap.size w (w.alloc (.cells #[.bool true,.bool false,.bool false,.bool false,.int .i64 lo,.int .i64 hi] 138))):=Hd ((Below.refl _ _).alloc (Nat.le_refl _) _);by_cases q1:n=0
 ·have e1:(n != 0)=false:=by simpa using q1
  have Q1:=Hd q1;clear q1;by_cases q2:nf=0
  ·have e2:¬ 0<nf:=by omega
   have z2:decide ((0:Int)<(nf:Int))=false:=by simp;omega
   have Q2:=Hd e2;clear q2;by_cases q3:nv=0
   ·have e3:¬ 0<nv:=(by omega);have z3:decide ((0:Int)<(nv:Int))=false:=(by simp;omega);have Q3:=Hd e3;clear q3;by_cases h1:lo<=(np:Int)
    ·by_cases h2:hi = -1
     ·have t2:(hi == -1)=true:=(by simpa using h2);have HR:Z9 (Ar ⟨true,false,false,false,lo,hi,true⟩ t n np nf nv=true):=Hd (by unfold Ar;simp[Q1.o,Q2.o,Q3.o,h1,h2]);clear h2;go_enter Tryz.func95,Tryz.ntmps95;go_wp2_with fail
      go_quiet (fail)
      go_wp2_with fail;go_ret
      exact⟨by rw[HR.o];first|rfl|(show Ending.returned (.bool (decide ((np:Int)<=hi)))=_;rw[t3]),by first|exact HB.o|exact Bd HB.o _|exact HB.o.drew⟩
     ·have t2:(hi == -1)=false:=(by simpa using h2);by_cases h3:(np:Int)<=hi
      ·have t3:decide ((np:Int)<=hi)=true:=(by simpa using h3);have HR:Z9 (Ar ⟨true,false,false,false,lo,hi,true⟩ t n np nf nv=true):=Hd (by unfold Ar;simp[Q1.o,Q2.o,Q3.o,h1,t2,h3]);clear h2;go_enter Tryz.func95,Tryz.ntmps95;go_wp2_with fail
       go_quiet (fail)
       go_wp2_with fail;go_ret
       exact⟨by rw[HR.o];first|rfl|(show Ending.returned (.bool (decide ((np:Int)<=hi)))=_;rw[t3]),by first|exact HB.o|exact Bd HB.o _|exact HB.o.drew⟩
      ·have t3:decide ((np:Int)<=hi)=false:=(by simpa using h3);have HR:Z9 (Ar ⟨true,false,false,false,lo,hi,true⟩ t n np nf nv=false):=Hd (by unfold Ar;simp[Q1.o,Q2.o,Q3.o,t2,h3]);clear h2;go_enter Tryz.func95,Tryz.ntmps95;go_wp2_with fail
       go_quiet (fail)
       go_wp2_with fail;go_ret
       exact⟨by rw[HR.o];first|rfl|(show Ending.returned (.bool (decide ((np:Int)<=hi)))=_;rw[t3]),by first|exact HB.o|exact Bd HB.o _|exact HB.o.drew⟩
    ·have t1:decide (lo<=(np:Int))=false:=(by simpa using h1);have t1b:(np:Int)<lo:=(by omega);have HR:Z9 (Ar ⟨true,false,false,false,lo,hi,true⟩ t n np nf nv=false):=Hd (by unfold Ar;simp[Q1.o,Q2.o,Q3.o,h1]);go_enter Tryz.func95,Tryz.ntmps95;go_wp2_with fail
     go_quiet (fail)
     go_wp2_with fail;go_ret
     exact⟨by rw[HR.o];first|rfl|(show Ending.returned (.bool (decide ((np:Int)<=hi)))=_;rw[t3]),by first|exact HB.o|exact Bd HB.o _|exact HB.o.drew⟩
   ·have e3:0<nv:=(by omega);have z3:decide ((0:Int)<(nv:Int))=true:=(by simp;omega);have Q3:=Hd e3;clear q3;have HR:Z9 (Ar ⟨true,false,false,false,lo,hi,true⟩ t n np nf nv=false):=Hd (by unfold Ar;simp[Q1.o,Q2.o,Q3.o]);go_enter Tryz.func95,Tryz.ntmps95;go_wp2_with fail;go_ret
    exact⟨by rw[HR.o];first|rfl|(show Ending.returned (.bool (decide ((np:Int)<=hi)))=_;rw[t3]),by first|exact HB.o|exact Bd HB.o _|exact HB.o.drew⟩
  ·have e2:0<nf:=by omega
   have z2:decide ((0:Int)<(nf:Int))=true:=by simp;omega
   have Q2:=Hd e2;clear q2;have HR:Z9 (Ar ⟨true,false,false,false,lo,hi,true⟩ t n np nf nv=false):=Hd (by unfold Ar;simp[Q1.o,Q2.o]);go_enter Tryz.func95,Tryz.ntmps95;go_wp2_with fail;go_ret
   exact⟨by rw[HR.o];first|rfl|(show Ending.returned (.bool (decide ((np:Int)<=hi)))=_;rw[t3]),by first|exact HB.o|exact Bd HB.o _|exact HB.o.drew⟩
 ·have e1:(n != 0)=true:=by simpa using q1
  have Q1:=Hd q1;have HR:Z9 (Ar ⟨true,false,false,false,lo,hi,true⟩ t n np nf nv=false):=Hd (by unfold Ar;simp[Q1.o]);clear q1;go_enter Tryz.func95,Tryz.ntmps95;go_wp2_with fail;go_ret
  exact⟨by rw[HR.o];first|rfl|(show Ending.returned (.bool (decide ((np:Int)<=hi)))=_;rw[t3]),by first|exact HB.o|exact Bd HB.o _|exact HB.o.drew⟩
theorem Xw {w:World}{b o np nf nv c1 c2 c3:Nat}{t:Z8}{n lo hi:Int}{A1 A2 A3:Option Addr}(x1:w.cell? ⟨b,o+1,none⟩=some (.string t)) (_x2:w.cell? ⟨b,o+2,none⟩=some (.int .i64 n)) (x3:w.cell? ⟨b,o+3,none⟩=some (.slice A1 np c1)) (x4:w.cell? ⟨b,o+4,none⟩=some (.slice A2 nf c2)) (x5:w.cell? ⟨b,o+5,none⟩=some (.slice A3 nv c3)) :
  Calls Tryz.prog 95 #[.agg #[.bool true,.bool true,.bool false,.bool false,.int .i64 lo,.int .i64 hi],.pointer (some ⟨b,o,none⟩)] w fun e w'=>e=.returned (.bool (Ar ⟨true,true,false,false,lo,hi,true⟩ t n np nf nv))/\Below w.heap.size w w':=by
 have hA:b<w.heap.size:=World.block_lt_of_cell? _ _ x1;have HB:Z9 (Below w.heap.size w (w.alloc (.cells #[.bool true,.bool true,.bool false,.bool false,.int .i64 lo,.int .i64 hi] 138))):=Hd ((Below.refl _ _).alloc (Nat.le_refl _) _);by_cases q2:nf=0
 ·have e2:¬ 0<nf:=by omega
  have z2:decide ((0:Int)<(nf:Int))=false:=by simp;omega
  have Q2:=Hd e2;clear q2;by_cases q3:nv=0
  ·have e3:¬ 0<nv:=by omega
   have z3:decide ((0:Int)<(nv:Int))=false:=by simp;omega
   have Q3:=Hd e3;clear q3;by_cases h1:lo<=(np:Int)
   ·by_cases h2:hi = -1
    ·have t2:(hi == -1)=true:=(by simpa using h2);have HR:Z9 (Ar ⟨true,true,false,false,lo,hi,true⟩ t n np nf nv=true):=Hd (by unfold Ar;simp[Q2.o,Q3.o,h1,h2]);clear h2;go_enter Tryz.func95,Tryz.ntmps95;go_wp2_with fail
     go_quiet (fail)
     go_wp2_with fail;go_ret
     exact⟨by rw[HR.o];first|rfl|(show Ending.returned (.bool (decide ((np:Int)<=hi)))=_;rw[t3]),by first|exact HB.o|exact Bd HB.o _|exact HB.o.drew⟩
    ·have t2:(hi == -1)=false:=(by simpa using h2);by_cases h3:(np:Int)<=hi
     ·have t3:decide ((np:Int)<=hi)=true:=(by simpa using h3);have HR:Z9 (Ar ⟨true,true,false,false,lo,hi,true⟩ t n np nf nv=true):=Hd (by unfold Ar;simp[Q2.o,Q3.o,h1,t2,h3]);clear h2;go_enter Tryz.func95,Tryz.ntmps95;go_wp2_with fail
      go_quiet (fail)
      go_wp2_with fail;go_ret
      exact⟨by rw[HR.o];first|rfl|(show Ending.returned (.bool (decide ((np:Int)<=hi)))=_;rw[t3]),by first|exact HB.o|exact Bd HB.o _|exact HB.o.drew⟩
     ·have t3:decide ((np:Int)<=hi)=false:=(by simpa using h3);have HR:Z9 (Ar ⟨true,true,false,false,lo,hi,true⟩ t n np nf nv=false):=Hd (by unfold Ar;simp[Q2.o,Q3.o,t2,h3]);clear h2;go_enter Tryz.func95,Tryz.ntmps95;go_wp2_with fail
      go_quiet (fail)
      go_wp2_with fail;go_ret
      exact⟨by rw[HR.o];first|rfl|(show Ending.returned (.bool (decide ((np:Int)<=hi)))=_;rw[t3]),by first|exact HB.o|exact Bd HB.o _|exact HB.o.drew⟩
   ·have t1:decide (lo<=(np:Int))=false:=(by simpa using h1);have t1b:(np:Int)<lo:=(by omega);have HR:Z9 (Ar ⟨true,true,false,false,lo,hi,true⟩ t n np nf nv=false):=Hd (by unfold Ar;simp[Q2.o,Q3.o,h1]);go_enter Tryz.func95,Tryz.ntmps95;go_wp2_with fail
    go_quiet (fail)
    go_wp2_with fail;go_ret
    exact⟨by rw[HR.o];first|rfl|(show Ending.returned (.bool (decide ((np:Int)<=hi)))=_;rw[t3]),by first|exact HB.o|exact Bd HB.o _|exact HB.o.drew⟩
  ·have e3:0<nv:=by omega
   have z3:decide ((0:Int)<(nv:Int))=true:=by simp;omega
   have Q3:=Hd e3;clear q3;have HR:Z9 (Ar ⟨true,true,false,false,lo,hi,true⟩ t n np nf nv=false):=Hd (by unfold Ar;simp[Q2.o,Q3.o]);go_enter Tryz.func95,Tryz.ntmps95;go_wp2_with fail;go_ret
   exact⟨by rw[HR.o];first|rfl|(show Ending.returned (.bool (decide ((np:Int)<=hi)))=_;rw[t3]),by first|exact HB.o|exact Bd HB.o _|exact HB.o.drew⟩
 ·have e2:0<nf:=by omega
  have z2:decide ((0:Int)<(nf:Int))=true:=by simp;omega
  have Q2:=Hd e2;clear q2;have HR:Z9 (Ar ⟨true,true,false,false,lo,hi,true⟩ t n np nf nv=false):=Hd (by unfold Ar;simp[Q2.o]);go_enter Tryz.func95,Tryz.ntmps95;go_wp2_with fail;go_ret
  exact⟨by rw[HR.o];first|rfl|(show Ending.returned (.bool (decide ((np:Int)<=hi)))=_;rw[t3]),by first|exact HB.o|exact Bd HB.o _|exact HB.o.drew⟩
theorem Xu {w:World}{b o np nf nv c1 c2 c3:Nat}{t:Z8}{n lo hi:Int}{A1 A2 A3:Option Addr}(x1:w.cell? ⟨b,o+1,none⟩=some (.string t)) (_x2:w.cell? ⟨b,o+2,none⟩=some (.int .i64 n)) (x3:w.cell? ⟨b,o+3,none⟩=some (.slice A1 np c1)) (x4:w.cell? ⟨b,o+4,none⟩=some (.slice A2 nf c2)) (x5:w.cell? ⟨b,o+5,none⟩=some (.slice A3 nv c3)) :
  Calls Tryz.prog 95 #[.agg #[.bool false,.bool true,.bool false,.bool false,.int .i64 lo,.int .i64 hi],.pointer (some ⟨b,o,none⟩)] w fun e w'=>e=.returned (.bool (Ar ⟨false,true,false,false,lo,hi,true⟩ t n np nf nv))/\Below w.heap.size w w':=by
 have hA:b<w.heap.size:=World.block_lt_of_cell? _ _ x1;have HB:Z9 (Below w.heap.size w (w.alloc (.cells #[.bool false,.bool true,.bool false,.bool false,.int .i64 lo,.int .i64 hi] 138))):=Hd ((Below.refl _ _).alloc (Nat.le_refl _) _)
 cases q0:t.toList with
 | nil=>
  have e0:(t.toList == [])=true:=by rw[q0];rfl
  have Q0:=Hd e0;by_cases q2:nf=0
  ·have e2:¬ 0<nf:=by omega
   have z2:decide ((0:Int)<(nf:Int))=false:=by simp;omega
   have Q2:=Hd e2;clear q2;by_cases q3:nv=0
   ·have e3:¬ 0<nv:=(by omega);have z3:decide ((0:Int)<(nv:Int))=false:=(by simp;omega);have Q3:=Hd e3;clear q3;by_cases h1:lo<=(np:Int)
    ·by_cases h2:hi = -1
     ·have t2:(hi == -1)=true:=(by simpa using h2);have HR:Z9 (Ar ⟨false,true,false,false,lo,hi,true⟩ t n np nf nv=true):=Hd (by unfold Ar;simp[Q0.o,Q2.o,Q3.o,h1,h2]);clear h2;go_enter Tryz.func95,Tryz.ntmps95;go_wp2_with fail
      go_quiet (fail)
      go_wp2_with fail;go_ret
      exact⟨by rw[HR.o];first|rfl|(show Ending.returned (.bool (decide ((np:Int)<=hi)))=_;rw[t3]),by first|exact HB.o|exact Bd HB.o _|exact HB.o.drew⟩
     ·have t2:(hi == -1)=false:=(by simpa using h2);by_cases h3:(np:Int)<=hi
      ·have t3:decide ((np:Int)<=hi)=true:=(by simpa using h3);have HR:Z9 (Ar ⟨false,true,false,false,lo,hi,true⟩ t n np nf nv=true):=Hd (by unfold Ar;simp[Q0.o,Q2.o,Q3.o,h1,t2,h3]);clear h2;go_enter Tryz.func95,Tryz.ntmps95;go_wp2_with fail
       go_quiet (fail)
       go_wp2_with fail;go_ret
       exact⟨by rw[HR.o];first|rfl|(show Ending.returned (.bool (decide ((np:Int)<=hi)))=_;rw[t3]),by first|exact HB.o|exact Bd HB.o _|exact HB.o.drew⟩
      ·have t3:decide ((np:Int)<=hi)=false:=(by simpa using h3);have HR:Z9 (Ar ⟨false,true,false,false,lo,hi,true⟩ t n np nf nv=false):=Hd (by unfold Ar;simp[Q0.o,Q2.o,Q3.o,t2,h3]);clear h2;go_enter Tryz.func95,Tryz.ntmps95;go_wp2_with fail
       go_quiet (fail)
       go_wp2_with fail;go_ret
       exact⟨by rw[HR.o];first|rfl|(show Ending.returned (.bool (decide ((np:Int)<=hi)))=_;rw[t3]),by first|exact HB.o|exact Bd HB.o _|exact HB.o.drew⟩
    ·have t1:decide (lo<=(np:Int))=false:=(by simpa using h1);have t1b:(np:Int)<lo:=(by omega);have HR:Z9 (Ar ⟨false,true,false,false,lo,hi,true⟩ t n np nf nv=false):=Hd (by unfold Ar;simp[Q0.o,Q2.o,Q3.o,h1]);go_enter Tryz.func95,Tryz.ntmps95;go_wp2_with fail
     go_quiet (fail)
     go_wp2_with fail;go_ret
     exact⟨by rw[HR.o];first|rfl|(show Ending.returned (.bool (decide ((np:Int)<=hi)))=_;rw[t3]),by first|exact HB.o|exact Bd HB.o _|exact HB.o.drew⟩
   ·have e3:0<nv:=(by omega);have z3:decide ((0:Int)<(nv:Int))=true:=(by simp;omega);have Q3:=Hd e3;clear q3;have HR:Z9 (Ar ⟨false,true,false,false,lo,hi,true⟩ t n np nf nv=false):=Hd (by unfold Ar;simp[Q0.o,Q2.o,Q3.o]);go_enter Tryz.func95,Tryz.ntmps95;go_wp2_with fail;go_ret
    exact⟨by rw[HR.o];first|rfl|(show Ending.returned (.bool (decide ((np:Int)<=hi)))=_;rw[t3]),by first|exact HB.o|exact Bd HB.o _|exact HB.o.drew⟩
  ·have e2:0<nf:=by omega
   have z2:decide ((0:Int)<(nf:Int))=true:=by simp;omega
   have Q2:=Hd e2;clear q2;have HR:Z9 (Ar ⟨false,true,false,false,lo,hi,true⟩ t n np nf nv=false):=Hd (by unfold Ar;simp[Q0.o,Q2.o]);go_enter Tryz.func95,Tryz.ntmps95;go_wp2_with fail;go_ret
   exact⟨by rw[HR.o];first|rfl|(show Ending.returned (.bool (decide ((np:Int)<=hi)))=_;rw[t3]),by first|exact HB.o|exact Bd HB.o _|exact HB.o.drew⟩
 | cons hd tl=>
  have e0:(t.toList == [])=false:=by rw[q0];rfl
  have Q0:=Hd e0;have HR:Z9 (Ar ⟨false,true,false,false,lo,hi,true⟩ t n np nf nv=false):=Hd (by unfold Ar;simp[Q0.o]);go_enter Tryz.func95,Tryz.ntmps95;go_wp2_with fail;go_ret
  exact⟨by rw[HR.o];first|rfl|(show Ending.returned (.bool (decide ((np:Int)<=hi)))=_;rw[t3]),by first|exact HB.o|exact Bd HB.o _|exact HB.o.drew⟩
theorem Xs {w:World}{b o np nf nv c1 c2 c3:Nat}{t:Z8}{n lo hi:Int}{A1 A2 A3:Option Addr}(x1:w.cell? ⟨b,o+1,none⟩=some (.string t)) (x2:w.cell? ⟨b,o+2,none⟩=some (.int .i64 n)) (x3:w.cell? ⟨b,o+3,none⟩=some (.slice A1 np c1)) (x4:w.cell? ⟨b,o+4,none⟩=some (.slice A2 nf c2)) (_x5:w.cell? ⟨b,o+5,none⟩=some (.slice A3 nv c3)) :
  Calls Tryz.prog 95 #[.agg #[.bool false,.bool false,.bool false,.bool true,.int .i64 lo,.int .i64 hi],.pointer (some ⟨b,o,none⟩)] w fun e w'=>e=.returned (.bool (Ar ⟨false,false,false,true,lo,hi,true⟩ t n np nf nv))/\Below w.heap.size w w':=by
 have hA:b<w.heap.size:=World.block_lt_of_cell? _ _ x1;have HB:Z9 (Below w.heap.size w (w.alloc (.cells #[.bool false,.bool false,.bool false,.bool true,.int .i64 lo,.int .i64 hi] 138))):=Hd ((Below.refl _ _).alloc (Nat.le_refl _) _)
 cases q0:t.toList with
 | nil=>
  have e0:(t.toList == [])=true:=by rw[q0];rfl
  have Q0:=Hd e0;by_cases q1:n=0
  ·have e1:(n != 0)=false:=by simpa using q1
   have Q1:=Hd q1;clear q1;by_cases q2:nf=0
   ·have e2:¬ 0<nf:=(by omega);have z2:decide ((0:Int)<(nf:Int))=false:=(by simp;omega);have Q2:=Hd e2;clear q2;by_cases h1:lo<=(np:Int)
    ·by_cases h2:hi = -1
     ·have t2:(hi == -1)=true:=(by simpa using h2);have HR:Z9 (Ar ⟨false,false,false,true,lo,hi,true⟩ t n np nf nv=true):=Hd (by unfold Ar;simp[Q0.o,Q1.o,Q2.o,h1,h2]);clear h2;go_enter Tryz.func95,Tryz.ntmps95;go_wp2_with fail
      go_quiet (fail)
      go_wp2_with fail;go_ret
      exact⟨by rw[HR.o];first|rfl|(show Ending.returned (.bool (decide ((np:Int)<=hi)))=_;rw[t3]),by first|exact HB.o|exact Bd HB.o _|exact HB.o.drew⟩
     ·have t2:(hi == -1)=false:=(by simpa using h2);by_cases h3:(np:Int)<=hi
      ·have t3:decide ((np:Int)<=hi)=true:=(by simpa using h3);have HR:Z9 (Ar ⟨false,false,false,true,lo,hi,true⟩ t n np nf nv=true):=Hd (by unfold Ar;simp[Q0.o,Q1.o,Q2.o,h1,t2,h3]);clear h2;go_enter Tryz.func95,Tryz.ntmps95;go_wp2_with fail
       go_quiet (fail)
       go_wp2_with fail;go_ret
       exact⟨by rw[HR.o];first|rfl|(show Ending.returned (.bool (decide ((np:Int)<=hi)))=_;rw[t3]),by first|exact HB.o|exact Bd HB.o _|exact HB.o.drew⟩
      ·have t3:decide ((np:Int)<=hi)=false:=(by simpa using h3);have HR:Z9 (Ar ⟨false,false,false,true,lo,hi,true⟩ t n np nf nv=false):=Hd (by unfold Ar;simp[Q0.o,Q1.o,Q2.o,t2,h3]);clear h2;go_enter Tryz.func95,Tryz.ntmps95;go_wp2_with fail
       go_quiet (fail)
       go_wp2_with fail;go_ret
       exact⟨by rw[HR.o];first|rfl|(show Ending.returned (.bool (decide ((np:Int)<=hi)))=_;rw[t3]),by first|exact HB.o|exact Bd HB.o _|exact HB.o.drew⟩
    ·have t1:decide (lo<=(np:Int))=false:=(by simpa using h1);have t1b:(np:Int)<lo:=(by omega);have HR:Z9 (Ar ⟨false,false,false,true,lo,hi,true⟩ t n np nf nv=false):=Hd (by unfold Ar;simp[Q0.o,Q1.o,Q2.o,h1]);go_enter Tryz.func95,Tryz.ntmps95;go_wp2_with fail
     go_quiet (fail)
     go_wp2_with fail;go_ret
     exact⟨by rw[HR.o];first|rfl|(show Ending.returned (.bool (decide ((np:Int)<=hi)))=_;rw[t3]),by first|exact HB.o|exact Bd HB.o _|exact HB.o.drew⟩
   ·have e2:0<nf:=(by omega);have z2:decide ((0:Int)<(nf:Int))=true:=(by simp;omega);have Q2:=Hd e2;clear q2;have HR:Z9 (Ar ⟨false,false,false,true,lo,hi,true⟩ t n np nf nv=false):=Hd (by unfold Ar;simp[Q0.o,Q1.o,Q2.o]);go_enter Tryz.func95,Tryz.ntmps95;go_wp2_with fail;go_ret
    exact⟨by rw[HR.o];first|rfl|(show Ending.returned (.bool (decide ((np:Int)<=hi)))=_;rw[t3]),by first|exact HB.o|exact Bd HB.o _|exact HB.o.drew⟩
  ·have e1:(n != 0)=true:=by simpa using q1
   have Q1:=Hd q1;have HR:Z9 (Ar ⟨false,false,false,true,lo,hi,true⟩ t n np nf nv=false):=Hd (by unfold Ar;simp[Q0.o,Q1.o]);clear q1;go_enter Tryz.func95,Tryz.ntmps95;go_wp2_with fail;go_ret
   exact⟨by rw[HR.o];first|rfl|(show Ending.returned (.bool (decide ((np:Int)<=hi)))=_;rw[t3]),by first|exact HB.o|exact Bd HB.o _|exact HB.o.drew⟩
 | cons hd tl=>
  have e0:(t.toList == [])=false:=by rw[q0];rfl
  have Q0:=Hd e0;have HR:Z9 (Ar ⟨false,false,false,true,lo,hi,true⟩ t n np nf nv=false):=Hd (by unfold Ar;simp[Q0.o]);go_enter Tryz.func95,Tryz.ntmps95;go_wp2_with fail;go_ret
  exact⟨by rw[HR.o];first|rfl|(show Ending.returned (.bool (decide ((np:Int)<=hi)))=_;rw[t3]),by first|exact HB.o|exact Bd HB.o _|exact HB.o.drew⟩
theorem Xt {w:World}{b o np nf nv c1 c2 c3:Nat}{t:Z8}{n lo hi:Int}{A1 A2 A3:Option Addr}(x1:w.cell? ⟨b,o+1,none⟩=some (.string t)) (x2:w.cell? ⟨b,o+2,none⟩=some (.int .i64 n)) (x3:w.cell? ⟨b,o+3,none⟩=some (.slice A1 np c1)) (_x4:w.cell? ⟨b,o+4,none⟩=some (.slice A2 nf c2)) (x5:w.cell? ⟨b,o+5,none⟩=some (.slice A3 nv c3)) :
  Calls Tryz.prog 95 #[.agg #[.bool false,.bool false,.bool true,.bool false,.int .i64 lo,.int .i64 hi],.pointer (some ⟨b,o,none⟩)] w fun e w'=>e=.returned (.bool (Ar ⟨false,false,true,false,lo,hi,true⟩ t n np nf nv))/\Below w.heap.size w w':=by
 have hA:b<w.heap.size:=World.block_lt_of_cell? _ _ x1;have HB:Z9 (Below w.heap.size w (w.alloc (.cells #[.bool false,.bool false,.bool true,.bool false,.int .i64 lo,.int .i64 hi] 138))):=Hd ((Below.refl _ _).alloc (Nat.le_refl _) _)
 cases q0:t.toList with
 | nil=>
  have e0:(t.toList == [])=true:=by rw[q0];rfl
  have Q0:=Hd e0;by_cases q1:n=0
  ·have e1:(n != 0)=false:=by simpa using q1
   have Q1:=Hd q1;clear q1;by_cases q3:nv=0
   ·have e3:¬ 0<nv:=(by omega);have z3:decide ((0:Int)<(nv:Int))=false:=(by simp;omega);have Q3:=Hd e3;clear q3;by_cases h1:lo<=(np:Int)
    ·by_cases h2:hi = -1
     ·have t2:(hi == -1)=true:=(by simpa using h2);have HR:Z9 (Ar ⟨false,false,true,false,lo,hi,true⟩ t n np nf nv=true):=Hd (by unfold Ar;simp[Q0.o,Q1.o,Q3.o,h1,h2]);clear h2;go_enter Tryz.func95,Tryz.ntmps95;go_wp2_with fail
      go_quiet (fail)
      go_wp2_with fail;go_ret
      exact⟨by rw[HR.o];first|rfl|(show Ending.returned (.bool (decide ((np:Int)<=hi)))=_;rw[t3]),by first|exact HB.o|exact Bd HB.o _|exact HB.o.drew⟩
     ·have t2:(hi == -1)=false:=(by simpa using h2);by_cases h3:(np:Int)<=hi
      ·have t3:decide ((np:Int)<=hi)=true:=(by simpa using h3);have HR:Z9 (Ar ⟨false,false,true,false,lo,hi,true⟩ t n np nf nv=true):=Hd (by unfold Ar;simp[Q0.o,Q1.o,Q3.o,h1,t2,h3]);clear h2;go_enter Tryz.func95,Tryz.ntmps95;go_wp2_with fail
       go_quiet (fail)
       go_wp2_with fail;go_ret
       exact⟨by rw[HR.o];first|rfl|(show Ending.returned (.bool (decide ((np:Int)<=hi)))=_;rw[t3]),by first|exact HB.o|exact Bd HB.o _|exact HB.o.drew⟩
      ·have t3:decide ((np:Int)<=hi)=false:=(by simpa using h3);have HR:Z9 (Ar ⟨false,false,true,false,lo,hi,true⟩ t n np nf nv=false):=Hd (by unfold Ar;simp[Q0.o,Q1.o,Q3.o,t2,h3]);clear h2;go_enter Tryz.func95,Tryz.ntmps95;go_wp2_with fail
       go_quiet (fail)
       go_wp2_with fail;go_ret
       exact⟨by rw[HR.o];first|rfl|(show Ending.returned (.bool (decide ((np:Int)<=hi)))=_;rw[t3]),by first|exact HB.o|exact Bd HB.o _|exact HB.o.drew⟩
    ·have t1:decide (lo<=(np:Int))=false:=(by simpa using h1);have t1b:(np:Int)<lo:=(by omega);have HR:Z9 (Ar ⟨false,false,true,false,lo,hi,true⟩ t n np nf nv=false):=Hd (by unfold Ar;simp[Q0.o,Q1.o,Q3.o,h1]);go_enter Tryz.func95,Tryz.ntmps95;go_wp2_with fail
     go_quiet (fail)
     go_wp2_with fail;go_ret
     exact⟨by rw[HR.o];first|rfl|(show Ending.returned (.bool (decide ((np:Int)<=hi)))=_;rw[t3]),by first|exact HB.o|exact Bd HB.o _|exact HB.o.drew⟩
   ·have e3:0<nv:=(by omega);have z3:decide ((0:Int)<(nv:Int))=true:=(by simp;omega);have Q3:=Hd e3;clear q3;have HR:Z9 (Ar ⟨false,false,true,false,lo,hi,true⟩ t n np nf nv=false):=Hd (by unfold Ar;simp[Q0.o,Q1.o,Q3.o]);go_enter Tryz.func95,Tryz.ntmps95;go_wp2_with fail;go_ret
    exact⟨by rw[HR.o];first|rfl|(show Ending.returned (.bool (decide ((np:Int)<=hi)))=_;rw[t3]),by first|exact HB.o|exact Bd HB.o _|exact HB.o.drew⟩
  ·have e1:(n != 0)=true:=by simpa using q1
   have Q1:=Hd q1;have HR:Z9 (Ar ⟨false,false,true,false,lo,hi,true⟩ t n np nf nv=false):=Hd (by unfold Ar;simp[Q0.o,Q1.o]);clear q1;go_enter Tryz.func95,Tryz.ntmps95;go_wp2_with fail;go_ret
   exact⟨by rw[HR.o];first|rfl|(show Ending.returned (.bool (decide ((np:Int)<=hi)))=_;rw[t3]),by first|exact HB.o|exact Bd HB.o _|exact HB.o.drew⟩
 | cons hd tl=>
  have e0:(t.toList == [])=false:=by rw[q0];rfl
  have Q0:=Hd e0;have HR:Z9 (Ar ⟨false,false,true,false,lo,hi,true⟩ t n np nf nv=false):=Hd (by unfold Ar;simp[Q0.o]);go_enter Tryz.func95,Tryz.ntmps95;go_wp2_with fail;go_ret
  exact⟨by rw[HR.o];first|rfl|(show Ending.returned (.bool (decide ((np:Int)<=hi)))=_;rw[t3]),by first|exact HB.o|exact Bd HB.o _|exact HB.o.drew⟩
theorem Uy (k:Int) (t:Z8) (n:Int) (ps:List Ty) (fs:Bv) (vs:Bw) (hp:∀p∈ps,Ni p) (hf:∀f∈fs,Ni f.2.2) (hv:∀v∈vs,∀b∈v.2,Ni b):Ni (.mk k t n ps fs vs):=by
 intro K K' tt;obtain⟨k',t',n',hI,hH,hJ⟩:=tt;refine⟨fun w b o b' o' h h'=>?_⟩;obtain⟨A,c,A2,c2,A3,c3,⟨x0,x1,x2,x3,x4,x5⟩,_,hP,hF,hV⟩:=h.six;obtain⟨B,d,B2,d2,B3,d3,⟨y0,y1,y2,y3,y4,y5⟩,_,hO,hN,hQ⟩:=h'.six;rw[Ln,<-Hp (Dt t t') _ _,<-Hp (Dr k k') _ _,<-Hp (Dr k k') _ _];have KA:=Hd (fun w=>Fj k k' w);have KB:=Hd (fun w=>Lc t t' w);have KC:=Hd (fun w=>Xj n n' w);have KP:=Hd (fun w' (hb:Below w.heap.size w w')=>S0 ps hI hp (hP.later hb) (hO.later hb));have KF:=Hd (fun w' (hb:Below w.heap.size w w')=>T8 fs hH hf (hF.later hb) (hN.later hb));have KV:=Hd (fun w' (hb:Below w.heap.size w w')=>Jcu vs hJ hv (hV.later hb) (hQ.later hb));generalize Dr k k'=ca at KA ⊢;generalize Dt t t'=cb at KB ⊢;generalize Dr n n'=cc at KC ⊢;generalize Cb (Bz ps) (Bz hI)=cp at KP ⊢;generalize Cb (Ea fs) (Ea hH)=cf at KF ⊢;generalize Cb (Eb vs) (Eb hJ)=cv at KV ⊢;rw[Hp ca cb cc];have hB:Z9 (Gw w (w.alloc (.cells #[.int .i64 ca,.int .i64 cb,.int .i64 cc] 3)).drew):=Hd ((Gw.refl _).alloc _).drew;have HS1:Z9 ((w.drew).cell? ⟨b,o,none⟩=some (.int .i64 k)/\(w.drew).cell? ⟨b',o',none⟩=some (.int .i64 k')/\(w.drew).cell? ⟨b,o+1,none⟩=some (.string t)/\(w.drew).cell? ⟨b',o'+1,none⟩=some (.string t')/\(w.drew).cell? ⟨b,o+2,none⟩=some (.int .i64 n)/\(w.drew).cell? ⟨b',o'+2,none⟩=some (.int .i64 n')):=Hd ⟨x0,y0,x1,y1,x2,y2⟩;have hM:Z9 (((w.alloc (.cells #[.int .i64 ca,.int .i64 cb,.int .i64 cc] 3)).drew).cell? ⟨b,o,none⟩=some (.int .i64 k)/\((w.alloc (.cells #[.int .i64 ca,.int .i64 cb,.int .i64 cc] 3)).drew).cell? ⟨b',o',none⟩=some (.int .i64 k')/\((w.alloc (.cells #[.int .i64 ca,.int .i64 cb,.int .i64 cc] 3)).drew).cell? ⟨b,o+1,none⟩=some (.string t)/\((w.alloc (.cells #[.int .i64 ca,.int .i64 cb,.int .i64 cc] 3)).drew).cell? ⟨b',o'+1,none⟩=some (.string t')/\((w.alloc (.cells #[.int .i64 ca,.int .i64 cb,.int .i64 cc] 3)).drew).cell? ⟨b,o+2,none⟩=some (.int .i64 n)/\((w.alloc (.cells #[.int .i64 ca,.int .i64 cb,.int .i64 cc] 3)).drew).cell? ⟨b',o'+2,none⟩=some (.int .i64 n')):=Hd ⟨Aa hB.o.below x0,Aa hB.o.below y0,Aa hB.o.below x1,Aa hB.o.below y1,Aa hB.o.below x2,Aa hB.o.below y2⟩;have hD:Z9 (∀w',Below w.heap.size w w'->(w'.cell? ⟨b,o+3,none⟩=some (.slice A ps.length c)/\w'.cell? ⟨b',o'+3,none⟩=some (.slice B hI.length d))/\(w'.cell? ⟨b,o+4,none⟩=some (.slice A2 fs.length c2)/\w'.cell? ⟨b',o'+4,none⟩=some (.slice B2 hH.length d2))/\w'.cell? ⟨b,o+5,none⟩=some (.slice A3 vs.length c3)/\w'.cell? ⟨b',o'+5,none⟩=some (.slice B3 hJ.length d3)):=Hd fun w' hb=>⟨⟨Aa hb x3,Aa hb y3⟩,⟨Aa hb x4,Aa hb y4⟩,Aa hb x5,Aa hb y5⟩;clear hp hf hv h h' x0 x1 x2 x3 x4 x5 y0 y1 y2 y3 y4 y5 hP hF hV hO hN hQ;go_enter Tryz.func104,Tryz.ntmps104;go_wp2_with fail;refine wp_region_held_drew (S:=(fun w'=>w'.cell? ⟨b,o,none⟩=some (.int .i64 k)/\w'.cell? ⟨b',o',none⟩=some (.int .i64 k')/\w'.cell? ⟨b,o+1,none⟩=some (.string t)/\w'.cell? ⟨b',o'+1,none⟩=some (.string t')/\w'.cell? ⟨b,o+2,none⟩=some (.int .i64 n)/\w'.cell? ⟨b',o'+2,none⟩=some (.int .i64 n'))) (by kernel_rfl) HS1.o (fun hA=>?_);refine Ab.s [0,1,2,3,4,5,6,7,9,10,11,12,13,14,15,16,18,19,20,21,22,23,24,25] ?_
 iterate 24 (refine Ab.k (so rfl) hA ?_;try simp only[Act.put,Az,Ba,Bb])
 refine Ab.d ?_;refine wpAnyH_ready (rs:=[8]) (by kernel_rfl) (by simp) ?_;refine AllReadyH.cons (sd (some 16) rfl) (fun K hK=>?_) AllReadyH.nil;go_simp;refine (KA.o _).mono ?_;rintro e w2 ⟨rfl,rfl⟩;go_wp2_with fail;refine hK.out _ _ (HS1.o) (fun hA=>?_);clear hK K;try simp only[Act.put,Az,Ba,Bb]
 refine wpAnyH_ready (rs:=[17]) (by kernel_rfl) (by simp) ?_;refine AllReadyH.cons (sd (some 25) rfl) (fun K hK=>?_) AllReadyH.nil;go_simp;refine (KB.o _).mono ?_;rintro e w2 ⟨rfl,rfl⟩;go_wp2_with fail;refine hK.out _ _ (HS1.o) (fun hA=>?_);clear hK K;try simp only[Act.put,Az,Ba,Bb]
 refine wpAnyH_ready (rs:=[26]) (by kernel_rfl) (by simp) ?_;refine AllReadyH.cons (sd (some 34) rfl) (fun K hK=>?_) AllReadyH.nil;go_simp;refine (KC.o _).mono ?_;rintro e w2 ⟨rfl,rfl⟩;go_wp2_with fail;refine hK.out _ _ (HS1.o) (fun hA=>?_);clear hK K;try simp only[Act.put,Az,Ba,Bb]
 refine wpAnyH_ready (rs:=[27]) (by kernel_rfl) (by simp) ?_;refine AllReadyH.cons (sd (some 35) rfl) (fun K hK=>?_) AllReadyH.nil;go_simp;refine hK.out _ _ (hM.o) (fun hA=>?_);clear hK K;try simp only[Act.put,Az,Ba,Bb]
 refine wpAnyH_ready (rs:=[28]) (by kernel_rfl) (by simp) ?_;refine AllReadyH.cons (sd (some 36) rfl) (fun K hK=>?_) AllReadyH.nil;go_simp;refine (Jg6 _ _ _ _ _ (Zv w ca cb cc).1 (Zv w ca cb cc).2.1 (Zv w ca cb cc).2.2).mono ?_;rintro e w2 ⟨rfl,rfl⟩;go_wp2_with fail;refine hK.out _ _ (hM.o) (fun hA=>?_);clear hK K;try simp only[Act.put,Az,Ba,Bb]
 refine Ab.s [29] ?_;refine Ab.k (so rfl) hA ?_;try simp only[Act.put,Az,Ba,Bb]
 refine Ab.d ?_;refine wpAnyH_done (by kernel_rfl) ?_ _;clear hA;by_cases hc:F2 ca (F2 cb cc)=0
 case neg=>
  have tc:(F2 ca (F2 cb cc) != 0)=true:=by simpa using hc
  have HC:=Hd hc;clear hc;go_wp2_with fail;go_ret
  exact⟨by rw[Dv HC.o];rfl,hB.o⟩
 have tc:(F2 ca (F2 cb cc) != 0)=false:=by simpa using hc
 have H0:=Hd hc;clear hc;go_wp2_with fail;refine wp_region_held_drew (S:=(fun w'=>w'.cell? ⟨b,o+3,none⟩=some (.slice A ps.length c)/\w'.cell? ⟨b',o'+3,none⟩=some (.slice B hI.length d))) (by kernel_rfl) (hD.o _ hB.o.drew.below |> fun h=>⟨h.1.1,h.1.2⟩) (fun hA=>?_);refine Ab.s [0,1,2,3,4,5,6,7] ?_
 iterate 8 (refine Ab.k (so rfl) hA ?_;try simp only[Act.put,Az,Ba,Bb])
 refine Ab.d ?_;refine wpAnyH_ready (rs:=[8]) (by kernel_rfl) (by simp) ?_;refine AllReadyH.cons (sd (some 48) rfl) (fun K hK=>?_) AllReadyH.nil;go_simp;refine (KP.o _ hB.o.drew.below).mono ?_;rintro e w4 ⟨rfl,hC⟩;have hE:Z9 (Gw w w4):=Hd (hB.o.drew.trans hC);clear hC;go_wp2_with fail;refine hK.out _ _ ((hD.o _ hE.o.below |> fun h=>⟨h.1.1,h.1.2⟩)) (fun hA=>?_);clear hK K;try simp only[Act.put,Az,Ba,Bb]
 refine Ab.s [9] ?_;refine Ab.k (so rfl) hA ?_;try simp only[Act.put,Az,Ba,Bb]
 refine Ab.d ?_;refine wpAnyH_done (by kernel_rfl) ?_ _;clear hA;by_cases hc:cp=0
 case neg=>
  have tc:(cp != 0)=true:=by simpa using hc
  have HC:=Hd hc;clear hc;go_wp2_with fail;go_ret
  exact⟨by rw[H0.o,Bo,Dv HC.o];rfl,hE.o⟩
 have tc:(cp != 0)=false:=by simpa using hc
 have H1:=Hd hc;clear hc;go_wp2_with fail;refine wp_region_held_drew (S:=(fun w'=>w'.cell? ⟨b,o+4,none⟩=some (.slice A2 fs.length c2)/\w'.cell? ⟨b',o'+4,none⟩=some (.slice B2 hH.length d2))) (by kernel_rfl) (hD.o _ hE.o.drew.below |> fun h=>⟨h.2.1.1,h.2.1.2⟩) (fun hA=>?_);refine Ab.s [0,1,2,3,4,5,6,7] ?_
 iterate 8 (refine Ab.k (so rfl) hA ?_;try simp only[Act.put,Az,Ba,Bb])
 refine Ab.d ?_;refine wpAnyH_ready (rs:=[8]) (by kernel_rfl) (by simp) ?_;refine AllReadyH.cons (sd (some 60) rfl) (fun K hK=>?_) AllReadyH.nil;go_simp;refine (KF.o _ hE.o.drew.below).mono ?_;rintro e w5 ⟨rfl,hC⟩;have hG:Z9 (Gw w w5):=Hd (hE.o.drew.trans hC);clear hC;go_wp2_with fail;refine hK.out _ _ ((hD.o _ hG.o.below |> fun h=>⟨h.2.1.1,h.2.1.2⟩)) (fun hA=>?_);clear hK K;try simp only[Act.put,Az,Ba,Bb]
 refine Ab.s [9] ?_;refine Ab.k (so rfl) hA ?_;try simp only[Act.put,Az,Ba,Bb]
 refine Ab.d ?_;refine wpAnyH_done (by kernel_rfl) ?_ _;clear hA;by_cases hc:cf=0
 case neg=>
  have tc:(cf != 0)=true:=by simpa using hc
  have HC:=Hd hc;clear hc;go_wp2_with fail;go_ret
  exact⟨by rw[H0.o,Bo,H1.o,Bo,Dv HC.o];rfl,hG.o⟩
 have tc:(cf != 0)=false:=by simpa using hc
 have H2:=Hd hc;clear hc;go_wp2_with fail;refine wp_region_held_drew (S:=(fun w'=>w'.cell? ⟨b,o+5,none⟩=some (.slice A3 vs.length c3)/\w'.cell? ⟨b',o'+5,none⟩=some (.slice B3 hJ.length d3))) (by kernel_rfl) (hD.o _ hG.o.drew.below |> fun h=>⟨h.2.2.1,h.2.2.2⟩) (fun hA=>?_);refine Ab.s [0,1,2,3,4,5,6,7] ?_
 iterate 8 (refine Ab.k (so rfl) hA ?_;try simp only[Act.put,Az,Ba,Bb])
 refine Ab.d ?_;refine wpAnyH_ready (rs:=[8]) (by kernel_rfl) (by simp) ?_;refine AllReadyH.cons (sd (some 72) rfl) (fun K hK=>?_) AllReadyH.nil;go_simp;refine (KV.o _ hG.o.drew.below).mono ?_;rintro e w6 ⟨rfl,hC⟩;have hL:Z9 (Gw w w6):=Hd (hG.o.drew.trans hC);clear hC;go_wp2_with fail;refine hK.out _ _ ((hD.o _ hL.o.below |> fun h=>⟨h.2.2.1,h.2.2.2⟩)) (fun hA=>?_);clear hK K;try simp only[Act.put,Az,Ba,Bb]
 refine Ab.s [9] ?_;refine Ab.k (so rfl) hA ?_;try simp only[Act.put,Az,Ba,Bb]
 refine Ab.d ?_;refine wpAnyH_done (by kernel_rfl) ?_ _;clear hA;go_wp2_with fail;go_ret
 exact⟨by rw[H0.o,Bo,H1.o,Bo,H2.o,Bo];rfl,hL.o⟩
theorem Lo (t:Ty):Ni t:=Ty.ind (C:=Ni) (fun k t n ps fs vs hp hf hv=>Uy k t n ps fs vs hp hf hv) t

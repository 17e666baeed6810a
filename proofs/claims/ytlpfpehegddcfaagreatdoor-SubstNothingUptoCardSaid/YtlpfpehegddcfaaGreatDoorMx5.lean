import Derived.Test.YtlpfpehegddcfaaGreatDoorMx4
namespace Go.Proofs.YtlpfpehegddcfaaGreatDoor
set_option maxRecDepth 100000
set_option maxHeartbeats 64000000
open Go.RowKit
theorem Wb {w:World}{b o np nf nv c1 c2 c3:Nat}{t:Z8}{n lo hi:Int}{A1 A2 A3:Option Addr}(x1:w.cell? ⟨b,o+1,none⟩=some (.string t)) (_x2:w.cell? ⟨b,o+2,none⟩=some (.int .i64 n)) (x3:w.cell? ⟨b,o+3,none⟩=some (.slice A1 np c1)) (x4:w.cell? ⟨b,o+4,none⟩=some (.slice A2 nf c2)) (x5:w.cell? ⟨b,o+5,none⟩=some (.slice A3 nv c3)) :
  Calls Tryz.prog 95 #[.agg #[.bool false,.bool true,.bool false,.bool false,.int .i64 lo,.int .i64 hi],.pointer (some ⟨b,o,none⟩)] w fun e w'=>e=.returned (.bool (Ao ⟨false,true,false,false,lo,hi,true⟩ t n np nf nv))/\Below w.heap.size w w':=by
 have hA:b<w.heap.size:=World.block_lt_of_cell? _ _ x1;have HB:Z9 (Below w.heap.size w (w.alloc (.cells #[.bool false,.bool true,.bool false,.bool false,.int .i64 lo,.int .i64 hi] 138))):=Hd ((Below.refl _ _).alloc (Nat.le_refl _) _)
 cases q0:t.toList with
 | nil=>
  have e0:(t.toList == [])=true:=by rw[q0];rfl
  have Q0:=Hd e0;by_cases q2:nf=0
  ·have e2:¬ 0<nf:=by omega
   have z2:decide ((0:Int)<(nf:Int))=false:=by simp;omega
   have Q2:=Hd e2;clear q2;by_cases q3:nv=0
   ·have e3:¬ 0<nv:=(by omega);have z3:decide ((0:Int)<(nv:Int))=false:=(by simp;omega);have Q3:=Hd e3;clear q3;by_cases h1:lo<=(np:Int)
    ·by_cases h2:hi = -1
     ·have t2:(hi == -1)=true:=(by simpa using h2);have HR:Z9 (Ao ⟨false,true,false,false,lo,hi,true⟩ t n np nf nv=true):=Hd (by unfold Ao;simp[Q0.o,Q2.o,Q3.o,h1,h2]);clear h2;go_enter Tryz.func95,Tryz.ntmps95;go_wp2_with fail
      go_quiet (fail)
      go_wp2_with fail;go_ret
      exact⟨by rw[HR.o];first|rfl|(show Ending.returned (.bool (decide ((np:Int)<=hi)))=_;rw[t3]),by first|exact HB.o|exact Bc HB.o _|exact HB.o.drew⟩
     ·have t2:(hi == -1)=false:=(by simpa using h2);by_cases h3:(np:Int)<=hi
      ·have t3:decide ((np:Int)<=hi)=true:=(by simpa using h3);have HR:Z9 (Ao ⟨false,true,false,false,lo,hi,true⟩ t n np nf nv=true):=Hd (by unfold Ao;simp[Q0.o,Q2.o,Q3.o,h1,t2,h3]);clear h2;go_enter Tryz.func95,Tryz.ntmps95;go_wp2_with fail
       go_quiet (fail)
       go_wp2_with fail;go_ret
       exact⟨by rw[HR.o];first|rfl|(show Ending.returned (.bool (decide ((np:Int)<=hi)))=_;rw[t3]),by first|exact HB.o|exact Bc HB.o _|exact HB.o.drew⟩
      ·have t3:decide ((np:Int)<=hi)=false:=(by simpa using h3);have HR:Z9 (Ao ⟨false,true,false,false,lo,hi,true⟩ t n np nf nv=false):=Hd (by unfold Ao;simp[Q0.o,Q2.o,Q3.o,t2,h3]);clear h2;go_enter Tryz.func95,Tryz.ntmps95;go_wp2_with fail
       go_quiet (fail)
       go_wp2_with fail;go_ret
       exact⟨by rw[HR.o];first|rfl|(show Ending.returned (.bool (decide ((np:Int)<=hi)))=_;rw[t3]),by first|exact HB.o|exact Bc HB.o _|exact HB.o.drew⟩
    ·have t1:decide (lo<=(np:Int))=false:=(by simpa using h1);have t1b:(np:Int)<lo:=(by omega);have HR:Z9 (Ao ⟨false,true,false,false,lo,hi,true⟩ t n np nf nv=false):=Hd (by unfold Ao;simp[Q0.o,Q2.o,Q3.o,h1]);go_enter Tryz.func95,Tryz.ntmps95;go_wp2_with fail
     go_quiet (fail)
     go_wp2_with fail;go_ret
     exact⟨by rw[HR.o];first|rfl|(show Ending.returned (.bool (decide ((np:Int)<=hi)))=_;rw[t3]),by first|exact HB.o|exact Bc HB.o _|exact HB.o.drew⟩
   ·have e3:0<nv:=(by omega);have z3:decide ((0:Int)<(nv:Int))=true:=(by simp;omega);have Q3:=Hd e3;clear q3;have HR:Z9 (Ao ⟨false,true,false,false,lo,hi,true⟩ t n np nf nv=false):=Hd (by unfold Ao;simp[Q0.o,Q2.o,Q3.o]);go_enter Tryz.func95,Tryz.ntmps95;go_wp2_with fail;go_ret
    exact⟨by rw[HR.o];first|rfl|(show Ending.returned (.bool (decide ((np:Int)<=hi)))=_;rw[t3]),by first|exact HB.o|exact Bc HB.o _|exact HB.o.drew⟩
  ·have e2:0<nf:=by omega
   have z2:decide ((0:Int)<(nf:Int))=true:=by simp;omega
   have Q2:=Hd e2;clear q2;have HR:Z9 (Ao ⟨false,true,false,false,lo,hi,true⟩ t n np nf nv=false):=Hd (by unfold Ao;simp[Q0.o,Q2.o]);go_enter Tryz.func95,Tryz.ntmps95;go_wp2_with fail;go_ret
   exact⟨by rw[HR.o];first|rfl|(show Ending.returned (.bool (decide ((np:Int)<=hi)))=_;rw[t3]),by first|exact HB.o|exact Bc HB.o _|exact HB.o.drew⟩
 | cons hd tl=>
  have e0:(t.toList == [])=false:=by rw[q0];rfl
  have Q0:=Hd e0;have HR:Z9 (Ao ⟨false,true,false,false,lo,hi,true⟩ t n np nf nv=false):=Hd (by unfold Ao;simp[Q0.o]);go_enter Tryz.func95,Tryz.ntmps95;go_wp2_with fail;go_ret
  exact⟨by rw[HR.o];first|rfl|(show Ending.returned (.bool (decide ((np:Int)<=hi)))=_;rw[t3]),by first|exact HB.o|exact Bc HB.o _|exact HB.o.drew⟩
theorem V9 {w:World}{b o np nf nv c1 c2 c3:Nat}{t:Z8}{n lo hi:Int}{A1 A2 A3:Option Addr}(x1:w.cell? ⟨b,o+1,none⟩=some (.string t)) (x2:w.cell? ⟨b,o+2,none⟩=some (.int .i64 n)) (x3:w.cell? ⟨b,o+3,none⟩=some (.slice A1 np c1)) (x4:w.cell? ⟨b,o+4,none⟩=some (.slice A2 nf c2)) (_x5:w.cell? ⟨b,o+5,none⟩=some (.slice A3 nv c3)) :
  Calls Tryz.prog 95 #[.agg #[.bool false,.bool false,.bool false,.bool true,.int .i64 lo,.int .i64 hi],.pointer (some ⟨b,o,none⟩)] w fun e w'=>e=.returned (.bool (Ao ⟨false,false,false,true,lo,hi,true⟩ t n np nf nv))/\Below w.heap.size w w':=by
 have hA:b<w.heap.size:=World.block_lt_of_cell? _ _ x1;have HB:Z9 (Below w.heap.size w (w.alloc (.cells #[.bool false,.bool false,.bool false,.bool true,.int .i64 lo,.int .i64 hi] 138))):=Hd ((Below.refl _ _).alloc (Nat.le_refl _) _)
 cases q0:t.toList with
 | nil=>
  have e0:(t.toList == [])=true:=by rw[q0];rfl
  have Q0:=Hd e0;by_cases q1:n=0
  ·have e1:(n != 0)=false:=by simpa using q1
   have Q1:=Hd q1;clear q1;by_cases q2:nf=0
   ·have e2:¬ 0<nf:=(by omega);have z2:decide ((0:Int)<(nf:Int))=false:=(by simp;omega);have Q2:=Hd e2;clear q2;by_cases h1:lo<=(np:Int)
    ·by_cases h2:hi = -1
     ·have t2:(hi == -1)=true:=(by simpa using h2);have HR:Z9 (Ao ⟨false,false,false,true,lo,hi,true⟩ t n np nf nv=true):=Hd (by unfold Ao;simp[Q0.o,Q1.o,Q2.o,h1,h2]);clear h2;go_enter Tryz.func95,Tryz.ntmps95;go_wp2_with fail
      go_quiet (fail)
      go_wp2_with fail;go_ret
      exact⟨by rw[HR.o];first|rfl|(show Ending.returned (.bool (decide ((np:Int)<=hi)))=_;rw[t3]),by first|exact HB.o|exact Bc HB.o _|exact HB.o.drew⟩
     ·have t2:(hi == -1)=false:=(by simpa using h2);by_cases h3:(np:Int)<=hi
      ·have t3:decide ((np:Int)<=hi)=true:=(by simpa using h3);have HR:Z9 (Ao ⟨false,false,false,true,lo,hi,true⟩ t n np nf nv=true):=Hd (by unfold Ao;simp[Q0.o,Q1.o,Q2.o,h1,t2,h3]);clear h2;go_enter Tryz.func95,Tryz.ntmps95;go_wp2_with fail
       go_quiet (fail)
       go_wp2_with fail;go_ret
       exact⟨by rw[HR.o];first|rfl|(show Ending.returned (.bool (decide ((np:Int)<=hi)))=_;rw[t3]),by first|exact HB.o|exact Bc HB.o _|exact HB.o.drew⟩
      ·have t3:decide ((np:Int)<=hi)=false:=(by simpa using h3);have HR:Z9 (Ao ⟨false,false,false,true,lo,hi,true⟩ t n np nf nv=false):=Hd (by unfold Ao;simp[Q0.o,Q1.o,Q2.o,t2,h3]);clear h2;go_enter Tryz.func95,Tryz.ntmps95;go_wp2_with fail
       go_quiet (fail)
       go_wp2_with fail;go_ret
       exact⟨by rw[HR.o];first|rfl|(show Ending.returned (.bool (decide ((np:Int)<=hi)))=_;rw[t3]),by first|exact HB.o|exact Bc HB.o _|exact HB.o.drew⟩
    ·have t1:decide (lo<=(np:Int))=false:=(by simpa using h1);have t1b:(np:Int)<lo:=(by omega);have HR:Z9 (Ao ⟨false,false,false,true,lo,hi,true⟩ t n np nf nv=false):=Hd (by unfold Ao;simp[Q0.o,Q1.o,Q2.o,h1]);go_enter Tryz.func95,Tryz.ntmps95;go_wp2_with fail
     go_quiet (fail)
     go_wp2_with fail;go_ret
     exact⟨by rw[HR.o];first|rfl|(show Ending.returned (.bool (decide ((np:Int)<=hi)))=_;rw[t3]),by first|exact HB.o|exact Bc HB.o _|exact HB.o.drew⟩
   ·have e2:0<nf:=(by omega);have z2:decide ((0:Int)<(nf:Int))=true:=(by simp;omega);have Q2:=Hd e2;clear q2;have HR:Z9 (Ao ⟨false,false,false,true,lo,hi,true⟩ t n np nf nv=false):=Hd (by unfold Ao;simp[Q0.o,Q1.o,Q2.o]);go_enter Tryz.func95,Tryz.ntmps95;go_wp2_with fail;go_ret
    exact⟨by rw[HR.o];first|rfl|(show Ending.returned (.bool (decide ((np:Int)<=hi)))=_;rw[t3]),by first|exact HB.o|exact Bc HB.o _|exact HB.o.drew⟩
  ·have e1:(n != 0)=true:=by simpa using q1
   have Q1:=Hd q1;have HR:Z9 (Ao ⟨false,false,false,true,lo,hi,true⟩ t n np nf nv=false):=Hd (by unfold Ao;simp[Q0.o,Q1.o]);clear q1;go_enter Tryz.func95,Tryz.ntmps95;go_wp2_with fail;go_ret
   exact⟨by rw[HR.o];first|rfl|(show Ending.returned (.bool (decide ((np:Int)<=hi)))=_;rw[t3]),by first|exact HB.o|exact Bc HB.o _|exact HB.o.drew⟩
 | cons hd tl=>
  have e0:(t.toList == [])=false:=by rw[q0];rfl
  have Q0:=Hd e0;have HR:Z9 (Ao ⟨false,false,false,true,lo,hi,true⟩ t n np nf nv=false):=Hd (by unfold Ao;simp[Q0.o]);go_enter Tryz.func95,Tryz.ntmps95;go_wp2_with fail;go_ret
  exact⟨by rw[HR.o];first|rfl|(show Ending.returned (.bool (decide ((np:Int)<=hi)))=_;rw[t3]),by first|exact HB.o|exact Bc HB.o _|exact HB.o.drew⟩
theorem Wa {w:World}{b o np nf nv c1 c2 c3:Nat}{t:Z8}{n lo hi:Int}{A1 A2 A3:Option Addr}(x1:w.cell? ⟨b,o+1,none⟩=some (.string t)) (x2:w.cell? ⟨b,o+2,none⟩=some (.int .i64 n)) (x3:w.cell? ⟨b,o+3,none⟩=some (.slice A1 np c1)) (_x4:w.cell? ⟨b,o+4,none⟩=some (.slice A2 nf c2)) (x5:w.cell? ⟨b,o+5,none⟩=some (.slice A3 nv c3)) :
  Calls Tryz.prog 95 #[.agg #[.bool false,.bool false,.bool true,.bool false,.int .i64 lo,.int .i64 hi],.pointer (some ⟨b,o,none⟩)] w fun e w'=>e=.returned (.bool (Ao ⟨false,false,true,false,lo,hi,true⟩ t n np nf nv))/\Below w.heap.size w w':=by
 have hA:b<w.heap.size:=World.block_lt_of_cell? _ _ x1;have HB:Z9 (Below w.heap.size w (w.alloc (.cells #[.bool false,.bool false,.bool true,.bool false,.int .i64 lo,.int .i64 hi] 138))):=Hd ((Below.refl _ _).alloc (Nat.le_refl _) _)
 cases q0:t.toList with
 | nil=>
  have e0:(t.toList == [])=true:=by rw[q0];rfl
  have Q0:=Hd e0;by_cases q1:n=0
  ·have e1:(n != 0)=false:=by simpa using q1
   have Q1:=Hd q1;clear q1;by_cases q3:nv=0
   ·have e3:¬ 0<nv:=(by omega);have z3:decide ((0:Int)<(nv:Int))=false:=(by simp;omega);have Q3:=Hd e3;clear q3;by_cases h1:lo<=(np:Int)
    ·by_cases h2:hi = -1
     ·have t2:(hi == -1)=true:=(by simpa using h2);have HR:Z9 (Ao ⟨false,false,true,false,lo,hi,true⟩ t n np nf nv=true):=Hd (by unfold Ao;simp[Q0.o,Q1.o,Q3.o,h1,h2]);clear h2;go_enter Tryz.func95,Tryz.ntmps95;go_wp2_with fail
      go_quiet (fail)
      go_wp2_with fail;go_ret
      exact⟨by rw[HR.o];first|rfl|(show Ending.returned (.bool (decide ((np:Int)<=hi)))=_;rw[t3]),by first|exact HB.o|exact Bc HB.o _|exact HB.o.drew⟩
     ·have t2:(hi == -1)=false:=(by simpa using h2);by_cases h3:(np:Int)<=hi
      ·have t3:decide ((np:Int)<=hi)=true:=(by simpa using h3);have HR:Z9 (Ao ⟨false,false,true,false,lo,hi,true⟩ t n np nf nv=true):=Hd (by unfold Ao;simp[Q0.o,Q1.o,Q3.o,h1,t2,h3]);clear h2;go_enter Tryz.func95,Tryz.ntmps95;go_wp2_with fail
       go_quiet (fail)
       go_wp2_with fail;go_ret
       exact⟨by rw[HR.o];first|rfl|(show Ending.returned (.bool (decide ((np:Int)<=hi)))=_;rw[t3]),by first|exact HB.o|exact Bc HB.o _|exact HB.o.drew⟩
      ·have t3:decide ((np:Int)<=hi)=false:=(by simpa using h3);have HR:Z9 (Ao ⟨false,false,true,false,lo,hi,true⟩ t n np nf nv=false):=Hd (by unfold Ao;simp[Q0.o,Q1.o,Q3.o,t2,h3]);clear h2;go_enter Tryz.func95,Tryz.ntmps95;go_wp2_with fail
       go_quiet (fail)
       go_wp2_with fail;go_ret
       exact⟨by rw[HR.o];first|rfl|(show Ending.returned (.bool (decide ((np:Int)<=hi)))=_;rw[t3]),by first|exact HB.o|exact Bc HB.o _|exact HB.o.drew⟩
    ·have t1:decide (lo<=(np:Int))=false:=(by simpa using h1);have t1b:(np:Int)<lo:=(by omega);have HR:Z9 (Ao ⟨false,false,true,false,lo,hi,true⟩ t n np nf nv=false):=Hd (by unfold Ao;simp[Q0.o,Q1.o,Q3.o,h1]);go_enter Tryz.func95,Tryz.ntmps95;go_wp2_with fail
     go_quiet (fail)
     go_wp2_with fail;go_ret
     exact⟨by rw[HR.o];first|rfl|(show Ending.returned (.bool (decide ((np:Int)<=hi)))=_;rw[t3]),by first|exact HB.o|exact Bc HB.o _|exact HB.o.drew⟩
   ·have e3:0<nv:=(by omega);have z3:decide ((0:Int)<(nv:Int))=true:=(by simp;omega);have Q3:=Hd e3;clear q3;have HR:Z9 (Ao ⟨false,false,true,false,lo,hi,true⟩ t n np nf nv=false):=Hd (by unfold Ao;simp[Q0.o,Q1.o,Q3.o]);go_enter Tryz.func95,Tryz.ntmps95;go_wp2_with fail;go_ret
    exact⟨by rw[HR.o];first|rfl|(show Ending.returned (.bool (decide ((np:Int)<=hi)))=_;rw[t3]),by first|exact HB.o|exact Bc HB.o _|exact HB.o.drew⟩
  ·have e1:(n != 0)=true:=by simpa using q1
   have Q1:=Hd q1;have HR:Z9 (Ao ⟨false,false,true,false,lo,hi,true⟩ t n np nf nv=false):=Hd (by unfold Ao;simp[Q0.o,Q1.o]);clear q1;go_enter Tryz.func95,Tryz.ntmps95;go_wp2_with fail;go_ret
   exact⟨by rw[HR.o];first|rfl|(show Ending.returned (.bool (decide ((np:Int)<=hi)))=_;rw[t3]),by first|exact HB.o|exact Bc HB.o _|exact HB.o.drew⟩
 | cons hd tl=>
  have e0:(t.toList == [])=false:=by rw[q0];rfl
  have Q0:=Hd e0;have HR:Z9 (Ao ⟨false,false,true,false,lo,hi,true⟩ t n np nf nv=false):=Hd (by unfold Ao;simp[Q0.o]);go_enter Tryz.func95,Tryz.ntmps95;go_wp2_with fail;go_ret
  exact⟨by rw[HR.o];first|rfl|(show Ending.returned (.bool (decide ((np:Int)<=hi)))=_;rw[t3]),by first|exact HB.o|exact Bc HB.o _|exact HB.o.drew⟩
theorem To (k:Int) (t:Z8) (n:Int) (ps:List Ty) (fs:Bx) (vs:Bt) (hp:∀p∈ps,L4 p) (hf:∀f∈fs,L4 f.2.2) (hv:∀v∈vs,∀b∈v.2,L4 b):L4 (.mk k t n ps fs vs):=by
 intro K K' tt;obtain⟨k',t',n',hI,hH,hJ⟩:=tt;refine⟨fun w b o b' o' h h'=>?_⟩;obtain⟨A,c,A2,c2,A3,c3,⟨x0,x1,x2,x3,x4,x5⟩,_,hP,hF,hV⟩:=h.six;obtain⟨B,d,B2,d2,B3,d3,⟨y0,y1,y2,y3,y4,y5⟩,_,hO,hN,hQ⟩:=h'.six;rw[O0,<-Ha (Dv t t') _ _,<-Ha (Dp k k') _ _,<-Ha (Dp k k') _ _];have KA:=Hd (fun w=>E8 k k' w);have KB:=Hd (fun w=>J3 t t' w);have KC:=Hd (fun w=>V2 n n' w);have KP:=Hd (fun w' (hb:Below w.heap.size w w')=>Rw ps hI hp (hP.later hb) (hO.later hb));have KF:=Hd (fun w' (hb:Below w.heap.size w w')=>Sy fs hH hf (hF.later hb) (hN.later hb));have KV:=Hd (fun w' (hb:Below w.heap.size w w')=>Jar vs hJ hv (hV.later hb) (hQ.later hb));generalize Dp k k'=ca at KA ⊢;generalize Dv t t'=cb at KB ⊢;generalize Dp n n'=cc at KC ⊢;generalize Ca (Bw ps) (Bw hI)=cp at KP ⊢;generalize Ca (Ee fs) (Ee hH)=cf at KF ⊢;generalize Ca (Ef vs) (Ef hJ)=cv at KV ⊢;rw[Ha ca cb cc];have hB:Z9 (Gw w (w.alloc (.cells #[.int .i64 ca,.int .i64 cb,.int .i64 cc] 3)).drew):=Hd ((Gw.refl _).alloc _).drew;have HS1:Z9 ((w.drew).cell? ⟨b,o,none⟩=some (.int .i64 k)/\(w.drew).cell? ⟨b',o',none⟩=some (.int .i64 k')/\(w.drew).cell? ⟨b,o+1,none⟩=some (.string t)/\(w.drew).cell? ⟨b',o'+1,none⟩=some (.string t')/\(w.drew).cell? ⟨b,o+2,none⟩=some (.int .i64 n)/\(w.drew).cell? ⟨b',o'+2,none⟩=some (.int .i64 n')):=Hd ⟨x0,y0,x1,y1,x2,y2⟩;have hM:Z9 (((w.alloc (.cells #[.int .i64 ca,.int .i64 cb,.int .i64 cc] 3)).drew).cell? ⟨b,o,none⟩=some (.int .i64 k)/\((w.alloc (.cells #[.int .i64 ca,.int .i64 cb,.int .i64 cc] 3)).drew).cell? ⟨b',o',none⟩=some (.int .i64 k')/\((w.alloc (.cells #[.int .i64 ca,.int .i64 cb,.int .i64 cc] 3)).drew).cell? ⟨b,o+1,none⟩=some (.string t)/\((w.alloc (.cells #[.int .i64 ca,.int .i64 cb,.int .i64 cc] 3)).drew).cell? ⟨b',o'+1,none⟩=some (.string t')/\((w.alloc (.cells #[.int .i64 ca,.int .i64 cb,.int .i64 cc] 3)).drew).cell? ⟨b,o+2,none⟩=some (.int .i64 n)/\((w.alloc (.cells #[.int .i64 ca,.int .i64 cb,.int .i64 cc] 3)).drew).cell? ⟨b',o'+2,none⟩=some (.int .i64 n')):=Hd ⟨Aa hB.o.below x0,Aa hB.o.below y0,Aa hB.o.below x1,Aa hB.o.below y1,Aa hB.o.below x2,Aa hB.o.below y2⟩;have hD:Z9 (∀w',Below w.heap.size w w'->(w'.cell? ⟨b,o+3,none⟩=some (.slice A ps.length c)/\w'.cell? ⟨b',o'+3,none⟩=some (.slice B hI.length d))/\(w'.cell? ⟨b,o+4,none⟩=some (.slice A2 fs.length c2)/\w'.cell? ⟨b',o'+4,none⟩=some (.slice B2 hH.length d2))/\w'.cell? ⟨b,o+5,none⟩=some (.slice A3 vs.length c3)/\w'.cell? ⟨b',o'+5,none⟩=some (.slice B3 hJ.length d3)):=Hd fun w' hb=>⟨⟨Aa hb x3,Aa hb y3⟩,⟨Aa hb x4,Aa hb y4⟩,Aa hb x5,Aa hb y5⟩;clear hp hf hv h h' x0 x1 x2 x3 x4 x5 y0 y1 y2 y3 y4 y5 hP hF hV hO hN hQ;go_enter Tryz.func104,Tryz.ntmps104;go_wp2_with fail;refine wp_region_held_drew (S:=(fun w'=>w'.cell? ⟨b,o,none⟩=some (.int .i64 k)/\w'.cell? ⟨b',o',none⟩=some (.int .i64 k')/\w'.cell? ⟨b,o+1,none⟩=some (.string t)/\w'.cell? ⟨b',o'+1,none⟩=some (.string t')/\w'.cell? ⟨b,o+2,none⟩=some (.int .i64 n)/\w'.cell? ⟨b',o'+2,none⟩=some (.int .i64 n'))) (by kernel_rfl) HS1.o (fun hA=>?_);refine Ab.s [0,1,2,3,4,5,6,7,9,10,11,12,13,14,15,16,18,19,20,21,22,23,24,25] ?_
 iterate 24 (refine Ab.k (so rfl) hA ?_;try simp only[Act.put,Bd,Be,Bf])
 refine Ab.d ?_;refine wpAnyH_ready (rs:=[8]) (by kernel_rfl) (by simp) ?_;refine AllReadyH.cons (sd (some 16) rfl) (fun K hK=>?_) AllReadyH.nil;go_simp;refine (KA.o _).mono ?_;rintro e w2 ⟨rfl,rfl⟩;go_wp2_with fail;refine hK.out _ _ (HS1.o) (fun hA=>?_);clear hK K;try simp only[Act.put,Bd,Be,Bf]
 refine wpAnyH_ready (rs:=[17]) (by kernel_rfl) (by simp) ?_;refine AllReadyH.cons (sd (some 25) rfl) (fun K hK=>?_) AllReadyH.nil;go_simp;refine (KB.o _).mono ?_;rintro e w2 ⟨rfl,rfl⟩;go_wp2_with fail;refine hK.out _ _ (HS1.o) (fun hA=>?_);clear hK K;try simp only[Act.put,Bd,Be,Bf]
 refine wpAnyH_ready (rs:=[26]) (by kernel_rfl) (by simp) ?_;refine AllReadyH.cons (sd (some 34) rfl) (fun K hK=>?_) AllReadyH.nil;go_simp;refine (KC.o _).mono ?_;rintro e w2 ⟨rfl,rfl⟩;go_wp2_with fail;refine hK.out _ _ (HS1.o) (fun hA=>?_);clear hK K;try simp only[Act.put,Bd,Be,Bf]
 refine wpAnyH_ready (rs:=[27]) (by kernel_rfl) (by simp) ?_;refine AllReadyH.cons (sd (some 35) rfl) (fun K hK=>?_) AllReadyH.nil;go_simp;refine hK.out _ _ (hM.o) (fun hA=>?_);clear hK K;try simp only[Act.put,Bd,Be,Bf]
 refine wpAnyH_ready (rs:=[28]) (by kernel_rfl) (by simp) ?_;refine AllReadyH.cons (sd (some 36) rfl) (fun K hK=>?_) AllReadyH.nil;go_simp;refine (Jer _ _ _ _ _ (X2 w ca cb cc).1 (X2 w ca cb cc).2.1 (X2 w ca cb cc).2.2).mono ?_;rintro e w2 ⟨rfl,rfl⟩;go_wp2_with fail;refine hK.out _ _ (hM.o) (fun hA=>?_);clear hK K;try simp only[Act.put,Bd,Be,Bf]
 refine Ab.s [29] ?_;refine Ab.k (so rfl) hA ?_;try simp only[Act.put,Bd,Be,Bf]
 refine Ab.d ?_;refine wpAnyH_done (by kernel_rfl) ?_ _;clear hA;by_cases hc:Fw ca (Fw cb cc)=0
 case neg=>
  have tc:(Fw ca (Fw cb cc) != 0)=true:=by simpa using hc
  have HC:=Hd hc;clear hc;go_wp2_with fail;go_ret
  exact⟨by rw[Dr HC.o];rfl,hB.o⟩
 have tc:(Fw ca (Fw cb cc) != 0)=false:=by simpa using hc
 have H0:=Hd hc;clear hc;go_wp2_with fail;refine wp_region_held_drew (S:=(fun w'=>w'.cell? ⟨b,o+3,none⟩=some (.slice A ps.length c)/\w'.cell? ⟨b',o'+3,none⟩=some (.slice B hI.length d))) (by kernel_rfl) (hD.o _ hB.o.drew.below |> fun h=>⟨h.1.1,h.1.2⟩) (fun hA=>?_);refine Ab.s [0,1,2,3,4,5,6,7] ?_
 iterate 8 (refine Ab.k (so rfl) hA ?_;try simp only[Act.put,Bd,Be,Bf])
 refine Ab.d ?_;refine wpAnyH_ready (rs:=[8]) (by kernel_rfl) (by simp) ?_;refine AllReadyH.cons (sd (some 48) rfl) (fun K hK=>?_) AllReadyH.nil;go_simp;refine (KP.o _ hB.o.drew.below).mono ?_;rintro e w4 ⟨rfl,hC⟩;have hE:Z9 (Gw w w4):=Hd (hB.o.drew.trans hC);clear hC;go_wp2_with fail;refine hK.out _ _ ((hD.o _ hE.o.below |> fun h=>⟨h.1.1,h.1.2⟩)) (fun hA=>?_);clear hK K;try simp only[Act.put,Bd,Be,Bf]
 refine Ab.s [9] ?_;refine Ab.k (so rfl) hA ?_;try simp only[Act.put,Bd,Be,Bf]
 refine Ab.d ?_;refine wpAnyH_done (by kernel_rfl) ?_ _;clear hA;by_cases hc:cp=0
 case neg=>
  have tc:(cp != 0)=true:=by simpa using hc
  have HC:=Hd hc;clear hc;go_wp2_with fail;go_ret
  exact⟨by rw[H0.o,Bn,Dr HC.o];rfl,hE.o⟩
 have tc:(cp != 0)=false:=by simpa using hc
 have H1:=Hd hc;clear hc;go_wp2_with fail;refine wp_region_held_drew (S:=(fun w'=>w'.cell? ⟨b,o+4,none⟩=some (.slice A2 fs.length c2)/\w'.cell? ⟨b',o'+4,none⟩=some (.slice B2 hH.length d2))) (by kernel_rfl) (hD.o _ hE.o.drew.below |> fun h=>⟨h.2.1.1,h.2.1.2⟩) (fun hA=>?_);refine Ab.s [0,1,2,3,4,5,6,7] ?_
 iterate 8 (refine Ab.k (so rfl) hA ?_;try simp only[Act.put,Bd,Be,Bf])
 refine Ab.d ?_;refine wpAnyH_ready (rs:=[8]) (by kernel_rfl) (by simp) ?_;refine AllReadyH.cons (sd (some 60) rfl) (fun K hK=>?_) AllReadyH.nil;go_simp;refine (KF.o _ hE.o.drew.below).mono ?_;rintro e w5 ⟨rfl,hC⟩;have hG:Z9 (Gw w w5):=Hd (hE.o.drew.trans hC);clear hC;go_wp2_with fail;refine hK.out _ _ ((hD.o _ hG.o.below |> fun h=>⟨h.2.1.1,h.2.1.2⟩)) (fun hA=>?_);clear hK K;try simp only[Act.put,Bd,Be,Bf]
 refine Ab.s [9] ?_;refine Ab.k (so rfl) hA ?_;try simp only[Act.put,Bd,Be,Bf]
 refine Ab.d ?_;refine wpAnyH_done (by kernel_rfl) ?_ _;clear hA;by_cases hc:cf=0
 case neg=>
  have tc:(cf != 0)=true:=by simpa using hc
  have HC:=Hd hc;clear hc;go_wp2_with fail;go_ret
  exact⟨by rw[H0.o,Bn,H1.o,Bn,Dr HC.o];rfl,hG.o⟩
 have tc:(cf != 0)=false:=by simpa using hc
 have H2:=Hd hc;clear hc;go_wp2_with fail;refine wp_region_held_drew (S:=(fun w'=>w'.cell? ⟨b,o+5,none⟩=some (.slice A3 vs.length c3)/\w'.cell? ⟨b',o'+5,none⟩=some (.slice B3 hJ.length d3))) (by kernel_rfl) (hD.o _ hG.o.drew.below |> fun h=>⟨h.2.2.1,h.2.2.2⟩) (fun hA=>?_);refine Ab.s [0,1,2,3,4,5,6,7] ?_
 iterate 8 (refine Ab.k (so rfl) hA ?_;try simp only[Act.put,Bd,Be,Bf])
 refine Ab.d ?_;refine wpAnyH_ready (rs:=[8]) (by kernel_rfl) (by simp) ?_;refine AllReadyH.cons (sd (some 72) rfl) (fun K hK=>?_) AllReadyH.nil;go_simp;refine (KV.o _ hG.o.drew.below).mono ?_;rintro e w6 ⟨rfl,hC⟩;have hL:Z9 (Gw w w6):=Hd (hG.o.drew.trans hC);clear hC;go_wp2_with fail;refine hK.out _ _ ((hD.o _ hL.o.below |> fun h=>⟨h.2.2.1,h.2.2.2⟩)) (fun hA=>?_);clear hK K;try simp only[Act.put,Bd,Be,Bf]
 refine Ab.s [9] ?_;refine Ab.k (so rfl) hA ?_;try simp only[Act.put,Bd,Be,Bf]
 refine Ab.d ?_;refine wpAnyH_done (by kernel_rfl) ?_ _;clear hA;go_wp2_with fail;go_ret
 exact⟨by rw[H0.o,Bn,H1.o,Bn,H2.o,Bn];rfl,hL.o⟩
theorem Kd (t:Ty):L4 t:=Ty.ind (C:=L4) (fun k t n ps fs vs hp hf hv=>To k t n ps fs vs hp hf hv) t
theorem Vi {K K':Nat->Prop}{w:World}{t t':Ty}{cs cs':List Value}(h:Aw K w t cs) (h':Aw K' w t' cs') :
  Calls Tryz.prog 101 #[.agg cs.toArray,.agg cs'.toArray] w fun e w'=>e=.returned (.int .i64 (B5 t t'))/\Gw w w':=by
 have hA:Gw w (w.alloc (.cells cs.toArray 26)):=(Gw.refl w).alloc _;have hB:Gw w ((w.alloc (.cells cs.toArray 26)).alloc (.cells cs'.toArray 26)):=hA.alloc _;have a1:De K ((w.alloc (.cells cs.toArray 26)).alloc (.cells cs'.toArray 26)) t w.heap.size 0:=(De.box _ h).later ((Below.refl _ _).alloc (Nat.le_refl _) _);have a2:De K' ((w.alloc (.cells cs.toArray 26)).alloc (.cells cs'.toArray 26)) t' (w.heap.size+1) 0:=by
  have:=De.box (w:=w.alloc (.cells cs.toArray 26)) 26 (h'.later hA.below);rw[World.size_alloc]at this;exact this
 have KO:=Hd ((Kd t K K' t').ok _ _ _ _ _ a1 a2);have HB:=Hd hB;obtain⟨k,s,n,ps,fs,vs⟩:=t;obtain⟨k',s',n',ps',fs',vs'⟩:=t';obtain⟨A,c,A',c',A'',c'',rfl,_⟩:=h.inv;obtain⟨B,d,B',d',B'',d'',rfl,_⟩:=h'.inv;clear a1 a2 hA hB h h';generalize B5 (.mk k s n ps fs vs) (.mk k' s' n' ps' fs' vs')=r at KO ⊢;simp only[Az]at KO HB ⊢;go_enter Tryz.func101,Tryz.ntmps101;go_wp2_with fail;refine KO.o.mono ?_;rintro e w1 ⟨rfl,hb⟩;have hC:=Hd (HB.o.trans hb);clear hb;go_wp2_with fail;go_ret
 exact⟨rfl,hC.o⟩
def Am:Ty->Nat
 | .mk _ _ _ ps fs vs=>1+((ps.attach.map fun ⟨p,_⟩=>Am p).sum+((fs.attach.map fun ⟨f,_⟩=>Am f.2.2).sum+(vs.attach.map fun ⟨v,_⟩=>(v.2.attach.map fun ⟨b,_⟩=>Am b).sum).sum))
termination_by t=>SizeOf.sizeOf t
decreasing_by
 ·exact D2 ‹_›
 ·exact Ei ‹_›
 ·exact E2 ‹_› ‹_›
def Au (l:List Ty):Nat:=(l.map Am).sum
def Bm (l:Bx):Nat:=(l.map fun f=>Am f.2.2).sum
def Bl (l:Bt):Nat:=(l.map fun v=>Au v.2).sum
theorem Bu (k t n ps fs vs):Am (.mk k t n ps fs vs)=1+(Au ps+(Bm fs+Bl vs)):=by
 rw[Am];unfold Au Bm Bl Au;simp only[List.map_attach_eq_pmap,List.pmap_eq_map]
def Cj (n:Nat):Nat:=min n 4097
def Dl (n S:Nat):Prop:=Cj n=Cj S/\n<=8193
theorem Dl.more {n S x:Nat}(h:Dl n S) (hn:n<=4096):Dl (n+Cj x) (S+x):=by
 unfold Dl Cj at *;omega
theorem Dl.full {n S x:Nat}(h:Dl n S) (hn:¬ n<=4096):Dl n (S+x):=by
 unfold Dl Cj at *;omega
theorem Nc {α:Type}{l:List α}{i:Nat}(h:i<l.length):l.take (i+1)=l.take i++[l[i]]:=by
 rw[List.take_add_one,List.getElem?_eq_getElem h];rfl
theorem Vw {l:List Ty}{i:Nat}(h:i<l.length):Au (l.take (i+1))=Au (l.take i)+Am l[i]:=by
 unfold Au;rw[Nc h,List.map_append,List.sum_append];simp only[List.map_cons,List.map_nil,List.sum_cons,List.sum_nil,Nat.add_zero]
theorem Vs {l:Bx}{i:Nat}(h:i<l.length):Bm (l.take (i+1))=Bm (l.take i)+Am l[i].2.2:=by
 unfold Bm;rw[Nc h,List.map_append,List.sum_append];simp only[List.map_cons,List.map_nil,List.sum_cons,List.sum_nil,Nat.add_zero]
theorem Vy {l:Bt}{i:Nat}(h:i<l.length):Bl (l.take (i+1))=Bl (l.take i)+Au l[i].2:=by
 unfold Bl;rw[Nc h,List.map_append,List.sum_append];simp only[List.map_cons,List.map_nil,List.sum_cons,List.sum_nil,Nat.add_zero]
theorem Gk (l:List Ty) (i:Nat):∃x,Au l=Au (l.take i)+x:=⟨Au (l.drop i),by unfold Au;rw[<-List.sum_append,<-List.map_append,List.take_append_drop]⟩
theorem Me (l:Bx) (i:Nat):∃x,Bm l=Bm (l.take i)+x:=⟨Bm (l.drop i),by unfold Bm;rw[<-List.sum_append,<-List.map_append,List.take_append_drop]⟩
theorem Ho (l:Bt) (i:Nat):∃x,Bl l=Bl (l.take i)+x:=⟨Bl (l.drop i),by unfold Bl;rw[<-List.sum_append,<-List.map_append,List.take_append_drop]⟩

import Derived.Test.YtlpfpehegddcfaaGreatDoorMx1
namespace Go.Proofs.YtlpfpehegddcfaaGreatDoor
set_option maxRecDepth 100000
set_option maxHeartbeats 64000000
open Go.RowKit
theorem Lw {k:IntKind}{a b:Int}(h:a=b):Ending.returned (.int k a)=.returned (.int k b):=by
 rw[h]
def Df (s:Z8) (k:Nat):Nat:=(s.data[k]!).toNat
theorem Jl (s:Z8) (k:Nat):Df s k<256:=UInt8.toNat_lt _
theorem Jei (s:Z8) (k:Nat) (h:k<s.size):s[k]=s.data[k]!:=by
 have h':k<s.data.size:=h;show s.data[k]=s.data[k]!;rw[getElem!_pos s.data k h']
theorem G0 (s:Z8) (k:Nat) (h:k<s.size):(s[k]).toNat=Df s k:=by rw[Jei s k h];rfl
def Ck (c:Nat):Bool:=decide (97<=c/\c<=122\/65<=c/\c<=90\/c=95\/c=36)
def Em (c:Nat):Bool:=decide (48<=c/\c<=57)
def L7 (c:Nat):Bool:=Ck c || Em c
def Vf (s:Z8):Nat->Nat->Nat
 | 0,i=>i
 | k+1,i=>if i<s.size/\L7 (Df s i)=true then Vf s k (i+1) else i
def F8 (s:Z8) (i:Nat):Nat:=Vf s (s.size - i) i
theorem Vg {s:Z8}{i:Nat}(h:i<s.size) (ha:L7 (Df s i)=true):F8 s i=F8 s (i+1):=by
 unfold F8;obtain⟨k,hk⟩:∃k,s.size - i=k+1:=⟨s.size - i - 1,by omega⟩;rw[hk,Vf,if_pos ⟨h,ha⟩]
 congr 1;omega
theorem Iz {s:Z8}{i:Nat}(ha:¬ (i<s.size/\L7 (Df s i)=true)):F8 s i=i:=by
 unfold F8
 cases hk:s.size - i with
 | zero=>rfl
 | succ k=>rw[Vf,if_neg ha]
theorem La (c:Nat) (w:World) (hc:c<256) :
  Calls Tryz.prog 86 #[.int .u8 c] w fun e w'=>e=.returned (.bool (Ck c))/\w=w':=by
 by_cases h1:97<=c
 ·by_cases h2:c<=122
  ·have D:=Hd (show Ck c=true by unfold Ck;simp;omega);have t1:((97:Int)<=c):=by omega
   have t2:((c:Int)<=122):=by omega
   go_enter Tryz.func86,Tryz.ntmps86
   go_wp2
   go_ret
   exact⟨by rw[D.o];rfl,rfl⟩
  ·have D:=Hd (show Ck c=false by unfold Ck;simp;omega);have t1:((97:Int)<=c):=by omega
   have t2:¬ ((c:Int)<=122):=by omega
   have t3:¬ ((c:Int)<=90):=by omega
   have t4:((c:Int) == 95)=false:=by simp;omega
   have t5:((c:Int) == 36)=false:=by simp;omega
   go_enter Tryz.func86,Tryz.ntmps86
   go_wp2
   go_ret
   exact⟨by rw[D.o];rfl,rfl⟩
 ·have t1:¬ ((97:Int)<=c):=by omega
  by_cases h3:65<=c/\c<=90
  ·have D:=Hd (show Ck c=true by unfold Ck;simp;omega);have t2:((65:Int)<=c):=by omega
   have t3:((c:Int)<=90):=by omega
   clear h3;go_enter Tryz.func86,Tryz.ntmps86
   go_wp2
   go_ret
   exact⟨by rw[D.o];rfl,rfl⟩
  ·have hh:(65:Int)<=c/\¬ (c:Int)<=90\/¬ (65:Int)<=c:=by omega
   by_cases h4:c=95
   ·have D:=Hd (show Ck c=true by unfold Ck;simp;omega);have t4:((c:Int) == 95)=true:=(by simp;omega);clear h3 h4;rcases hh with ⟨t2,t3⟩|t2
    all_goals
     go_enter Tryz.func86,Tryz.ntmps86
     go_wp2
     go_ret
     exact⟨by rw[D.o];rfl,rfl⟩
   ·have t4:((c:Int) == 95)=false:=(by simp;omega);by_cases h5:c=36
    ·have D:=Hd (show Ck c=true by unfold Ck;simp;omega);have t5:((c:Int) == 36)=true:=(by simp;omega);clear h3 h4 h5;rcases hh with ⟨t2,t3⟩|t2
     all_goals
      go_enter Tryz.func86,Tryz.ntmps86
      go_wp2
      go_ret
      exact⟨by rw[D.o];rfl,rfl⟩
    ·have D:=Hd (show Ck c=false by unfold Ck;simp;omega);have t5:((c:Int) == 36)=false:=(by simp;omega);clear h3 h4 h5;rcases hh with ⟨t2,t3⟩|t2
     all_goals
      go_enter Tryz.func86,Tryz.ntmps86
      go_wp2
      go_ret
      exact⟨by rw[D.o];rfl,rfl⟩
theorem Su (c:Nat) (w:World) (_hc:c<256) :
  Calls Tryz.prog 124 #[.int .u8 c] w fun e w'=>e=.returned (.bool (Em c))/\w=w':=by
 by_cases h1:48<=c
 ·have t1:((48:Int)<=c):=by omega
  by_cases h2:c<=57
  ·have D:=Hd (show Em c=true by unfold Em;simp;omega);have t2:((c:Int)<=57):=by omega
   go_enter Tryz.func124,Tryz.ntmps124
   go_wp2
   go_ret
   exact⟨by rw[D.o];rfl,rfl⟩
  ·have D:=Hd (show Em c=false by unfold Em;simp;omega);have t2:¬ ((c:Int)<=57):=by omega
   go_enter Tryz.func124,Tryz.ntmps124
   go_wp2
   go_ret
   exact⟨by rw[D.o];rfl,rfl⟩
 ·have t1:¬ ((48:Int)<=c):=by omega
  have D:=Hd (show Em c=false by unfold Em;simp;omega);go_enter Tryz.func124,Tryz.ntmps124
  go_wp2
  go_ret
  exact⟨by rw[D.o];rfl,rfl⟩
theorem Mr (c:Nat) (w:World) (hc:c<256) :
  Calls Tryz.prog 74 #[.int .u8 c] w fun e w'=>e=.returned (.bool (Ck c))/\w=w':=by
 by_cases h1:97<=c
 ·by_cases h2:c<=122
  ·have D:=Hd (show Ck c=true by unfold Ck;simp;omega);have t1:((97:Int)<=c):=by omega
   have t2:((c:Int)<=122):=by omega
   go_enter Tryz.func74,Tryz.ntmps74
   go_wp2
   go_ret
   exact⟨by rw[D.o];rfl,rfl⟩
  ·have D:=Hd (show Ck c=false by unfold Ck;simp;omega);have t1:((97:Int)<=c):=by omega
   have t2:¬ ((c:Int)<=122):=by omega
   have t3:¬ ((c:Int)<=90):=by omega
   have t4:((c:Int) == 95)=false:=by simp;omega
   have t5:((c:Int) == 36)=false:=by simp;omega
   go_enter Tryz.func74,Tryz.ntmps74
   go_wp2
   go_ret
   exact⟨by rw[D.o];rfl,rfl⟩
 ·have t1:¬ ((97:Int)<=c):=by omega
  by_cases h3:65<=c/\c<=90
  ·have D:=Hd (show Ck c=true by unfold Ck;simp;omega);have t2:((65:Int)<=c):=by omega
   have t3:((c:Int)<=90):=by omega
   clear h3;go_enter Tryz.func74,Tryz.ntmps74
   go_wp2
   go_ret
   exact⟨by rw[D.o];rfl,rfl⟩
  ·have hh:(65:Int)<=c/\¬ (c:Int)<=90\/¬ (65:Int)<=c:=by omega
   by_cases h4:c=95
   ·have D:=Hd (show Ck c=true by unfold Ck;simp;omega);have t4:((c:Int) == 95)=true:=(by simp;omega);clear h3 h4;rcases hh with ⟨t2,t3⟩|t2
    all_goals
     go_enter Tryz.func74,Tryz.ntmps74
     go_wp2
     go_ret
     exact⟨by rw[D.o];rfl,rfl⟩
   ·have t4:((c:Int) == 95)=false:=(by simp;omega);by_cases h5:c=36
    ·have D:=Hd (show Ck c=true by unfold Ck;simp;omega);have t5:((c:Int) == 36)=true:=(by simp;omega);clear h3 h4 h5;rcases hh with ⟨t2,t3⟩|t2
     all_goals
      go_enter Tryz.func74,Tryz.ntmps74
      go_wp2
      go_ret
      exact⟨by rw[D.o];rfl,rfl⟩
    ·have D:=Hd (show Ck c=false by unfold Ck;simp;omega);have t5:((c:Int) == 36)=false:=(by simp;omega);clear h3 h4 h5;rcases hh with ⟨t2,t3⟩|t2
     all_goals
      go_enter Tryz.func74,Tryz.ntmps74
      go_wp2
      go_ret
      exact⟨by rw[D.o];rfl,rfl⟩
theorem V4 (c:Nat) (w:World) (_hc:c<256) :
  Calls Tryz.prog 106 #[.int .u8 c] w fun e w'=>e=.returned (.bool (Em c))/\w=w':=by
 by_cases h1:48<=c
 ·have t1:((48:Int)<=c):=by omega
  by_cases h2:c<=57
  ·have D:=Hd (show Em c=true by unfold Em;simp;omega);have t2:((c:Int)<=57):=by omega
   go_enter Tryz.func106,Tryz.ntmps106
   go_wp2
   go_ret
   exact⟨by rw[D.o];rfl,rfl⟩
  ·have D:=Hd (show Em c=false by unfold Em;simp;omega);have t2:¬ ((c:Int)<=57):=by omega
   go_enter Tryz.func106,Tryz.ntmps106
   go_wp2
   go_ret
   exact⟨by rw[D.o];rfl,rfl⟩
 ·have t1:¬ ((48:Int)<=c):=by omega
  have D:=Hd (show Em c=false by unfold Em;simp;omega);go_enter Tryz.func106,Tryz.ntmps106
  go_wp2
  go_ret
  exact⟨by rw[D.o];rfl,rfl⟩
theorem Sn (s:Z8) (i:Nat) (w:World) (hs:s.size<=1000000000000000) (hi:i<=s.size) :
  Calls Tryz.prog 87 #[.string s,.int .i64 i] w fun e w'=>e=.returned (.int .i64 (F8 s i))/\w=w':=by
 go_enter Tryz.func87,Tryz.ntmps87
 go_wp2
 go_loop [1] (fun v=>∃k:Nat,i<=k/\k<=s.size/\v=.int .i64 k/\F8 s k=F8 s i) (fun v=>s.size - (intOf v).toNat)
 case atStart=>exact⟨i,by omega,hi,rfl,rfl⟩
 case round=>
  obtain⟨k,hD,hk,rfl,hc⟩:=hrel;have HC:=Hd hc;clear hc;by_cases hC:k<s.size
  ·have hb:=G0 s k hC;have hu:=Jl s k;have kl:=La (Df s k) w hu;have kd:=Su (Df s k) w hu;have hA:=Hd (Vg hC);have hB:=Hd (@Iz s k);unfold L7 at hA hB;generalize Df s k=b at *
   cases h1:Ck b with
   | true=>
    rw[h1]at kl;have KL:=Hd kl;have G:=Hd (hA.o (by rw[h1];rfl));clear kl kd h1 hA hB;go_wp2_with (go_at_call 86;refine KL.o.mono ?_;rintro e w1 ⟨rfl,rfl⟩)
    go_round
    case rel=>exact⟨k+1,by omega,by omega,by go_num,by rw[<-G.o,HC.o]⟩
    case measure=>simp[intOf];omega
   | false=>
    rw[h1]at kl;have KL:=Hd kl
    cases h2:Em b with
    | true=>
     rw[h2]at kd;have KD:=Hd kd;have G:=Hd (hA.o (by rw[h1,h2];rfl));clear kl kd h1 h2 hA hB;go_wp2_with (first|(go_at_call 86;refine KL.o.mono ?_;rintro e w1 ⟨rfl,rfl⟩)|(go_at_call 124;refine KD.o.mono ?_;rintro e w1 ⟨rfl,rfl⟩))
     go_round
     case rel=>exact⟨k+1,by omega,by omega,by go_num,by rw[<-G.o,HC.o]⟩
     case measure=>simp[intOf];omega
    | false=>
     rw[h2]at kd;have KD:=Hd kd;have G:=Hd (hB.o (by rw[h1,h2];simp));clear kl kd h1 h2 hA hB;go_wp2_with (first|(go_at_call 86;refine KL.o.mono ?_;rintro e w1 ⟨rfl,rfl⟩)|(go_at_call 124;refine KD.o.mono ?_;rintro e w1 ⟨rfl,rfl⟩));go_ret
     exact⟨Lw (by rw[<-HC.o,G.o]),rfl⟩
  ·obtain rfl:k=s.size:=by omega
   have G:=Hd (@Iz s s.size (by omega))
   go_wp2
   go_ret
   exact⟨Lw (by rw[<-HC.o,G.o]),rfl⟩
theorem Vl (s:Z8) (i:Nat) (w:World) (hs:s.size<=1000000000000000) (hi:i<=s.size) :
  Calls Tryz.prog 75 #[.string s,.int .i64 i] w fun e w'=>e=.returned (.int .i64 (F8 s i))/\w=w':=by
 go_enter Tryz.func75,Tryz.ntmps75
 go_wp2
 go_loop [1] (fun v=>∃k:Nat,i<=k/\k<=s.size/\v=.int .i64 k/\F8 s k=F8 s i) (fun v=>s.size - (intOf v).toNat)
 case atStart=>exact⟨i,by omega,hi,rfl,rfl⟩
 case round=>
  obtain⟨k,hD,hk,rfl,hc⟩:=hrel;have HC:=Hd hc;clear hc;by_cases hC:k<s.size
  ·have hb:=G0 s k hC;have hu:=Jl s k;have kl:=Mr (Df s k) w hu;have kd:=V4 (Df s k) w hu;have hA:=Hd (Vg hC);have hB:=Hd (@Iz s k);unfold L7 at hA hB;generalize Df s k=b at *
   cases h1:Ck b with
   | true=>
    rw[h1]at kl;have KL:=Hd kl;have G:=Hd (hA.o (by rw[h1];rfl));clear kl kd h1 hA hB;go_wp2_with (go_at_call 74;refine KL.o.mono ?_;rintro e w1 ⟨rfl,rfl⟩)
    go_round
    case rel=>exact⟨k+1,by omega,by omega,by go_num,by rw[<-G.o,HC.o]⟩
    case measure=>simp[intOf];omega
   | false=>
    rw[h1]at kl;have KL:=Hd kl
    cases h2:Em b with
    | true=>
     rw[h2]at kd;have KD:=Hd kd;have G:=Hd (hA.o (by rw[h1,h2];rfl));clear kl kd h1 h2 hA hB;go_wp2_with (first|(go_at_call 74;refine KL.o.mono ?_;rintro e w1 ⟨rfl,rfl⟩)|(go_at_call 106;refine KD.o.mono ?_;rintro e w1 ⟨rfl,rfl⟩))
     go_round
     case rel=>exact⟨k+1,by omega,by omega,by go_num,by rw[<-G.o,HC.o]⟩
     case measure=>simp[intOf];omega
    | false=>
     rw[h2]at kd;have KD:=Hd kd;have G:=Hd (hB.o (by rw[h1,h2];simp));clear kl kd h1 h2 hA hB;go_wp2_with (first|(go_at_call 74;refine KL.o.mono ?_;rintro e w1 ⟨rfl,rfl⟩)|(go_at_call 106;refine KD.o.mono ?_;rintro e w1 ⟨rfl,rfl⟩));go_ret
     exact⟨Lw (by rw[<-HC.o,G.o]),rfl⟩
  ·obtain rfl:k=s.size:=by omega
   have G:=Hd (@Iz s s.size (by omega))
   go_wp2
   go_ret
   exact⟨Lw (by rw[<-HC.o,G.o]),rfl⟩
def E6:List (List UInt8):=[[105,109,112,111,114,116],[102,114,111,109],[101,120,112,111,114,116],[116,121,112,101],[105,110,116,101,114,102,97,99,101],[99,108,97,115,115],[101,120,116,101,110,100,115],[105,109,112,108,101,109,101,110,116,115],[102,117,110,99,116,105,111,110],[99,111,110,115,116],[108,101,116],[109,117,116],[105,102],[101,108,115,101],[119,104,105,108,101],[114,101,116,117,114,110],[116,104,114,111,119],[116,114,121],[99,97,116,99,104],[110,101,119],[116,104,105,115],[116,114,117,101],[102,97,108,115,101],[110,117,108,108],[116,121,112,101,111,102],[97,115],[107,101,121,111,102],[105,110,102,101,114],[105,110],[97,110,121],[117,110,107,110,111,119,110],[110,101,118,101,114],[98,111,111,108,101,97,110],[110,117,109,98,101,114],[115,116,114,105,110,103]]
def Kj (l:List UInt8):Bool:=E6.any fun x=>l == x
theorem Jdu (l:List UInt8):Kj l=(l == [105,109,112,111,114,116] || (l == [102,114,111,109] || (l == [101,120,112,111,114,116] || (l == [116,121,112,101] || (l == [105,110,116,101,114,102,97,99,101] || (l == [99,108,97,115,115] || (l == [101,120,116,101,110,100,115] || (l == [105,109,112,108,101,109,101,110,116,115] || (l == [102,117,110,99,116,105,111,110] || (l == [99,111,110,115,116] || (l == [108,101,116] || (l == [109,117,116] || (l == [105,102] || (l == [101,108,115,101] || (l == [119,104,105,108,101] || (l == [114,101,116,117,114,110] || (l == [116,104,114,111,119] || (l == [116,114,121] || (l == [99,97,116,99,104] || (l == [110,101,119] || (l == [116,104,105,115] || (l == [116,114,117,101] || (l == [102,97,108,115,101] || (l == [110,117,108,108] || (l == [116,121,112,101,111,102] || (l == [97,115] || (l == [107,101,121,111,102] || (l == [105,110,102,101,114] || (l == [105,110] || (l == [97,110,121] || (l == [117,110,107,110,111,119,110] || (l == [110,101,118,101,114] || (l == [98,111,111,108,101,97,110] || (l == [110,117,109,98,101,114] || (l == [115,116,114,105,110,103] || false))))))))))))))))))))))))))))))))))):=rfl
theorem Ns (s:Z8) (w:World) :
  Calls Tryz.prog 88 #[.string s] w fun e w'=>e=.returned (.bool (Kj s.toList))/\w=w':=by
 have D:=Hd (Jdu s.toList);go_enter Tryz.func88,Tryz.ntmps88
 go_wp2
 all_goals first
  | (have h2:=‹_=false›;have h3:=h2.symm.trans (show _=true by assumption);exact absurd h3 (by decide))
  | (go_ret;exact⟨by rw[D.o];simp only[*,Bool.true_or,Bool.or_true,Bool.or_false];rfl,rfl⟩)
  | (go_ret;exact⟨by rw[D.o];simp only[*,Bool.true_or,Bool.or_true,Bool.or_false],rfl⟩)
def P1:List Value:=E6.map fun l=>Value.string ⟨l.toArray⟩
theorem Xr (w:World) :
  Calls Tryz.prog 107 #[] w fun e w'=>e=.returned (.slice (some ⟨w.heap.size,0,none⟩) 35 35)/\w'=w.alloc (.cells P1.toArray 9):=by
 go_enter Tryz.func107,Tryz.ntmps107
 go_wp2
 go_ret
 exact⟨rfl,rfl⟩
theorem T5 (w:World) (k:Nat) (h:k<35):(w.alloc (.cells P1.toArray 9)).cell? ⟨w.heap.size,k,none⟩=some (.string ⟨(E6.getD k []).toArray⟩):=by
 rw[World.cell?_alloc_at _ _ _ _ rfl];have h1:k<E6.length:=h;simp[P1,List.getD_eq_getElem?_getD,List.getElem?_eq_getElem h1]
theorem Py (s:Z8) (w:World) :
  Calls Tryz.prog 76 #[.string s] w fun e w'=>e=.returned (.bool (Kj s.toList))/\Below w.heap.size w w':=by
 have K:=Hd (Xr w);have C:=Hd (T5 w);have HB:=Hd ((Below.refl w.heap.size w).alloc (Nat.le_refl _) (.cells P1.toArray 9));go_enter Tryz.func76,Tryz.ntmps76;go_wp2_with fail;refine K.o.mono ?_;rintro e w1 ⟨rfl,hE⟩;rw[<-hE]at HB C;clear hE;go_wp2_with fail
 go_loop [4] (fun v=>∃k:Nat,k<=35/\v=.int .i64 k/\∀j,j<k->(s.toList == E6.getD j [])=false) (fun v=>35 - (intOf v).toNat)
 case atStart=>exact⟨0,by omega,by go_num,fun j h=>absurd h (by omega)⟩
 case round=>
  obtain⟨k,hk,rfl,hC⟩:=hrel;have HN:=Hd hC;clear hC;by_cases hB:k<35
  ·have f1:=C.o k hB;have hA:E6.getD k []∈E6:=by
    rw[List.getD_eq_getElem?_getD,List.getElem?_eq_getElem (show k<E6.length from hB)];exact List.getElem_mem _
   cases hq:(s.toList == E6.getD k []) with
   | true=>
    have HR:=Hd (show Kj s.toList=true from List.any_eq_true.2 ⟨_,hA,hq⟩);clear hA;have hD:(E6.getD k [] == s.toList)=true:=(by rw[beq_iff_eq]at hq ⊢;exact hq.symm);generalize E6.getD k []=x at *;clear hq;go_wp2_with fail;go_ret
    exact⟨by rw[HR.o];rfl,HB.o⟩
   | false=>
    have HN':Z9 (∀j,j<k+1->(s.toList == E6.getD j [])=false):=Hd (fun j hj=>by
     rcases Nat.lt_or_ge j k with h|h
     ·exact HN.o j h
     ·obtain rfl:j=k:=by omega
      exact hq)
    clear hA;have hD:(E6.getD k [] == s.toList)=false:=by
     cases h:(E6.getD k [] == s.toList) with
     | false=>rfl
     | true=>rw[beq_iff_eq]at h;rw[h]at hq;simp at hq
    generalize E6.getD k []=x at f1 hD;clear hq;go_wp2_with fail
    go_round
    case rel=>exact⟨k+1,by omega,by go_num,HN'.o⟩
    case measure=>simp[intOf];omega
  ·obtain rfl:k=35:=by omega
   have HR:=Hd (show Kj s.toList=false from by
    rw[Kj,List.any_eq_false];intro x hx;obtain⟨j,hj,rfl⟩:=List.getElem_of_mem hx;have:=HN.o j hj;rw[List.getD_eq_getElem?_getD,List.getElem?_eq_getElem hj]at this;simpa using this)
   go_wp2_with fail;go_ret
   exact⟨by rw[HR.o];rfl,HB.o⟩
theorem toList_eq (s:Z8):s.toList=s.data.toList:=ByteArray.toList_eq s
theorem Nd {s:Z8}(h:s.size=0):s.toList=[]:=by
 rw[toList_eq];exact List.eq_nil_of_length_eq_zero (by simpa using h)
theorem M8 {s:Z8}(h:s.toList=[]):s.size=0:=by
 rw[toList_eq]at h;have:=congrArg List.length h;simpa using this
def Ok (s:Z8):Bool:=decide (0<s.size) && Ck (Df s 0) && (F8 s 0 == s.size) && !Kj s.toList
theorem Rr (s:Z8) (w:World) (hs:s.size<=1000000000000000) :
  Calls Tryz.prog 51 #[.string s] w fun e w'=>e=.returned (.bool (Ok s))/\Below w.heap.size w w':=by
 by_cases h0:s.size=0
 ·have D:=Hd (show Ok s=false by simp[Ok,h0]);have t0:s.toList=[]:=Nd h0;have t1:s.toList.isEmpty=true:=by rw[t0];rfl
  go_enter Tryz.func51,Tryz.ntmps51
  go_wp2
  go_ret
  exact⟨by rw[D.o];rfl,Below.refl _ _⟩
 ·have t0:¬ s.toList=[]:=fun h=>h0 (M8 h);have t1:s.toList.isEmpty=false:=by simpa using t0
  have hp:0<s.size:=by omega
  have hb:=G0 s 0 hp;have hu:=Jl s 0;have kl:=La (Df s 0) w hu
  cases h1:Ck (Df s 0) with
  | false=>
   have D:=Hd (show Ok s=false by simp[Ok,h1]);rw[h1]at kl;have KL:=Hd kl;clear kl h1 t0;generalize Df s 0=b at *;go_enter Tryz.func51,Tryz.ntmps51;go_wp2_with (go_at_call 86;refine KL.o.mono ?_;rintro e w1 ⟨rfl,rfl⟩);go_ret
   exact⟨by rw[D.o];rfl,Below.refl _ _⟩
  | true=>
   rw[h1]at kl;have KL:=Hd kl;have KW:=Hd (Sn s 0 w hs (by omega));have HD:=Hd (show Ok s=((F8 s 0 == s.size) && !Kj s.toList) by simp[Ok,h1,hp]);clear kl h1 t0;generalize Df s 0=b at *;generalize hn:F8 s 0=n at *;clear hn;by_cases hq:n=s.size
   ·subst hq;have D:=Hd (show Ok s = !Kj s.toList by rw[HD.o];simp);clear HD;have t3:(((s.size:Nat):Int) == (s.size:Int))=true:=(by simp);have KR:=Hd (Ns s w)
    cases hr:Kj s.toList with
    | true=>
     rw[hr]at KR D;clear hr;go_enter Tryz.func51,Tryz.ntmps51;go_wp2_with (first|(go_at_call 86;refine KL.o.mono ?_;rintro e w1 ⟨rfl,rfl⟩)|(go_at_call 87;refine KW.o.mono ?_;rintro e w1 ⟨rfl,rfl⟩)|(go_at_call 88;refine KR.o.mono ?_;rintro e w1 ⟨rfl,rfl⟩));go_ret
     exact⟨by rw[D.o];rfl,(Below.refl _ _)⟩
    | false=>
     rw[hr]at KR D;clear hr;go_enter Tryz.func51,Tryz.ntmps51;go_wp2_with (first|(go_at_call 86;refine KL.o.mono ?_;rintro e w1 ⟨rfl,rfl⟩)|(go_at_call 87;refine KW.o.mono ?_;rintro e w1 ⟨rfl,rfl⟩)|(go_at_call 88;refine KR.o.mono ?_;rintro e w1 ⟨rfl,rfl⟩));go_ret
     exact⟨by rw[D.o];rfl,(Below.refl _ _)⟩
   ·have D:=Hd (show Ok s=false by rw[HD.o];simp[hq]);clear HD;have t3:((n:Int) == (s.size:Int))=false:=(by simp;omega);go_enter Tryz.func51,Tryz.ntmps51;go_wp2_with (first|(go_at_call 86;refine KL.o.mono ?_;rintro e w1 ⟨rfl,rfl⟩)|(go_at_call 87;refine KW.o.mono ?_;rintro e w1 ⟨rfl,rfl⟩));go_ret
    exact⟨by rw[D.o];rfl,Below.refl _ _⟩
theorem Tf (s:Z8) (w:World) (hs:s.size<=1000000000000000) :
  Calls Tryz.prog 39 #[.string s] w fun e w'=>e=.returned (.bool (Ok s))/\Below w.heap.size w w':=by
 by_cases h0:s.size=0
 ·have D:=Hd (show Ok s=false by simp[Ok,h0]);have t0:s.toList=[]:=Nd h0;have t1:s.toList.isEmpty=true:=by rw[t0];rfl
  go_enter Tryz.func39,Tryz.ntmps39
  go_wp2
  go_ret
  exact⟨by rw[D.o];rfl,Below.refl _ _⟩
 ·have t0:¬ s.toList=[]:=fun h=>h0 (M8 h);have t1:s.toList.isEmpty=false:=by simpa using t0
  have hp:0<s.size:=by omega
  have hb:=G0 s 0 hp;have hu:=Jl s 0;have kl:=Mr (Df s 0) w hu
  cases h1:Ck (Df s 0) with
  | false=>
   have D:=Hd (show Ok s=false by simp[Ok,h1]);rw[h1]at kl;have KL:=Hd kl;clear kl h1 t0;generalize Df s 0=b at *;go_enter Tryz.func39,Tryz.ntmps39;go_wp2_with (go_at_call 74;refine KL.o.mono ?_;rintro e w1 ⟨rfl,rfl⟩);go_ret
   exact⟨by rw[D.o];rfl,Below.refl _ _⟩
  | true=>
   rw[h1]at kl;have KL:=Hd kl;have KW:=Hd (Vl s 0 w hs (by omega));have HD:=Hd (show Ok s=((F8 s 0 == s.size) && !Kj s.toList) by simp[Ok,h1,hp]);clear kl h1 t0;generalize Df s 0=b at *;generalize hn:F8 s 0=n at *;clear hn;by_cases hq:n=s.size
   ·subst hq;have D:=Hd (show Ok s = !Kj s.toList by rw[HD.o];simp);clear HD;have t3:(((s.size:Nat):Int) == (s.size:Int))=true:=(by simp);have KR:=Hd (Py s w)
    cases hr:Kj s.toList with
    | true=>
     rw[hr]at KR D;clear hr;go_enter Tryz.func39,Tryz.ntmps39;go_wp2_with (first|(go_at_call 74;refine KL.o.mono ?_;rintro e w1 ⟨rfl,rfl⟩)|(go_at_call 75;refine KW.o.mono ?_;rintro e w1 ⟨rfl,rfl⟩)|(go_at_call 76;refine KR.o.mono ?_;rintro e w1 ⟨rfl,hA⟩));go_ret
     exact⟨by rw[D.o];rfl,hA⟩
    | false=>
     rw[hr]at KR D;clear hr;go_enter Tryz.func39,Tryz.ntmps39;go_wp2_with (first|(go_at_call 74;refine KL.o.mono ?_;rintro e w1 ⟨rfl,rfl⟩)|(go_at_call 75;refine KW.o.mono ?_;rintro e w1 ⟨rfl,rfl⟩)|(go_at_call 76;refine KR.o.mono ?_;rintro e w1 ⟨rfl,hA⟩));go_ret
     exact⟨by rw[D.o];rfl,hA⟩
   ·have D:=Hd (show Ok s=false by rw[HD.o];simp[hq]);clear HD;have t3:((n:Int) == (s.size:Int))=false:=(by simp;omega);go_enter Tryz.func39,Tryz.ntmps39;go_wp2_with (first|(go_at_call 74;refine KL.o.mono ?_;rintro e w1 ⟨rfl,rfl⟩)|(go_at_call 75;refine KW.o.mono ?_;rintro e w1 ⟨rfl,rfl⟩));go_ret
    exact⟨by rw[D.o];rfl,Below.refl _ _⟩
def Lm (l:List Ty):Prop:=l.Pairwise fun a b=>B5 a b = -1
theorem U6 {a b:Ty}(h:B5 a b=1):B5 b a = -1:=by rw[Es,h]
theorem Hk:∀ {l l':List Ty},Lm l->Lm l'->(∀x,x∈l↔x∈l')->l=l'
 | [],[],_,_,_=>rfl
 | [],b :: l',_,_,h=>absurd ((h b).2 (List.mem_cons_self ..)) (by simp)
 | a :: l,[],_,_,h=>absurd ((h a).1 (List.mem_cons_self ..)) (by simp)
 | a :: l,b :: l',h,h',hm=>by
  obtain⟨h1,h2⟩:=List.pairwise_cons.1 h;obtain⟨h1',h2'⟩:=List.pairwise_cons.1 h';have hA:a=b:=by
   rcases List.mem_cons.1 ((hm a).1 (List.mem_cons_self ..)) with e|e
   ·exact e
   ·rcases List.mem_cons.1 ((hm b).2 (List.mem_cons_self ..)) with e'|e'
    ·exact e'.symm
    ·have x1:=h1' a e;have x2:=h1 b e';rw[Es,x2]at x1
     cases x1
  subst hA;have ht:∀x,x∈l↔x∈l':=by
   intro x
   constructor
   ·intro hx;rcases List.mem_cons.1 ((hm x).1 (List.mem_cons_of_mem _ hx)) with e|e
    ·subst e;have:=h1 x hx;rw[C5.2 rfl]at this
     cases this
    ·exact e
   ·intro hx;rcases List.mem_cons.1 ((hm x).2 (List.mem_cons_of_mem _ hx)) with e|e
    ·subst e;have:=h1' x hx;rw[C5.2 rfl]at this
     cases this
    ·exact e
  rw[Hk h2 h2' ht]
def Fv (t:Ty):List Ty->List Ty
 | []=>[t]
 | a :: l=>if B5 t a = -1 then t :: a :: l else if B5 t a=0 then a :: l else a :: Fv t l
theorem Dw (t x:Ty):∀l,x∈Fv t l↔x=t\/x∈l
 | []=>by simp[Fv]
 | a :: l=>by
  rw[Fv]
  split
  ·simp
  ·split
   ·rename_i h;have:=C5.1 h;subst this;simp
   ·simp only[List.mem_cons,Dw t x l]
    constructor
    ·rintro (h|h|h)
     ·exact .inr (.inl h)
     ·exact .inl h
     ·exact .inr (.inr h)
    ·rintro (h|h|h)
     ·exact .inr (.inl h)
     ·exact .inl h
     ·exact .inr (.inr h)
theorem D3 (t:Ty):∀ {l},Lm l->Lm (Fv t l)
 | [],_=>by simp[Fv,Lm]
 | a :: l,h=>by
  obtain⟨h1,h2⟩:=List.pairwise_cons.1 h;rw[Fv]
  split
  ·rename_i hA;refine List.pairwise_cons.2 ⟨fun x hx=>?_,h⟩;rcases List.mem_cons.1 hx with rfl|hx
   ·exact hA
   ·exact Fx hA (h1 x hx)
  ·split
   ·exact h
   ·rename_i h3 h4;refine List.pairwise_cons.2 ⟨fun x hx=>?_,D3 t h2⟩;rcases (Dw t x l).1 hx with rfl|hx
    ·rcases Gb x a with e|e|e
     ·exact absurd e h3
     ·exact absurd e h4
     ·exact U6 e
    ·exact h1 x hx
def Eh (l:List Ty):List Ty:=l.foldr Fv []
theorem G9 (x:Ty):∀l,x∈Eh l↔x∈l
 | []=>by simp[Eh]
 | a :: l=>by
  show x∈Fv a (Eh l)↔_;rw[Dw,G9 x l,List.mem_cons]
theorem Ii:∀l,Lm (Eh l)
 | []=>by simp[Eh,Lm]
 | a :: l=>D3 a (Ii l)
theorem Hh {l s:List Ty}(h:Lm s) (hm:∀x,x∈s↔x∈l):Eh l=s:=
 Hk (Ii l) h fun x=>(G9 x l).trans (hm x).symm
theorem Tt {l:List Ty}(h:Lm l):Eh l=l:=Hh h fun _=>Iff.rfl
def Ds:Ty->List Ty
 | .mk k t n ps fs vs=>if k=15 then (ps.attach.map fun ⟨p,_⟩=>Ds p).flatten else [.mk k t n ps fs vs]
termination_by t=>SizeOf.sizeOf t
decreasing_by exact D2 ‹_›
def Bz (l:List Ty):List Ty:=(l.map Ds).flatten
theorem C6 (k t n ps fs vs):Ds (.mk k t n ps fs vs)=if k=15 then Bz ps else [.mk k t n ps fs vs]:=by
 rw[Ds];unfold Bz;simp only[List.map_attach_eq_pmap,List.pmap_eq_map]
theorem I9 (a:Ty) (l:List Ty):Bz (a :: l)=Ds a++Bz l:=by simp[Bz]
theorem Oc (a l:List Ty):Bz (a++l)=Bz a++Bz l:=by simp[Bz]
def D6 (k:Int) (l:List Ty):Bool:=l.any fun t=>t.k == k
def Fg:Ty->Bool
 | .mk k _ _ ps fs _=>k == 22 || (ps.attach.mapIdx fun i ⟨p,_⟩=>!(k == 21 && i == 1) && Fg p).any id || (fs.attach.map fun ⟨f,_⟩=>Fg f.2.2).any id
termination_by t=>SizeOf.sizeOf t
decreasing_by
 ·exact D2 ‹_›
 ·exact Ei ‹_›
def G7 (k:Int):Nat->List Ty->Bool
 | _,[]=>false
 | i,p :: l=>(!(k == 21 && i == 1) && Fg p) || G7 k (i+1) l
def I0 (l:Bx):Bool:=l.any fun f=>Fg f.2.2
theorem L8 {α:Type}(k:Int) (g:α->Ty):∀(l:List α) (j:Nat),(l.mapIdx fun i p=>!(k == 21 && (i+j) == 1) && Fg (g p)).any id=G7 k j (l.map g)
 | [],_=>rfl
 | a :: l,j=>by
  rw[List.mapIdx_cons,List.any_cons,List.map_cons,G7,<-L8 k g l (j+1)];simp only[Nat.zero_add,id_eq,Nat.add_assoc,Nat.add_comm 1 j]
theorem Pq (k t n ps fs vs):Fg (.mk k t n ps fs vs)=(k == 22 || G7 k 0 ps || I0 fs):=by
 rw[Fg];have h:=L8 k (fun p:{x // x∈ps}=>p.1) ps.attach 0;simp only[Nat.add_zero]at h;rw[h];unfold I0;simp only[List.map_attach_eq_pmap,List.pmap_eq_map,List.any_map,List.map_id'];rfl
structure El where
 a:Bool
 u:Bool
 n:Bool
 s:Bool
def D1 (l:List Ty):El:=⟨D6 3 l,D6 2 l,D6 7 l,D6 8 l⟩
def Fa (h:El) (t:Ty):Bool:=
 if t.k=1 then false else if t.k=3 then true else if t.k=2/\h.a=false then true else if h.a=true\/h.u=true then Fg t else if t.k=9 then !h.n else if t.k=10 then !h.s else true
def Gv (l:List Ty):List Ty:=(Bz l).filter (Fa (D1 (Bz l)))
def Bv:Z8:=⟨#[]⟩
def Hi (k:Int):Ty:=.mk k Bv 0 [] [] []
def Jz:List Ty->Ty
 | []=>Hi 1
 | [x]=>x
 | x :: y :: l=>.mk 15 Bv 0 (x :: y :: l) [] []
def E5 (l:List Ty):Ty:=Jz (Eh (Gv l))
theorem Θ (s:Z8) (w:World):Calls Tryz.prog 180 #[.string s] w fun e w'=>e=.returned (.bool false)/\w=w':=by
 go_enter Tryz.func180,Tryz.ntmps180;go_wp2_with fail;go_ret
 exact⟨rfl,rfl⟩
theorem Γ (x:Int) (w:World):Calls Tryz.prog 179 #[.int .i64 x] w fun e w'=>e=.returned (.bool false)/\w=w':=by
 go_enter Tryz.func179,Tryz.ntmps179;go_wp2_with fail;go_ret
 exact⟨rfl,rfl⟩
theorem Δ (x:Int) (w:World):Calls Tryz.prog 181 #[.int .i64 x] w fun e w'=>e=.returned (.bool false)/\w=w':=by
 go_enter Tryz.func181,Tryz.ntmps181;go_wp2_with fail;go_ret
 exact⟨rfl,rfl⟩
theorem Mq (a b:Z8):Op.bytesLess a.toList b.toList=decide (a.data.toList<b.data.toList):=by
 rw[bytesLess_eq,ByteArray.toList_eq,ByteArray.toList_eq]
theorem Uw (a b:Z8):(!(Op.bytesLess a.toList b.toList || a.toList == b.toList))=decide (b.data.toList<a.data.toList):=by
 rw[Mq,ByteArray.toList_eq,ByteArray.toList_eq,Bool.eq_iff_iff];simp only[Bool.not_eq_true',Bool.or_eq_false_iff,decide_eq_false_iff_not,beq_eq_false_iff_ne,ne_eq,decide_eq_true_eq]
 constructor
 ·rintro⟨h1,h2⟩;rcases Classical.em (b.data.toList<a.data.toList) with h|h
  ·exact h
  ·exact absurd (Nf h1 h) h2
 ·intro h;exact⟨fun h'=>List.lt_irrefl _ (List.lt_trans h h'),fun e=>by rw[e]at h;exact List.lt_irrefl _ h⟩
theorem J3 (a b:Z8) (w:World):Calls Tryz.prog 143 #[.string a,.string b] w fun e w'=>e=.returned (.int .i64 (Dv a b))/\w=w':=by
 have l:=Mq a b;have g:=Uw a b;unfold Dv;by_cases h1:a.data.toList<b.data.toList
 ·rw[decide_eq_true h1]at l;rw[if_pos h1];clear h1 g;go_enter Tryz.func143,Tryz.ntmps143;go_wp2_with (go_at_call 180;refine (Θ _ _).mono ?_;rintro e w2 ⟨rfl,rfl⟩);go_ret
  exact⟨rfl,rfl⟩
 ·rw[decide_eq_false h1]at l;rw[if_neg h1];by_cases h2:b.data.toList<a.data.toList
  ·have e:(a.toList == b.toList)=false:=by
    rw[ByteArray.toList_eq,ByteArray.toList_eq];exact beq_eq_false_iff_ne.2 (fun e=>by rw[e]at h2;exact List.lt_irrefl _ h2)
   rw[if_pos h2];clear h1 h2 g;go_enter Tryz.func143,Tryz.ntmps143;go_wp2_with (go_at_call 180;refine (Θ _ _).mono ?_;rintro e w2 ⟨rfl,rfl⟩);go_ret
   exact⟨rfl,rfl⟩
  ·obtain rfl:a=b:=E7 (Nf h1 h2);rw[if_neg h2];clear h1 h2 g;go_enter Tryz.func143,Tryz.ntmps143;go_wp2_with (go_at_call 180;refine (Θ _ _).mono ?_;rintro e w2 ⟨rfl,rfl⟩);go_ret
   exact⟨rfl,rfl⟩
theorem E8 (a b:Int) (w:World):Calls Tryz.prog 142 #[.int .i64 a,.int .i64 b] w fun e w'=>e=.returned (.int .i64 (Dp a b))/\w=w':=by
 unfold Dp;by_cases h1:a<b
 ·rw[if_pos h1];go_enter Tryz.func142,Tryz.ntmps142;go_wp2_with (go_at_call 179;refine (Γ _ _).mono ?_;rintro e w2 ⟨rfl,rfl⟩);go_ret
  exact⟨rfl,rfl⟩
 ·rw[if_neg h1];by_cases h2:b<a
  ·rw[if_pos h2];have t1:decide (a<b)=false:=decide_eq_false h1;go_enter Tryz.func142,Tryz.ntmps142;go_wp2_with (go_at_call 179;refine (Γ _ _).mono ?_;rintro e w2 ⟨rfl,rfl⟩);go_ret
   exact⟨rfl,rfl⟩
  ·rw[if_neg h2];obtain rfl:a=b:=by omega
   clear h1 h2;go_enter Tryz.func142,Tryz.ntmps142;go_wp2_with (go_at_call 179;refine (Γ _ _).mono ?_;rintro e w2 ⟨rfl,rfl⟩);go_ret
   exact⟨rfl,rfl⟩
theorem V2 (a b:Int) (w:World):Calls Tryz.prog 144 #[.int .i64 a,.int .i64 b] w fun e w'=>e=.returned (.int .i64 (Dp a b))/\w=w':=by
 unfold Dp;by_cases h1:a<b
 ·rw[if_pos h1];go_enter Tryz.func144,Tryz.ntmps144;go_wp2_with (go_at_call 181;refine (Δ _ _).mono ?_;rintro e w2 ⟨rfl,rfl⟩);go_ret
  exact⟨rfl,rfl⟩
 ·rw[if_neg h1];by_cases h2:b<a
  ·rw[if_pos h2];have t1:decide (a<b)=false:=decide_eq_false h1;go_enter Tryz.func144,Tryz.ntmps144;go_wp2_with (go_at_call 181;refine (Δ _ _).mono ?_;rintro e w2 ⟨rfl,rfl⟩);go_ret
   exact⟨rfl,rfl⟩
  ·rw[if_neg h2];obtain rfl:a=b:=by omega
   clear h1 h2;go_enter Tryz.func144,Tryz.ntmps144;go_wp2_with (go_at_call 181;refine (Δ _ _).mono ?_;rintro e w2 ⟨rfl,rfl⟩);go_ret
   exact⟨rfl,rfl⟩
theorem Jeq (g:Nat) (a b:Int) (w:World) (h0:w.cell? ⟨g,0,none⟩=some (.int .i64 a)) (h1:w.cell? ⟨g,1,none⟩=some (.int .i64 b)) :
  Calls Tryz.prog 141 #[.slice (some ⟨g,0,none⟩) 2 2] w fun e w'=>e=.returned (.int .i64 (Fw a b))/\w=w':=by
 unfold Fw;by_cases ha:a=0
 case neg=>
  have ta:(a != 0)=true:=by simpa using ha
  rw[if_pos ha];go_enter Tryz.func141,Tryz.ntmps141
  go_wp2
  go_rounds 1
  go_ret
  exact⟨rfl,rfl⟩
 subst ha;rw[if_neg (by simp)];by_cases hb:b=0
 case neg=>
  have tb:(b != 0)=true:=by simpa using hb
  go_enter Tryz.func141,Tryz.ntmps141
  go_wp2
  go_rounds 2
  go_ret
  exact⟨rfl,rfl⟩
 subst hb;go_enter Tryz.func141,Tryz.ntmps141
 go_wp2
 go_rounds 3
 go_ret
 exact⟨rfl,rfl⟩
theorem Jer (g:Nat) (a b c:Int) (w:World) (h0:w.cell? ⟨g,0,none⟩=some (.int .i64 a)) (h1:w.cell? ⟨g,1,none⟩=some (.int .i64 b)) (h2:w.cell? ⟨g,2,none⟩=some (.int .i64 c)) :
  Calls Tryz.prog 141 #[.slice (some ⟨g,0,none⟩) 3 3] w fun e w'=>e=.returned (.int .i64 (Fw a (Fw b c)))/\w=w':=by
 unfold Fw;by_cases ha:a=0
 case neg=>
  have ta:(a != 0)=true:=by simpa using ha
  rw[if_pos ha];go_enter Tryz.func141,Tryz.ntmps141
  go_wp2
  go_rounds 1
  go_ret
  exact⟨rfl,rfl⟩
 subst ha;rw[if_neg (by simp)];by_cases hb:b=0
 case neg=>
  have tb:(b != 0)=true:=by simpa using hb
  rw[if_pos hb];go_enter Tryz.func141,Tryz.ntmps141
  go_wp2
  go_rounds 2
  go_ret
  exact⟨rfl,rfl⟩
 subst hb;rw[if_neg (by simp)];by_cases hc:c=0
 case neg=>
  have tc:(c != 0)=true:=by simpa using hc
  go_enter Tryz.func141,Tryz.ntmps141
  go_wp2
  go_rounds 3
  go_ret
  exact⟨rfl,rfl⟩
 subst hc;go_enter Tryz.func141,Tryz.ntmps141
 go_wp2
 go_rounds 4
 go_ret
 exact⟨rfl,rfl⟩
theorem Jea {a b c:Ty}(hx:B5 a b<=0) (hy:B5 b c<=0):B5 a c<=0:=by
 rcases Gb a b with x|x|x
 ·rcases Gb b c with y|y|y
  ·rw[Fx x y];decide
  ·rw[C5]at y;subst y;rw[x];decide
  ·rw[y]at hy;omega
 ·rw[C5]at x;subst x;exact hy
 ·rw[x]at hx;omega
theorem Jcb {a b c:Ty}(hx:0<=B5 a b) (hy:0<=B5 b c):0<=B5 a c:=by
 have:=Jea (a:=c) (b:=b) (c:=a) (by rw[Es];omega) (by rw[Es];omega);rw[Es]at this;omega
open Go.RowKit Go.ChangeShapes Go.WideShapes Go.Deep
theorem Ig {H:Type}{P:Program}{e:TypeId}{x:Nat}:∀ {l:List (DataW H)}{d:DataW H},d∈l->x∈d.weights P e->x∈DataW.weightsAll P e l:=by
 intro l
 induction l with
 | nil=>intro d h;cases h
 | cons a l ih=>
  intro d h hx;unfold DataW.weightsAll;rcases List.mem_cons.1 h with rfl|h
  ·exact List.mem_append_left _ hx
  ·exact List.mem_append_right _ (ih h hx)
theorem I5 {α:Type}{C:Nat->α->Prop}{n:Nat}(h:∀j,j<n->∃x,C j x):∃l:List α,l.length=n/\∀i (hi:i<l.length),C i l[i]:=
 ⟨List.ofFn fun (i:Fin n)=>(h i i.2).choose,by simp,fun i hi=>by
  simp only[List.getElem_ofFn];exact (h i (by simpa using hi)).choose_spec⟩
theorem H8 (a:Addr) (x y:Nat):(a.add x).add y=a.add (x+y):=by
 unfold Addr.add;by_cases hx:x=0 <;> by_cases hy:y=0 <;> simp[hx,hy,Nat.add_assoc] <;> omega
theorem Jj (b o n:Nat):(⟨b,o,none⟩:Addr).add n=⟨b,o+n,none⟩:=by
 unfold Addr.add
 split
 ·rename_i h;subst h;rfl
 ·rfl
set_option maxRecDepth 100000
theorem Pb:Tryz.prog.cellsOf 26=6:=by kernel_rfl
theorem Jbe:Tryz.prog.cellsOf 59=8:=by kernel_rfl
theorem Jbf:Tryz.prog.cellsOf 62=2:=by kernel_rfl
theorem Ja4:Tryz.prog.bytesOf 26=104:=by kernel_rfl
theorem Ja5:Tryz.prog.bytesOf 59=128:=by kernel_rfl
theorem Ja6:Tryz.prog.bytesOf 62=40:=by kernel_rfl
theorem Jda:Tryz.prog.cellsOf 3=1:=by kernel_rfl
theorem Ja7:Tryz.prog.cellsOf 2=1:=by kernel_rfl
theorem X5:Tryz.prog.cellsOf 9=1:=by kernel_rfl
theorem Jd4:Tryz.prog.cellsOf 22=1:=by kernel_rfl
theorem Jd5:Tryz.prog.cellsOf 23=1:=by kernel_rfl
theorem Jd6:Tryz.prog.cellsOf 24=1:=by kernel_rfl
theorem Gg:reachBytes<=1000000000000000:=by decide
theorem Tq {ad:Addr}{W:World}{len cap n0:Nat}(hl:len<=cap) (hc:cap<=1000000000000000) (h0:0<len->(W.cell? (ad.add n0)).isSome=true/\n0=0):∃b o,Fd (fun _=>True) (some ad) len cap b o/\(0<len->ad=⟨b,o,none⟩):=by
 rcases Nat.eq_zero_or_pos len with h|h
 ·subst h;exact⟨0,0,⟨hl,Nat.le_trans hl hc,(fun h=>by cases h),fun h=>absurd h (by omega)⟩,fun h=>absurd h (by omega)⟩
 ·obtain⟨h1,rfl⟩:=h0 h;obtain⟨v,hv⟩:=Option.isSome_iff_exists.1 h1;have hs:=World.cell?_spot hv;obtain⟨b,o,sp⟩:=ad;have:sp=none:=by simpa [Addr.add] using hs
  subst this;exact⟨b,o,⟨hl,Nat.le_trans hl hc,(fun h=>by cases h),fun _=>⟨rfl,trivial⟩⟩,fun _=>rfl⟩

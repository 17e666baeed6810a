import Derived.Test.YtlpfpehegddcfaaGreatDoorMx16
import Derived.Defers
import Derived.Maps.Range
import Derived.Sort.KeysCollected
namespace Go.Proofs.YtlpfpehegddcfaaGreatDoor
set_option maxRecDepth 100000
set_option maxHeartbeats 64000000
open Go.RowKit
def I1 (l:List Ty):Bool:=l.all fun t=>t.k == 13
theorem ι {K:Nat->Prop}{w:World}{l:List Ty}{A:Option Addr}{c:Nat}(hL:Bk K w l A c) :
  Calls Tryz.prog 73 #[.slice A l.length c] w fun e w'=>e=.returned (.bool (I1 l))/\w'=w:=by
 have HL:=Hd hL;have hH:=hL.short;clear hL;go_enter Tryz.func73,Tryz.ntmps73;go_wp2_with fail
 go_loopw [3] (fun v wr=>∃(i:Nat),i<=l.length/\v=.int .i64 i/\I1 l=I1 (l.drop i)/\wr=w) (fun v _=>l.length - (intOf v).toNat)
 case atStart=>exact⟨0,by omega,rfl,by rw[List.drop_zero],rfl⟩
 case round=>
  obtain⟨i,hi,rfl,he,rfl⟩:=hrel;have HE:=Hd he;clear he;by_cases hB:i<l.length
  ·have t1:decide ((i:Int)<(l.length:Int))=true:=by simp;omega
   have hD:wrap64 ((i:Int)+1)=((i+1:Nat):Int):=Ba (by omega);obtain⟨b,o,hA,_,hC⟩:=HL.o.at (by omega);subst hA;obtain⟨q,hq,hG⟩:∃q,(l[i]'hB).k=q/\wr.cell? ⟨b,o+i*6,none⟩=some (.int .i64 q):=by
    have h1:=hC i hB;generalize l[i]=t at h1;obtain⟨k,s,n,ps,fs,vs⟩:=t;obtain⟨_,_,_,_,_,_,⟨x0,_⟩,_⟩:=h1.six;exact⟨k,rfl,x0⟩
   have HS:Z9 (I1 (l.drop i)=((l[i]'hB).k == 13 && I1 (l.drop (i+1)))):=Hd (by rw[List.drop_eq_getElem_cons hB];rfl);have HM:=Hd (Bg hB);have hF:Z9 (i+1<=l.length):=Hd hB;by_cases hk:q=13
   ·have HK:Z9 (((l[i]'hB).k == 13)=true):=Hd (by rw[hq];simpa using hk);have e13:(q != 13)=false:=(by simpa using hk);clear hC hi hq hk;go_wp2_with fail;refine⟨⟨i+1,hF.o,by first|rfl|rw[hD],by rw[HE.o,HS.o,HK.o];rfl,by first|rfl|trivial⟩,?_⟩;first|exact HM.o|(rw[hD];exact HM.o)
   ·have HK:Z9 (((l[i]'hB).k == 13)=false):=Hd (by rw[hq];simpa using hk);have e13:(q != 13)=true:=(by simpa using hk);clear hC hi hq hk;go_wp2_with fail;go_ret
    exact⟨by rw[HE.o,HS.o,HK.o];rfl,rfl⟩
  ·have t1:decide ((i:Int)<(l.length:Int))=false:=by simp;omega
   have hE:Z9 (I1 l=true):=Hd (by rw[HE.o,List.drop_eq_nil_of_le (by omega)];rfl);clear hi;go_wp2_with fail;go_ret
   exact⟨by rw[hE.o];rfl,rfl⟩
theorem W9 {w:World}(k:Int) (s:Z8) (n:Int) (A:Option Addr) (a c:Nat) (A':Option Addr) (a' c':Nat) (A'':Option Addr) (a'' c'':Nat) :
  Calls Tryz.prog 70 #[.agg #[.int .i64 k,.string s,.int .i64 n,.slice A a c,.slice A' a' c',.slice A'' a'' c'']] w fun e w'=>e=.returned (.bool (s.toList == [] && n == 0))/\Below w.heap.size w w':=by
 have hA:Z9 (Below w.heap.size w (w.alloc (.cells #[.int .i64 k,.string s,.int .i64 n,.slice A a c,.slice A' a' c',.slice A'' a'' c''] 26))):=Hd ((Below.refl _ _).alloc (Nat.le_refl _) _);have HC:=Hd (Dz w [.int .i64 k,.string s,.int .i64 n,.slice A a c,.slice A' a' c',.slice A'' a'' c''] 26);have x1:(w.alloc (.cells #[.int .i64 k,.string s,.int .i64 n,.slice A a c,.slice A' a' c',.slice A'' a'' c''] 26)).cell? ⟨w.heap.size,1,none⟩=some (.string s):=HC.o 1 _ rfl;have x2:(w.alloc (.cells #[.int .i64 k,.string s,.int .i64 n,.slice A a c,.slice A' a' c',.slice A'' a'' c''] 26)).cell? ⟨w.heap.size,2,none⟩=some (.int .i64 n):=HC.o 2 _ rfl
 cases h:(s.toList == []) with
 | true=>
  go_enter Tryz.func70,Tryz.ntmps70;go_wp2_with fail;go_ret
  exact⟨by simp,hA.o⟩
 | false=>
  go_enter Tryz.func70,Tryz.ntmps70;go_wp2_with fail;go_ret
  exact⟨by simp,hA.o⟩
theorem Jcf {K':Nat->Prop}{w0 w:World}{t:Ty}(x0:Int) (x1:Z8) (x2:Int) (x3:Option Addr) (x4 x5:Nat) (x6:Option Addr) (x7 x8:Nat) (x9:Option Addr) (xa xb:Nat) (ht:Aw K' w0 t [.int .i64 x0,.string x1,.int .i64 x2,.slice x3 x4 x5,.slice x6 x7 x8,.slice x9 xa xb]) (hb:Below w0.heap.size w0 w) :
  Calls Tryz.prog 60 #[.slice none 0 0,.agg #[.int .i64 x0,.string x1,.int .i64 x2,.slice x3 x4 x5,.slice x6 x7 x8,.slice x9 xa xb]] w (Gs K' w0 [] t):=by
 have hU:Z9 (Below w0.heap.size w0 (w.alloc (.cells #[.int .i64 x0,.string x1,.int .i64 x2,.slice x3 x4 x5,.slice x6 x7 x8,.slice x9 xa xb] 26))):=Hd (hb.alloc hb.size _);have hJ:Z9 ((w.alloc (.cells #[.int .i64 x0,.string x1,.int .i64 x2,.slice x3 x4 x5,.slice x6 x7 x8,.slice x9 xa xb] 26)).heap[w.heap.size]?=some (.cells #[.int .i64 x0,.string x1,.int .i64 x2,.slice x3 x4 x5,.slice x6 x7 x8,.slice x9 xa xb] 26 (0,0))):=Hd (heap_alloc_new w _);have HT:=Hd ht;obtain⟨i0,hW,hY,hZ,kA⟩:=Eg Ht;unfold Gs;clear ht hb;go_enter Tryz.func60,Tryz.ntmps60;go_wp2_with fail
 go_loopw [5] (fun v wr=>v=.int .i64 0/\wr=w.alloc (.cells #[.int .i64 x0,.string x1,.int .i64 x2,.slice x3 x4 x5,.slice x6 x7 x8,.slice x9 xa xb] 26)) (fun _ _=>0)
 case atStart=>exact⟨rfl,rfl⟩
 case round=>
  obtain⟨rfl,rfl⟩:=hrel;go_wp2_with fail;refine wp_region_held_drew (S:=(fun _=>True)) (by kernel_rfl) trivial (fun hA=>?_);refine Ab.s [0,1,2] ?_
  iterate 3 (refine Ab.k (so rfl) hA ?_;try simp only[Act.put,Bd,Be,Bf])
  refine Ab.d ?_;refine Ab.s [3,4,5,6,7,8,9,10] ?_
  iterate 8 (refine Ab.t (v:=undef) (so rfl) (by kernel_rfl) (by kernel_rfl) (by kernel_rfl) (fun _ _ _ h=>h) (Or.inr ⟨by rfl,rfl⟩) hA ?_;try simp only[Act.put,Bd,Be,Bf])
  refine Ab.d ?_;refine Ab.s [11] ?_;refine Ab.k (so rfl) hA ?_;try simp only[Act.put,Bd,Be,Bf]
  refine Ab.d ?_;refine wpAnyH_done (by kernel_rfl) ?_ _;clear hA;go_wp2_with fail;refine wp_region_held_drew (S:=(fun _=>True)) (by kernel_rfl) trivial (fun hA=>?_);refine Ab.s [0,1,2] ?_
  iterate 3 (refine Ab.k (so rfl) hA ?_;try simp only[Act.put,Bd,Be,Bf])
  refine Ab.d ?_;refine Ab.s [3,4,5,6,7,8,9,10] ?_
  iterate 8 (refine Ab.t (v:=undef) (so rfl) (by kernel_rfl) (by kernel_rfl) (by kernel_rfl) (fun _ _ _ h=>h) (Or.inr ⟨by rfl,rfl⟩) hA ?_;try simp only[Act.put,Bd,Be,Bf])
  refine Ab.d ?_;refine Ab.s [11] ?_;refine Ab.k (so rfl) hA ?_;try simp only[Act.put,Bd,Be,Bf]
  refine Ab.d ?_;refine wpAnyH_done (by kernel_rfl) ?_ _;clear hA;have hT:(w.alloc (.cells #[.int .i64 x0,.string x1,.int .i64 x2,.slice x3 x4 x5,.slice x6 x7 x8,.slice x9 xa xb] 26)).heap.size=w.heap.size+1:=World.size_alloc _ _;have hL:Z9 ((((w.alloc (.cells #[.int .i64 x0,.string x1,.int .i64 x2,.slice x3 x4 x5,.slice x6 x7 x8,.slice x9 xa xb] 26)).alloc (.cells #[.int .i64 x0,.string x1,.int .i64 x2,.slice x3 x4 x5,.slice x6 x7 x8,.slice x9 xa xb] 26)).drew.drew).ownsRow w0.heap.size 26 6 (.slice none 0 0) 0 []):=Hd (World.ownsRow_nil _ _ _ _);have hV:=Hd (Dz (w.alloc (.cells #[.int .i64 x0,.string x1,.int .i64 x2,.slice x3 x4 x5,.slice x6 x7 x8,.slice x9 xa xb] 26)) [.int .i64 x0,.string x1,.int .i64 x2,.slice x3 x4 x5,.slice x6 x7 x8,.slice x9 xa xb] 26);rw[hT]at hV;obtain⟨y0,y1,y2,y3,y4,y5⟩:=Sb _ _ _ _ _ _ _ _ _ _ _ _ hJ.o;have HW1:=Hd hT;clear hT;go_wp2_with (at_builtin;refine wpList_plain rfl fun K hK=>?_;go_loud (refine Cb _ _ 22 rfl w0.heap.size 26 i0 (.agg #[.int .i64 0,.string ⟨#[]⟩,.int .i64 0,.slice none 0 0,.slice none 0 0,.slice none 0 0]) 6 104 Tryz.underlying22 hW hY hZ kA rfl (by decide) _ _ _ rfl hL.o ⟨w.heap.size+1,0,none⟩ 1 1 [.int .i64 x0,.string x1,.int .i64 x2,.slice x3 x4 x5,.slice x6 x7 x8,.slice x9 xa xb] rfl rfl ?a0 ?a1 ?a2 ?a3 ?a4 ?_))
  case a0=>exact hV.o
  case a1=>
   intro u hu;simp only[List.mem_cons,List.not_mem_nil,or_false]at hu;rcases hu with rfl|rfl|rfl|rfl|rfl|rfl <;> rfl
  case a2=>unfold maxLen;omega
  case a3=>omega
  case a4=>
   have h3:((w.alloc (.cells #[.int .i64 x0,.string x1,.int .i64 x2,.slice x3 x4 x5,.slice x6 x7 x8,.slice x9 xa xb] 26)).alloc (.cells #[.int .i64 x0,.string x1,.int .i64 x2,.slice x3 x4 x5,.slice x6 x7 x8,.slice x9 xa xb] 26)).heap.size=(w.alloc (.cells #[.int .i64 x0,.string x1,.int .i64 x2,.slice x3 x4 x5,.slice x6 x7 x8,.slice x9 xa xb] 26)).heap.size+1:=World.size_alloc _ _;have h5:=hU.o.size;show w0.heap.size<=((w.alloc (.cells #[.int .i64 x0,.string x1,.int .i64 x2,.slice x3 x4 x5,.slice x6 x7 x8,.slice x9 xa xb] 26)).alloc (.cells #[.int .i64 x0,.string x1,.int .i64 x2,.slice x3 x4 x5,.slice x6 x7 x8,.slice x9 xa xb] 26)).heap.size;omega
  intro v5 w5 hE hO _ hC;refine hK _ _ ?_;clear hK K y0 y1 y2 y3 y4 y5;have hR:=Hb (v:=.slice none 0 0) (os:=[]) (vs:=[]) (w2:=(w.alloc (.cells #[.int .i64 x0,.string x1,.int .i64 x2,.slice x3 x4 x5,.slice x6 x7 x8,.slice x9 xa xb] 26)).drew.drew) hU.o.drew.drew (World.ownsRow_nil _ _ _ _) (fun i h=>absurd h (by simp)) HT.o hE hO;have hD:w5.heap[w.heap.size]?=some (.cells #[.int .i64 x0,.string x1,.int .i64 x2,.slice x3 x4 x5,.slice x6 x7 x8,.slice x9 xa xb] 26 (0,0)):=by
   have hX:=(Array.getElem?_eq_some_iff.1 hJ.o).1;have h3:((w.alloc (.cells #[.int .i64 x0,.string x1,.int .i64 x2,.slice x3 x4 x5,.slice x6 x7 x8,.slice x9 xa xb] 26)).alloc (.cells #[.int .i64 x0,.string x1,.int .i64 x2,.slice x3 x4 x5,.slice x6 x7 x8,.slice x9 xa xb] 26)).heap.size=(w.alloc (.cells #[.int .i64 x0,.string x1,.int .i64 x2,.slice x3 x4 x5,.slice x6 x7 x8,.slice x9 xa xb] 26)).heap.size+1:=World.size_alloc _ _;have h6:((w.alloc (.cells #[.int .i64 x0,.string x1,.int .i64 x2,.slice x3 x4 x5,.slice x6 x7 x8,.slice x9 xa xb] 26)).alloc (.cells #[.int .i64 x0,.string x1,.int .i64 x2,.slice x3 x4 x5,.slice x6 x7 x8,.slice x9 xa xb] 26)).heap[w.heap.size]?=(w.alloc (.cells #[.int .i64 x0,.string x1,.int .i64 x2,.slice x3 x4 x5,.slice x6 x7 x8,.slice x9 xa xb] 26)).heap[w.heap.size]?:=Below.heap_alloc (w.alloc (.cells #[.int .i64 x0,.string x1,.int .i64 x2,.slice x3 x4 x5,.slice x6 x7 x8,.slice x9 xa xb] 26)) _ _ hX;exact (hO.block w.heap.size (by show w.heap.size<((w.alloc (.cells #[.int .i64 x0,.string x1,.int .i64 x2,.slice x3 x4 x5,.slice x6 x7 x8,.slice x9 xa xb] 26)).alloc (.cells #[.int .i64 x0,.string x1,.int .i64 x2,.slice x3 x4 x5,.slice x6 x7 x8,.slice x9 xa xb] 26)).heap.size;omega) (fun e=>by cases e)).trans (h6.trans hJ.o)
  rcases Fc.of_out hR.1 with ⟨-,hQ⟩|⟨g5,c5,hS,hF,hB⟩
  ·exact absurd hQ (by simp)
  have hP:g5≠w.heap.size:=by
   rcases hC with h|h
   ·rw[hS]at h
    cases h
   ·rw[hS]at h;have h1:=HW1.o;have h2:g5=(w.alloc (.cells #[.int .i64 x0,.string x1,.int .i64 x2,.slice x3 x4 x5,.slice x6 x7 x8,.slice x9 xa xb] 26)).heap.size+1:=(by first|exact Option.some.inj h|(have h3:=Option.some.inj h;simpa using h3));omega
  subst hS;rw[List.nil_append]at hB;have hM:Z9 (Fc K' w0 (w5.setCells g5 (0*6) [.int .i64 x0,.string x1,.int .i64 x2,.slice x3 x4 x5,.slice x6 x7 x8,.slice x9 xa xb]) g5 c5 [t]):=Hd (Fc.set (a:=[]) (b:=[]) hB HT.o);have hI:=(hM.o).o hF;have hG:Z9 (Cs K' w0 (w5.setCells g5 0 [.int .i64 x0,.string x1,.int .i64 x2,.slice x3 x4 x5,.slice x6 x7 x8,.slice x9 xa xb]) (.slice (some ⟨g5,0,none⟩) 1 c5) (Fv t [])/\Below w0.heap.size w0 (w5.setCells g5 0 [.int .i64 x0,.string x1,.int .i64 x2,.slice x3 x4 x5,.slice x6 x7 x8,.slice x9 xa xb])):=Hd ⟨hI,Eb hF _ _ _ hR.2⟩;obtain⟨r0,r1,r2,r3,r4,r5,r6,r7,r8,r9,ra,rb,hr,-⟩:=hB.sixAt (i:=0) (t:=t) rfl;simp only[Nat.zero_mul,Nat.zero_add]at hr;obtain⟨r0',r1',r2',r3',r4',r5'⟩:=hr;obtain⟨z0,z1,z2,z3,z4,z5⟩:=Sb _ _ _ _ _ _ _ _ _ _ _ _ hD;have hN:=hB.blk;obtain⟨cur,hH,-⟩:=hN;have kB:∀o,w5.frozen? ⟨g5,o,none⟩=false:=fun o=>Lib.frozen_of_heap hH o;clear hE hO hR hD hC hB hP hF hI hH;go_wp2_with fail
  go_loopw [6] (fun v wr=>v=.int .i64 0/\wr=w5) (fun _ _=>0)
  case atStart=>exact⟨by first|rfl|simp,rfl⟩
  case round=>
   obtain⟨rfl,rfl⟩:=hrel;go_wp2_with fail;go_ret
   exact⟨_,rfl,hG.o.1,hG.o.2⟩
def Cu (ps:List Ty):List Z8:=match ps[1]? with
 | some p=>Bi p
 | none=>[]
def Cz (k:Int) (t:Z8) (n:Int) (ps:List Ty) (i:Nat) (x:Z8):Bool:=
 (((k == 20 && i == 1) || (k == 21 && n == 1 && decide (0<i))) && decide (t=x)) || (k == 21 && i == 2 && ps.length == 4 && Dc (Cu ps) x)
def Bp (x:Z8):Ty->Bool
 | .mk k t n ps fs vs=>(k == 16 && decide (t=x)) || (!(vs.any fun v=>decide (v.1=x)) && ((vs.attach.any fun ⟨v,_⟩=>v.2.attach.any fun ⟨b,_⟩=>Bp x b) || ((ps.attach.mapIdx fun i ⟨p,_⟩=>!Cz k t n ps i x && Bp x p).any id || (fs.attach.any fun ⟨f,_⟩=>Bp x f.2.2))))
termination_by t=>SizeOf.sizeOf t
decreasing_by
 ·exact E2 ‹_› ‹_›
 ·exact D2 ‹_›
 ·exact Ei ‹_›
def Dn (x:Z8) (cut:Nat->Bool):Nat->List Ty->Bool
 | _,[]=>false
 | i,p :: l=>(!cut i && Bp x p) || Dn x cut (i+1) l
def Gy (x:Z8) (l:List Ty):Bool:=l.any (Bp x)
def Gp (x:Z8) (l:Bt):Bool:=l.any fun v=>Gy x v.2
def Jc (x:Z8) (l:Bx):Bool:=l.any fun f=>Bp x f.2.2
def E9 (vs:Bt) (x:Z8):Bool:=vs.any fun v=>decide (v.1=x)
theorem Ug {α:Type}(x:Z8) (cut:Nat->Bool) (g:α->Ty):∀(l:List α) (j:Nat),(l.mapIdx fun i p=>!cut (i+j) && Bp x (g p)).any id=Dn x cut j (l.map g)
 | [],_=>rfl
 | a :: l,j=>by
  rw[List.mapIdx_cons,List.any_cons,List.map_cons,Dn,<-Ug x cut g l (j+1)];simp only[Nat.zero_add,id_eq,Nat.add_assoc,Nat.add_comm 1 j]
theorem Fs {α:Type}(l:List α):l.attach.map (fun a=>a.1)=l:=by simp
theorem I3 {α:Type}(p:α->Bool) (l:List α):(l.attach.any fun a=>p a.1)=l.any p:=by
 have h:(l.attach.map (fun a=>a.1)).any p=l.any p:=by rw[Fs]
 rw[List.any_map]at h;exact h
theorem Dq (x:Z8) (k t n ps fs vs):Bp x (.mk k t n ps fs vs)=((k == 16 && decide (t=x)) || (!E9 vs x && (Gp x vs || (Dn x (fun i=>Cz k t n ps i x) 0 ps || Jc x fs)))):=by
 rw[Bp];have h:=Ug x (fun i=>Cz k t n ps i x) (fun p:{x // x∈ps}=>p.1) ps.attach 0;simp only[Nat.add_zero]at h;rw[h];have h1:ps.attach.map (fun p:{x // x∈ps}=>p.1)=ps:=Fs ps;rw[h1];have h2:(fs.attach.any fun f=>Bp x f.1.2.2)=Jc x fs:=I3 (fun f:Z8×Int×Ty=>Bp x f.2.2) fs;have h3:(vs.attach.any fun v=>v.1.2.attach.any fun b=>Bp x b.1)=Gp x vs:=by
  have e:(fun v:{v // v∈vs}=>v.1.2.attach.any fun b=>Bp x b.1)=fun v:{v // v∈vs}=>Gy x v.1.2:=by
   funext v;exact I3 (Bp x) v.1.2
  rw[e];exact I3 (fun v:Z8×List Ty=>Gy x v.2) vs
 rw[h2,h3];rfl
def Ed:Ty->List Z8
 | .mk _ t _ ps fs vs=>t :: (vs.map (·.1)++(Cu ps++((vs.attach.map fun ⟨v,_⟩=>(v.2.attach.map fun ⟨b,_⟩=>Ed b).flatten).flatten++((ps.attach.map fun ⟨p,_⟩=>Ed p).flatten++(fs.attach.map fun ⟨f,_⟩=>Ed f.2.2).flatten))))
termination_by t=>SizeOf.sizeOf t
decreasing_by
 ·exact E2 ‹_› ‹_›
 ·exact D2 ‹_›
 ·exact Ei ‹_›
theorem Db {α β:Type}(g:α->List β) (l:List α):(l.attach.map fun a=>g a.1).flatten=(l.map g).flatten:=by
 have h:(l.attach.map (fun a=>a.1)).map g=l.map g:=by rw[Fs]
 rw[List.map_map]at h;exact congrArg List.flatten h
theorem D7 (k t n ps fs vs):Ed (.mk k t n ps fs vs)=t :: (vs.map (·.1)++(Cu ps++((vs.map fun v=>(v.2.map Ed).flatten).flatten++((ps.map Ed).flatten++(fs.map fun f=>Ed f.2.2).flatten)))):=by
 rw[Ed];have h1:(ps.attach.map fun p=>Ed p.1).flatten=(ps.map Ed).flatten:=Db Ed ps;have h2:(fs.attach.map fun f=>Ed f.1.2.2).flatten=(fs.map fun f=>Ed f.2.2).flatten:=Db (fun f:Z8×Int×Ty=>Ed f.2.2) fs;have h3:(vs.attach.map fun v=>(v.1.2.attach.map fun b=>Ed b.1).flatten).flatten=(vs.map fun v=>(v.2.map Ed).flatten).flatten:=by
  have e:(fun v:{v // v∈vs}=>(v.1.2.attach.map fun b=>Ed b.1).flatten)=fun v:{v // v∈vs}=>(v.1.2.map Ed).flatten:=by
   funext v;exact Db Ed v.1.2
  rw[e];exact Db (fun v:Z8×List Ty=>(v.2.map Ed).flatten) vs
 rw[h1,h2,h3]
theorem Ij {k:Int}{t:Z8}{n:Int}{ps:List Ty}{fs:Bx}{vs:Bt}:t∈Ed (.mk k t n ps fs vs):=by rw[D7];exact List.mem_cons_self
theorem Qd {k:Int}{t:Z8}{n:Int}{ps:List Ty}{fs:Bx}{vs:Bt}{x:Z8}(h:x∈Cu ps):x∈Ed (.mk k t n ps fs vs):=by
 rw[D7];simp[h]
theorem X1 {k:Int}{t:Z8}{n:Int}{ps:List Ty}{fs:Bx}{vs:Bt}{v:Z8×List Ty}(h:v∈vs):v.1∈Ed (.mk k t n ps fs vs):=by
 rw[D7];exact List.mem_cons_of_mem _ (List.mem_append_left _ (List.mem_map_of_mem h))
theorem Qb {k:Int}{t:Z8}{n:Int}{ps:List Ty}{fs:Bx}{vs:Bt}{v:Z8×List Ty}{b:Ty}{x:Z8}(h:v∈vs) (hb:b∈v.2) (hx:x∈Ed b):x∈Ed (.mk k t n ps fs vs):=by
 rw[D7];refine List.mem_cons_of_mem _ (List.mem_append_right _ (List.mem_append_right _ (List.mem_append_left _ ?_)));exact List.mem_flatten.2 ⟨_,List.mem_map_of_mem h,List.mem_flatten.2 ⟨_,List.mem_map_of_mem hb,hx⟩⟩
theorem Jk {k:Int}{t:Z8}{n:Int}{ps:List Ty}{fs:Bx}{vs:Bt}{p:Ty}{x:Z8}(h:p∈ps) (hx:x∈Ed p):x∈Ed (.mk k t n ps fs vs):=by
 rw[D7];refine List.mem_cons_of_mem _ (List.mem_append_right _ (List.mem_append_right _ (List.mem_append_right _ (List.mem_append_left _ ?_))));exact List.mem_flatten.2 ⟨_,List.mem_map_of_mem h,hx⟩
theorem Qc {k:Int}{t:Z8}{n:Int}{ps:List Ty}{fs:Bx}{vs:Bt}{f:Z8×Int×Ty}{x:Z8}(h:f∈fs) (hx:x∈Ed f.2.2):x∈Ed (.mk k t n ps fs vs):=by
 rw[D7];refine List.mem_cons_of_mem _ (List.mem_append_right _ (List.mem_append_right _ (List.mem_append_right _ (List.mem_append_right _ ?_))));exact List.mem_flatten.2 ⟨_,List.mem_map_of_mem h,hx⟩
def Dk:Ty->Bool
 | .mk _ _ _ ps fs vs=>decide (vs.length<=3518437208780) && ((vs.attach.all fun ⟨v,_⟩=>v.2.attach.all fun ⟨b,_⟩=>Dk b) && ((ps.attach.all fun ⟨p,_⟩=>Dk p) && (fs.attach.all fun ⟨f,_⟩=>Dk f.2.2)))
termination_by t=>SizeOf.sizeOf t
decreasing_by
 ·exact E2 ‹_› ‹_›
 ·exact D2 ‹_›
 ·exact Ei ‹_›
theorem Di {α:Type}(p:α->Bool) (l:List α):(l.attach.all fun a=>p a.1)=l.all p:=by
 have h:(l.attach.map (fun a=>a.1)).all p=l.all p:=by rw[Fs]
 rw[List.all_map]at h;exact h
theorem Hy (k t n ps fs vs):Dk (.mk k t n ps fs vs)=(decide (vs.length<=3518437208780) && ((vs.all fun v=>v.2.all Dk) && (ps.all Dk && fs.all fun f=>Dk f.2.2))):=by
 rw[Dk];have h1:(ps.attach.all fun p=>Dk p.1)=ps.all Dk:=Di Dk ps;have h2:(fs.attach.all fun f=>Dk f.1.2.2)=fs.all fun f=>Dk f.2.2:=Di (fun f:Z8×Int×Ty=>Dk f.2.2) fs;have h3:(vs.attach.all fun v=>v.1.2.attach.all fun b=>Dk b.1)=vs.all fun v=>v.2.all Dk:=by
  have e:(fun v:{v // v∈vs}=>v.1.2.attach.all fun b=>Dk b.1)=fun v:{v // v∈vs}=>v.1.2.all Dk:=by
   funext v;exact Di Dk v.1.2
  rw[e];exact Di (fun v:Z8×List Ty=>v.2.all Dk) vs
 rw[h1,h2,h3]
theorem Fz {k:Int}{t:Z8}{n:Int}{ps:List Ty}{fs:Bx}{vs:Bt}(h:Dk (.mk k t n ps fs vs)=true):vs.length<=3518437208780/\(∀v∈vs,∀b∈v.2,Dk b=true)/\(∀p∈ps,Dk p=true)/\∀f∈fs,Dk f.2.2=true:=by
 rw[Hy,Bool.and_eq_true,Bool.and_eq_true,Bool.and_eq_true,decide_eq_true_eq,List.all_eq_true,List.all_eq_true,List.all_eq_true]at h;exact⟨h.1,fun v hv b hb=>List.all_eq_true.1 (h.2.1 v hv) b hb,h.2.2.1,h.2.2.2⟩
def Jdb:MK Tryz.prog Int where
 T:=185
 S:=9
 E:=3
 val:=fun i=>.int .i64 i
 dat:=fun i=>.lit (.int .i64 i)
 zero:=0
 R:=fun v=>match v with
  | .int .i64 i=>some (.lit (.int .i64 i),[])
  | _=>none
 hR:=fun _=>rfl
 inv:=by
  intro v a ps h
  split at h
  ·injection h with h
   injection h with h1 h2
   injection h1 with h1
   injection h1 with h1 h3
   rw[h3]
  ·cases h
 hS:=Tryz.underlying9
 hT:=Tryz.underlying185
 hz:=Tryz.zeroValue3
theorem Cy.putH {P:Program}{α:Type}{M:MK P α}{W:World}{b n:Nat}{F:Z8->Option α}(h:Cy M W b n F) (hn:n<maxLen) (s:Z8) (hs:s.size<=maxLen) (a:α) (hp:(F s).isSome=true) :
  ∃w',(Instr.mapUpdate M.T (.map (some b)) (.string s) (M.val a)).run P W=.ok () w'/\Cy M w' b n (Hx F s a)/\W.grownBy w' (some b):=by
 obtain⟨L,h,hL,hF⟩:=h;obtain⟨w',hA,ho,hg⟩:=World.ownsMap.update h (Go.Maps.string_keyed M.hS) M.hT (Nat.lt_of_le_of_lt hL hn) (M.key s hs) (M.hR a);rw[M4 M L (s,a)]at ho;have hB:=Pv ho;rw[Hg]at hB;refine⟨w',hA,⟨_,hB,?_,fun x=>?_⟩,hg⟩
 ·rw[Js];have h1:(K9 L s).length<L.length:=by
   rw[<-hF s]at hp;unfold Fo at hp;rw[Option.isSome_map,List.find?_isSome]at hp;obtain⟨f,hf,hk⟩:=hp;exact List.length_filter_lt_length_iff_exists.2 ⟨f,hf,by simp[hk]⟩
  simp only;omega
 ·rw[Ir (s,a) x _ (by rw[Gd];simp)];unfold Hx;simp only;by_cases e:s=x
  ·rw[if_pos e,if_pos e]
  ·rw[if_neg e,if_neg e,Gd,if_neg e,hF]
def Hl (k:Int) (l:List Ty):List Ty:=Hi k :: l.filter fun t=>!(t.k == k) && Fg t
theorem Vm {k:Int}{l:List Ty}{i:Nat}(h:i<l.length):Hl k (l.take (i+1))=Hl k (l.take i)++(if !(l[i].k == k) && Fg l[i] then [l[i]] else []):=by
 unfold Hl;rw[List.take_succ_eq_append_getElem h,List.filter_append,List.cons_append]
 congr 2
 simp only[List.filter_cons,List.filter_nil]
theorem Ma (k:Int) (l:List Ty):(Hl k l).length<=l.length+1:=by
 unfold Hl;have:=List.length_filter_le (fun t=>!(t.k == k) && Fg t) l;simp only[List.length_cons];omega
structure Jdh (K:Nat->Prop) (w0 w:World) (A:Option Addr) (l:List Ty):Prop where
 ex:∃b,(0<l.length->A=some ⟨b,0,none⟩)/\l.length<=1099511627776/\∀i (h:i<l.length),∃cs,Aw K w0 l[i] cs/\∀j u,cs[j]?=some u->w.cell? ⟨b,i*6+j,none⟩=some u
theorem Cs.src {K:Nat->Prop}{w0 w:World}{v:Value}{l:List Ty}(h:Cs K w0 w v l) (hl:l.length<=1099511627776):∃A c,v=.slice A l.length c/\Jdh K w0 w A l:=by
 rcases Fc.of_out h with ⟨rfl,rfl⟩|⟨g,c,rfl,-,hi⟩
 ·exact⟨none,0,rfl,⟨0,fun h=>absurd h (by simp),by simp,fun i h=>absurd h (by simp)⟩⟩
 ·exact⟨_,_,rfl,⟨g,fun _=>rfl,hl,fun i h=>hi.reps i _ (List.getElem?_eq_getElem h)⟩⟩
theorem Cs.back {K:Nat->Prop}{w0 w w':World}{v:Value}{l:List Ty}(hK:∀b,K b->b<w0.heap.size) (hb:Below w0.heap.size w0 w) (h:Cs K w w' v l):Cs K w0 w' v l:=by
 obtain⟨vs,h1,h2⟩:=h;refine⟨vs,⟨h1.1,?_⟩,fun i hi=>?_⟩
 ·rcases h1.2 with h3|⟨g,cap,cur,hv,hg,r⟩
  ·exact .inl h3
  ·exact .inr ⟨g,cap,cur,hv,Nat.le_trans hb.size hg,r⟩
 ·obtain⟨cs,h3,h4⟩:=h2 i hi;exact⟨cs,Aw.keep (fun _ h=>h) (fun b o v hA hc=>(hb.cell (hK b hA)).symm.trans hc) _ cs h3,h4⟩
theorem Jw (K:Nat->Prop) (w:World) (k:Int):Aw K w (Hi k) [.int .i64 k,.string ⟨#[]⟩,.int .i64 0,.slice none 0 0,.slice none 0 0,.slice none 0 0]:=
 Aw.of (ps:=[]) (fs:=[]) (vs:=[]) (by show (0:Nat)<=_;omega) ⟨0,0,⟨Nat.le_refl _,Nat.zero_le _,fun _=>rfl,fun h=>absurd h (Nat.lt_irrefl 0)⟩,fun i h=>absurd h (Nat.not_lt_zero i)⟩ ⟨0,0,⟨Nat.le_refl _,Nat.zero_le _,fun _=>rfl,fun h=>absurd h (Nat.lt_irrefl 0)⟩,fun i h=>absurd h (Nat.not_lt_zero i)⟩ ⟨0,0,⟨Nat.le_refl _,Nat.zero_le _,fun _=>rfl,fun h=>absurd h (Nat.lt_irrefl 0)⟩,fun i h=>absurd h (Nat.not_lt_zero i)⟩
theorem Cs.one {K:Nat->Prop}{w0 w:World}(k:Int) (hb:w0.heap.size<=w.heap.size):Cs K w0 (w.alloc (.cells #[.int .i64 k,.string ⟨#[]⟩,.int .i64 0,.slice none 0 0,.slice none 0 0,.slice none 0 0] 26)) (.slice (some ⟨w.heap.size,0,none⟩) 1 1) [Hi k]:=by
 refine Fc.o (ts:=[Hi k]) ⟨Nat.le_refl _,by decide,⟨_,heap_alloc_new w _,rfl⟩,fun i t hi=>?_⟩ hb;rcases i with _|i
 ·injection hi with hi
  subst hi;refine⟨_,Jw K w0 k,fun j u hj=>?_⟩;rw[cell_of_row _ _ _ _ _ _ (heap_alloc_new w _)];simpa using hj
 ·exact absurd hi (by simp)
theorem Cs.later {K:Nat->Prop}{w0 w w':World}{v:Value}{l:List Ty}(h:Cs K w0 w v l) (hb:Below w.heap.size w w'):Cs K w0 w' v l:=
 h.keep fun b hv=>hb.block b (by obtain⟨vs,h1,-⟩:=h;exact (h1.lt b hv).2)
theorem Du.nil (B:Nat) (w:World):Du B w (.slice none 0 0) []:=World.ownsRow_nil _ _ _ _
theorem Mb {K:Nat->Prop}{w0 w:World}{l:List Ty}{A:Option Addr}{c:Nat}(k:Int) (hK:∀b,K b->b<w0.heap.size) (hb:Below w0.heap.size w0 w) (hS:Jdh K w0 w A l) (hn:∀t∈l,(Bi t).length<=1099511627776) (hl:l.length+1<=1099511627776) :
  Calls Tryz.prog 59 #[.slice A l.length c,.int .i64 k] w fun e w'=>∃v',e=.returned v'/\Cs K w0 w' v' (Hl k l)/\Below w.heap.size w w':=by
 obtain⟨b,hA,_,kA⟩:=hS;have kF:=Hd kA;have kD:=Hd hA;have HN:=Hd hn;have HB:=Hd hb;have HL:=Hd hl;have HK:=Hd hK;clear kA hA hn hb hK;go_enter Tryz.func59,Tryz.ntmps59;go_wp2_with fail;have hU:=Hd (Cs.one (K:=K) (w:=w) (w0:=w) k (Nat.le_refl _));have kG:Z9 (Below w.heap.size w (w.alloc (.cells #[.int .i64 k,.string ⟨#[]⟩,.int .i64 0,.slice none 0 0,.slice none 0 0,.slice none 0 0] 26))):=Hd ((Below.refl _ _).alloc (Nat.le_refl _) _);obtain⟨i0,kL,kM,kN,kO⟩:=Eg Ht;generalize w.alloc (.cells #[.int .i64 k,.string ⟨#[]⟩,.int .i64 0,.slice none 0 0,.slice none 0 0,.slice none 0 0] 26)=w1 at *
 go_loopw [5,6] (fun ov iv wr=>∃(i:Nat) (acc:List Ty),i<=l.length/\iv=.int .i64 i/\acc=Hl k (l.take i)/\Cs K w wr ov acc/\Below w.heap.size w wr) (fun _ v _=>l.length - (intOf v).toNat)
 case atStart=>exact⟨0,[Hi k],by omega,rfl,by simp[Hl],hU.o,kG.o⟩
 case round=>
  obtain⟨i,acc,hi,rfl,hH,ho,hb⟩:=hrel;have hF:=Hd hH;have kE:Z9 (acc.length<=i+1):=Hd (by rw[hH];exact Nat.le_trans (Ma _ _) (by simp;omega));clear hH;have HR:=Hd (And.intro ho hb);obtain⟨vs,hN,-⟩:=ho;obtain⟨A1,c1,rfl,-⟩:=Gx hN;clear hN hb;by_cases hM:i<l.length
  ·have t1:decide ((i:Int)<(l.length:Int))=true:=by simp;omega
   have hL:wrap64 ((i:Int)+1)=((i+1:Nat):Int):=Ba (by omega);have HM:=Hd (Bg hM);have kK:=kD.o (by omega);obtain⟨cs,hE,hI⟩:=kF.o i hM;have hP:=Hd (Vm (k:=k) hM);have hR:=HN.o _ (List.getElem_mem hM);subst kK;generalize l[i]=t at hE hP hR;have kI:=Hd (Td t);obtain⟨k2,s2,n2,hC,hB,hD⟩:=t;have KI:=Hd (Jd (.mk k2 s2 n2 hC hB hD) K wr wr cs (.slice none 0 0) [] ((hE.later HB.o).later HR.o.2) (Below.refl _ _) (Du.nil _ _) List.Pairwise.nil (by simpa using hR));have HREP:=Hd (hE.later HB.o);obtain⟨Aq,cq,Ag,cg,Ah,ch,rfl,-⟩:=hE.inv;have hQ:Z9 (i+1<=l.length):=Hd hM;have HY:Z9 (∀wx,Below w.heap.size w wx->wx.cell? ⟨b,i*6,none⟩=some (.int .i64 k2)/\wx.cell? ⟨b,i*6+1,none⟩=some (.string s2)/\wx.cell? ⟨b,i*6+2,none⟩=some (.int .i64 n2)/\wx.cell? ⟨b,i*6+3,none⟩=some (.slice Aq hC.length cq)/\wx.cell? ⟨b,i*6+4,none⟩=some (.slice Ag hB.length cg)/\wx.cell? ⟨b,i*6+5,none⟩=some (.slice Ah hD.length ch)):=Hd fun wx hx=>
    ⟨Aa hx (hI 0 _ rfl),Aa hx (hI 1 _ rfl),Aa hx (hI 2 _ rfl),Aa hx (hI 3 _ rfl),Aa hx (hI 4 _ rfl),Aa hx (hI 5 _ rfl)⟩
   obtain⟨y0,y1,y2,y3,y4,y5⟩:=HY.o _ HR.o.2;simp only[Az]at KI HREP;have kJ:=Hd hR;clear hi hI hE hR;by_cases hk:k2=k
   ·have tk:(k2 != k)=false:=(by simpa using hk);have HF:Z9 ((!(Ty.k (.mk k2 s2 n2 hC hB hD) == k) && Fg (.mk k2 s2 n2 hC hB hD))=false):=Hd (by simp[Ty.k,hk]);clear hk KI;go_wp2_with fail;refine⟨⟨i+1,acc,hQ.o,by first|rfl|rw[hL],?p1,HR.o.1,HR.o.2⟩,?p3⟩
    case p1=>rw[hP.o,HF.o,hF.o];simp
    case p3=>first|exact HM.o|(rw[hL];exact HM.o)
   ·have tk:(k2 != k)=true:=(by simpa using hk);have hV:Z9 ((Ty.k (.mk k2 s2 n2 hC hB hD) == k)=false):=Hd (by simpa [Ty.k] using hk);clear hk;go_wp2_with fail;refine KI.o.mono ?_;rintro e w2 ⟨v2,l2,rfl,h2⟩;have hO:=Hd (HR.o.2.trans (h2.low.mono HR.o.2.size));have hY:=Hd (HR.o.1.later h2.low);have hX:Z9 (Fg (.mk k2 s2 n2 hC hB hD)=decide (0<l2.length)):=Hd (by
     rw[Bool.eq_iff_iff,kI.o,decide_eq_true_iff]
     constructor
     ·intro h;obtain⟨x,hx⟩:=List.exists_mem_of_ne_nil _ h;exact List.length_pos_of_mem ((h2.mem x).2 (.inr hx))
     ·intro h e;obtain⟨x,hx⟩:=List.exists_mem_of_length_pos h;rcases (h2.mem x).1 hx with h|h
      ·exact absurd h (by simp)
      ·rw[e]at h;exact absurd h (by simp))
    obtain⟨A2,c2,rfl,-⟩:=h2.own.list (by have h3:=h2.len;have:=HN.o;have h4:=HL.o;simp only[List.length_nil,Nat.zero_add]at h3;have:=kJ.o;omega);obtain⟨z0,z1,z2,z3,z4,z5⟩:=HY.o _ hO.o;clear h2 KI y0 y1 y2 y3 y4 y5;by_cases hJ:0<l2.length
    ·have t2:decide (0<l2.length)=true:=decide_eq_true hJ;have HF:Z9 ((!(Ty.k (.mk k2 s2 n2 hC hB hD) == k) && Fg (.mk k2 s2 n2 hC hB hD))=true):=Hd (by rw[hV.o,hX.o,decide_eq_true hJ];rfl);obtain⟨vs,hN,kC⟩:=hY.o;have hT:=Hd (And.intro hN kC);have kH:=Hd (Dz w2 [.int .i64 k2,.string s2,.int .i64 n2,.slice Aq hC.length cq,.slice Ag hB.length cg,.slice Ah hD.length ch] 26);have hW:Z9 (acc.length+1<=1099511627776):=Hd (by have:=kE.o;have:=hQ.o;omega);clear hJ hN kC;go_wp2_with (at_builtin;refine wpList_plain rfl fun K' hK=>?_;go_loud (refine Cb _ _ 22 rfl w.heap.size 26 i0 (.agg #[.int .i64 0,.string ⟨#[]⟩,.int .i64 0,.slice none 0 0,.slice none 0 0,.slice none 0 0]) 6 104 Tryz.underlying22 kL kM kN kO rfl (by decide) _ _ _ rfl (hT.o.1.alloc _) ⟨w2.heap.size,0,none⟩ 1 1 [.int .i64 k2,.string s2,.int .i64 n2,.slice Aq hC.length cq,.slice Ag hB.length cg,.slice Ah hD.length ch] rfl rfl ?a0 ?a1 ?a2 ?a3 ?a4 ?_))
     case a0=>exact kH.o
     case a1=>
      intro u hu;simp only[List.mem_cons,List.not_mem_nil,or_false]at hu;rcases hu with rfl|rfl|rfl|rfl|rfl|rfl <;> rfl
     case a2=>have:=hW.o;unfold maxLen;omega
     case a3=>have:=hW.o;omega
     case a4=>have:=hO.o.size;simp only[World.size_alloc];omega
     intro v5 w5 hG kB _ _;refine hK _ _ ?_;clear hK K';have hZ:=Hd (Hb hO.o hT.o.1 hT.o.2 HREP.o hG kB);clear hG kB z0 z1 z2 z3 z4 z5;go_wp2_with fail;refine⟨⟨i+1,_,hQ.o,by first|rfl|rw[hL],?p1,hZ.o.1,hZ.o.2⟩,?p3⟩
     case p1=>rw[hP.o,HF.o,if_pos rfl,hF.o]
     case p3=>first|exact HM.o|(rw[hL];exact HM.o)
    ·have t2:decide (0<l2.length)=false:=decide_eq_false hJ;have HF:Z9 ((!(Ty.k (.mk k2 s2 n2 hC hB hD) == k) && Fg (.mk k2 s2 n2 hC hB hD))=false):=Hd (by rw[hV.o,hX.o,decide_eq_false hJ];rfl);clear hJ;go_wp2_with fail;refine⟨⟨i+1,acc,hQ.o,by first|rfl|rw[hL],?p1,hY.o,hO.o⟩,?p3⟩
     case p1=>rw[hP.o,HF.o,hF.o];simp
     case p3=>first|exact HM.o|(rw[hL];exact HM.o)
  ·have t1:decide ((i:Int)<(l.length:Int))=false:=by simp;omega
   have HE:Z9 (l.take i=l):=Hd (List.take_of_length_le (by omega));clear hi;go_wp2_with fail;go_ret
   have h2:=hF.o;rw[HE.o]at h2;rw[<-h2];exact⟨.slice A1 acc.length c1,rfl,Cs.back HK.o HB.o HR.o.1,HR.o.2⟩
theorem Px {K:Nat->Prop}{w0 w:World}{v:Value}{F:List Ty}{t:Ty}{cs:List Value}(hO:Cs K w0 w v F) (hA:Lm F) (ht:Aw K w0 t cs) (hb:Below w0.heap.size w0 w) (hB:F.length+1<=1099511627776) :
  Calls Tryz.prog 60 #[v,.agg cs.toArray] w (Gs K w0 F t):=by
 obtain⟨k,s,n,ps,fs,vs⟩:=t;obtain⟨A,c,A',c',A'',c'',rfl,-⟩:=ht.inv;rcases Fc.of_out hO with ⟨rfl,rfl⟩|⟨g,c1,rfl,hg,hC⟩
 ·exact Jcf _ _ _ _ _ _ _ _ _ _ _ _ ht hb
 ·exact Jcg _ _ _ _ _ _ _ _ _ _ _ _ hC hg hA ht hb hB
def Bh (x:Z8) (u:Ty):Ty->Ty
 | .mk k t n ps fs vs=>if (k == 16 && decide (t=x))=true then u
  else if (k == 15)=true then E5 (ps.attach.map fun ⟨p,_⟩=>Bh x u p)
  else .mk k t n (ps.attach.mapIdx fun i ⟨p,_⟩=>if (E9 vs x || Cz k t n ps i x)=true then p else Bh x u p) (fs.attach.map fun ⟨f,_⟩=>(f.1,f.2.1,Bh x u f.2.2)) (vs.attach.map fun ⟨v,_⟩=>(v.1,v.2.attach.map fun ⟨b,_⟩=>if E9 vs x=true then b else Bh x u b))
termination_by t=>SizeOf.sizeOf t
decreasing_by
 ·exact D2 ‹_›
 ·exact D2 ‹_›
 ·exact Ei ‹_›
 ·exact E2 ‹_› ‹_›
def Fk (x:Z8) (u:Ty) (cut:Nat->Bool):Nat->List Ty->List Ty
 | _,[]=>[]
 | i,p :: l=>(if cut i=true then p else Bh x u p) :: Fk x u cut (i+1) l
theorem Vc {α:Type}(x:Z8) (u:Ty) (cut:Nat->Bool) (g:α->Ty):∀(l:List α) (j:Nat),(l.mapIdx fun i p=>if cut (i+j)=true then g p else Bh x u (g p))=Fk x u cut j (l.map g)
 | [],_=>rfl
 | a :: l,j=>by
  rw[List.mapIdx_cons,List.map_cons,Fk,<-Vc x u cut g l (j+1)];simp only[Nat.zero_add,Nat.add_assoc,Nat.add_comm 1 j]
theorem Hu {α β:Type}(f:α->β) (l:List α):(l.attach.map fun a=>f a.1)=l.map f:=by
 have h:(l.attach.map (fun a=>a.1)).map f=l.map f:=by rw[Fs]
 rw[List.map_map]at h;exact h
theorem Eu (x:Z8) (u:Ty) (k t n ps fs vs):Bh x u (.mk k t n ps fs vs)=if (k == 16 && decide (t=x))=true then u
  else if (k == 15)=true then E5 (ps.map (Bh x u))
  else .mk k t n (Fk x u (fun i=>E9 vs x || Cz k t n ps i x) 0 ps) (fs.map fun f=>(f.1,f.2.1,Bh x u f.2.2)) (vs.map fun v=>(v.1,v.2.map fun b=>if E9 vs x=true then b else Bh x u b)):=by
 rw[Bh];have h:=Vc x u (fun i=>E9 vs x || Cz k t n ps i x) (fun p:{y // y∈ps}=>p.1) ps.attach 0;simp only[Nat.add_zero]at h;rw[Fs]at h;have h1:(ps.attach.map fun p=>Bh x u p.1)=ps.map (Bh x u):=Hu (Bh x u) ps;have h2:(fs.attach.map fun f=>(f.1.1,f.1.2.1,Bh x u f.1.2.2))=fs.map fun f=>(f.1,f.2.1,Bh x u f.2.2):=Hu (fun f:Z8×Int×Ty=>(f.1,f.2.1,Bh x u f.2.2)) fs;have h3:(vs.attach.map fun v=>(v.1.1,v.1.2.attach.map fun b=>if E9 vs x=true then b.1 else Bh x u b.1))=vs.map fun v=>(v.1,v.2.map fun b=>if E9 vs x=true then b else Bh x u b):=by
  have e:(fun v:{v // v∈vs}=>(v.1.1,v.1.2.attach.map fun b=>if E9 vs x=true then b.1 else Bh x u b.1))=fun v:{v // v∈vs}=>(v.1.1,v.1.2.map fun b=>if E9 vs x=true then b else Bh x u b):=by
   funext v;rw[Hu (fun b=>if E9 vs x=true then b else Bh x u b) v.1.2]
  rw[e];exact Hu (fun v:Z8×List Ty=>(v.1,v.2.map fun b=>if E9 vs x=true then b else Bh x u b)) vs
 rw[<-h1,<-h2,<-h3,<-h]
theorem Na {x:Z8}{u:Ty}{cut:Nat->Bool}:∀ {l:List Ty}{j:Nat},(∀p∈l,Bp x p=false->Bh x u p=p)->Dn x cut j l=false->Fk x u cut j l=l
 | [],_,_,_=>rfl
 | p :: l,j,hp,h=>by
  rw[Dn,Bool.or_eq_false_iff]at h;rw[Fk,Na (fun q hq=>hp q (List.mem_cons_of_mem _ hq)) h.2];by_cases hc:cut j=true
  ·rw[if_pos hc]
  ·rw[if_neg hc];have h1:Bp x p=false:=by
    have:=h.1;rw[Bool.not_eq_true]at hc;rw[hc]at this;simpa using this
   rw[hp p List.mem_cons_self h1]
def Fl (ps:List Ty):Ty:=.mk 21 Bv 0 (Hi 1 :: ps.drop 1) [] []
def E3 (ps:List Ty) (vs:Bt):Ty:=.mk 12 Bv 0 (ps++(vs.map (·.2)).flatten) [] []
def Rh (x:Z8) (ps:List Ty) (i:Nat):Bool:=match ps[i]? with
 | some p=>Bp x p
 | none=>false
def Qe (x:Z8) (u:Ty) (k:Int) (t:Z8) (n:Int) (ps:List Ty) (vs:Bt):Bool:=
 (E9 vs x || !Bp x (E3 ps vs) || !(vs.any fun v=>Bp v.1 u)) &&
 ((!(k == 20) || decide (t=x) || !Rh x ps 1 || !Bp t u) &&
 ((!(k == 21 && n == 1) || decide (t=x) || !Bp x (Fl ps) || !Bp t u) &&
  (!(k == 21) || Dc (Cu ps) x || !Rh x ps 2 || !((Cu ps).any fun y=>Bp y u))))
def Ej (x:Z8) (u:Ty):Ty->Bool
 | .mk k t n ps fs vs=>Qe x u k t n ps vs && ((vs.attach.all fun ⟨v,_⟩=>v.2.attach.all fun ⟨b,_⟩=>Ej x u b) && ((ps.attach.all fun ⟨p,_⟩=>Ej x u p) && (fs.attach.all fun ⟨f,_⟩=>Ej x u f.2.2)))
termination_by t=>SizeOf.sizeOf t
decreasing_by
 ·exact E2 ‹_› ‹_›
 ·exact D2 ‹_›
 ·exact Ei ‹_›
theorem Uk (x:Z8) (u:Ty) (k t n ps fs vs):Ej x u (.mk k t n ps fs vs)=(Qe x u k t n ps vs && ((vs.all fun v=>v.2.all (Ej x u)) && (ps.all (Ej x u) && fs.all fun f=>Ej x u f.2.2))):=by
 rw[Ej];have h1:(ps.attach.all fun p=>Ej x u p.1)=ps.all (Ej x u):=Di (Ej x u) ps;have h2:(fs.attach.all fun f=>Ej x u f.1.2.2)=fs.all fun f=>Ej x u f.2.2:=Di (fun f:Z8×Int×Ty=>Ej x u f.2.2) fs;have h3:(vs.attach.all fun v=>v.1.2.attach.all fun b=>Ej x u b.1)=vs.all fun v=>v.2.all (Ej x u):=by
  have e:(fun v:{v // v∈vs}=>v.1.2.attach.all fun b=>Ej x u b.1)=fun v:{v // v∈vs}=>v.1.2.all (Ej x u):=by
   funext v;exact Di (Ej x u) v.1.2
  rw[e];exact Di (fun v:Z8×List Ty=>v.2.all (Ej x u)) vs
 rw[h1,h2,h3]
theorem X6 {x:Z8}{u:Ty}{k:Int}{t:Z8}{n:Int}{ps:List Ty}{fs:Bx}{vs:Bt}(h:Ej x u (.mk k t n ps fs vs)=true):Qe x u k t n ps vs=true/\(∀v∈vs,∀b∈v.2,Ej x u b=true)/\(∀p∈ps,Ej x u p=true)/\∀f∈fs,Ej x u f.2.2=true:=by
 rw[Uk,Bool.and_eq_true,Bool.and_eq_true,Bool.and_eq_true,List.all_eq_true,List.all_eq_true,List.all_eq_true]at h;exact⟨h.1,fun v hv b hb=>List.all_eq_true.1 (h.2.1 v hv) b hb,h.2.2.1,h.2.2.2⟩
theorem Jbb {x:Z8}{u:Ty}{k:Int}{t:Z8}{n:Int}{ps:List Ty}{fs:Bx}{vs:Bt}(h1:Qe x u k t n ps vs=true) (h2:∀v∈vs,∀b∈v.2,Ej x u b=true) (h3:∀p∈ps,Ej x u p=true) (h4:∀f∈fs,Ej x u f.2.2=true):Ej x u (.mk k t n ps fs vs)=true:=by
 rw[Uk,Bool.and_eq_true,Bool.and_eq_true,Bool.and_eq_true,List.all_eq_true,List.all_eq_true,List.all_eq_true];exact⟨h1,fun v hv=>List.all_eq_true.2 (h2 v hv),h3,h4⟩
theorem Jbd {x:Z8}{u:Ty}{k:Int}{t:Z8}{n:Int}{ps:List Ty}{vs:Bt}
  (h1:E9 vs x=false->Bp x (E3 ps vs)=true->∀v∈vs,Bp v.1 u=false)
  (h2:k=20->t≠x->Rh x ps 1=true->Bp t u=false)
  (h3:k=21->n=1->t≠x->Bp x (Fl ps)=true->Bp t u=false)
  (h4:k=21->Dc (Cu ps) x=false->Rh x ps 2=true->∀y∈Cu ps,Bp y u=false):Qe x u k t n ps vs=true:=by
 unfold Qe;rw[Bool.and_eq_true,Bool.and_eq_true,Bool.and_eq_true];refine⟨?_,?_,?_,?_⟩
 ·cases e1:E9 vs x with
  | true=>simp
  | false=>
   cases e2:Bp x (E3 ps vs) with
   | false=>simp
   | true=>
    have:=h1 e1 e2;simp only[Bool.false_or,Bool.not_true,Bool.not_eq_true',List.any_eq_false];intro v hv;rw[this v hv];decide
 ·by_cases e0:k=20
  ·by_cases e1:t=x
   ·simp[e1]
   ·cases e2:Rh x ps 1 with
    | false=>simp
    | true=>simp[h2 e0 e1 e2]
  ·simp[e0]
 ·by_cases e0:k=21
  ·by_cases en:n=1
   ·by_cases e1:t=x
    ·simp[e1]
    ·cases e2:Bp x (Fl ps) with
     | false=>simp
     | true=>simp[h3 e0 en e1 e2]
   ·simp[en]
  ·simp[e0]
 ·by_cases e0:k=21
  ·cases e1:Dc (Cu ps) x with
   | true=>simp
   | false=>
    cases e2:Rh x ps 2 with
    | false=>simp
    | true=>
     have:=h4 e0 e1 e2;simp only[Bool.or_false,Bool.not_true,Bool.or_eq_true,Bool.not_eq_true',List.any_eq_false]
     right;intro v hv;rw[this v hv];decide
  ·simp[e0]
theorem X7 {x:Z8}{u:Ty}{k:Int}{t:Z8}{n:Int}{ps:List Ty}{vs:Bt}(h:Qe x u k t n ps vs=true) :
  (E9 vs x=false->Bp x (E3 ps vs)=true->∀v∈vs,Bp v.1 u=false) /\
  (k=20->t≠x->Rh x ps 1=true->Bp t u=false) /\
  (k=21->n=1->t≠x->Bp x (Fl ps)=true->Bp t u=false) /\
  (k=21->Dc (Cu ps) x=false->Rh x ps 2=true->∀y∈Cu ps,Bp y u=false):=by
 unfold Qe at h;rw[Bool.and_eq_true,Bool.and_eq_true,Bool.and_eq_true]at h;obtain⟨h1,h2,h3,h4⟩:=h;refine⟨fun e1 e2 v hv=>?_,fun e0 e1 e2=>?_,fun e0 en e1 e2=>?_,fun e0 e1 e2 y hy=>?_⟩
 ·rw[e1,e2]at h1;simp only[Bool.false_or,Bool.not_true,Bool.not_eq_true',List.any_eq_false]at h1;exact Bool.eq_false_iff.2 (h1 v hv)
 ·subst e0;simp only[e2,decide_eq_false e1]at h2;simpa using h2
 ·subst e0;subst en;simp only[e2,decide_eq_false e1]at h3;simpa using h3
 ·subst e0;simp only[e1,e2]at h4;simp only[beq_self_eq_true,Bool.not_true,Bool.false_or,Bool.not_eq_true',List.any_eq_false]at h4;exact Bool.eq_false_iff.2 (h4 y hy)
theorem Mc {x:Z8}{u:Ty}(t:Ty):(∀y∈Ed t,Bp y u=true->y=x)->Ej x u t=true:=by
 refine Ty.ind (C:=fun t=>(∀y∈Ed t,Bp y u=true->y=x)->Ej x u t=true) (fun k t n ps fs vs hp hf hv h=>?_) t;have hn:∀y,y∈Ed (.mk k t n ps fs vs)->y≠x->Bp y u=false:=fun y hy hD=>Bool.eq_false_iff.2 fun e=>hD (h y hy e);refine Jbb (Jbd (fun e1 _ v hA=>hn _ (X1 hA) fun e=>?_) (fun _ e1 _=>hn _ Ij e1) (fun _ _ e1 _=>hn _ Ij e1) fun _ e1 _ y hy=>hn _ (Qd hy) fun e=>?_) (fun v hA b hb=>hv v hA b hb fun y hy=>h y (Qb hA hb hy)) (fun p hC=>hp p hC fun y hy=>h y (Jk hC hy)) fun f hB=>hf f hB fun y hy=>h y (Qc hB hy)
 ·rw[Bool.eq_false_iff]at e1;exact e1 (List.any_eq_true.2 ⟨v,hA,decide_eq_true e⟩)
 ·rw[Bool.eq_false_iff]at e1;exact e1 (Dh.2 (e ▸ hy))
theorem Jdz (k:Int):Dk (Hi k)=true:=by
 unfold Hi;rw[Hy];simp
def Nr:Ty->List Z8
 | .mk _ t _ ps fs vs=>t :: (vs.map (·.1)++((vs.attach.map fun ⟨v,_⟩=>(v.2.attach.map fun ⟨b,_⟩=>Nr b).flatten).flatten++((ps.attach.map fun ⟨p,_⟩=>Nr p).flatten++(fs.attach.map fun ⟨f,_⟩=>Nr f.2.2).flatten)))
termination_by t=>SizeOf.sizeOf t
decreasing_by
 ·exact E2 ‹_› ‹_›
 ·exact D2 ‹_›
 ·exact Ei ‹_›
theorem Jdt (k t n ps fs vs):Nr (.mk k t n ps fs vs)=t :: (vs.map (·.1)++((vs.map fun v=>(v.2.map Nr).flatten).flatten++((ps.map Nr).flatten++(fs.map fun f=>Nr f.2.2).flatten))):=by
 rw[Nr];have h1:(ps.attach.map fun p=>Nr p.1).flatten=(ps.map Nr).flatten:=Db Nr ps;have h2:(fs.attach.map fun f=>Nr f.1.2.2).flatten=(fs.map fun f=>Nr f.2.2).flatten:=Db (fun f:Z8×Int×Ty=>Nr f.2.2) fs;have h3:(vs.attach.map fun v=>(v.1.2.attach.map fun b=>Nr b.1).flatten).flatten=(vs.map fun v=>(v.2.map Nr).flatten).flatten:=by
  have e:(fun v:{v // v∈vs}=>(v.1.2.attach.map fun b=>Nr b.1).flatten)=fun v:{v // v∈vs}=>(v.1.2.map Nr).flatten:=by
   funext v;exact Db Nr v.1.2
  rw[e];exact Db (fun v:Z8×List Ty=>(v.2.map Nr).flatten) vs
 rw[h1,h2,h3]

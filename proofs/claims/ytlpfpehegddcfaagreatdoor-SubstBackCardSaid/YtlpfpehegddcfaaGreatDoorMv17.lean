import Derived.Test.YtlpfpehegddcfaaGreatDoorMv16
namespace Go.Proofs.YtlpfpehegddcfaaGreatDoor
set_option maxRecDepth 100000
set_option maxHeartbeats 64000000
open Go.RowKit
def Io (l:List Ty):Bool:=l.all fun t=>t.k == 13
theorem Jaq {K:Nat->Prop} {w:World} {l:List Ty} {A:Option Addr} {c:Nat} (hL:ListT K w l A c) :
  Calls Tryz.prog 73 #[.slice A l.length c] w fun e w'=>e=.returned (.bool (Io l))/\w'=w:=by
 have HL:=Hd hL;have hll:=hL.short;clear hL;go_enter Tryz.func73,Tryz.ntmps73;go_wp2_with fail
 go_loopw [3] (fun v wr=>∃ (i:Nat),i<=l.length/\v=.int .i64 i/\Io l=Io (l.drop i)/\wr=w) (fun v _=>l.length - (intOf v).toNat)
 case atStart=>exact⟨0,by omega,rfl,by rw[List.drop_zero],rfl⟩
 case round=>
  obtain⟨i,hi,rfl,he,rfl⟩:=hrel;have HE:=Hd he;clear he;by_cases hin:i<l.length
  ·have t1:decide ((i:Int)<(l.length:Int))=true:=by simp;omega
   have wr2:wrap64 ((i:Int)+1)=((i+1:Nat):Int):=Ao (by omega);obtain⟨b,o,hA,_,hat⟩:=HL.out.at (by omega);subst hA;obtain⟨q,hq,hcq⟩:∃ q,(l[i]'hin).k=q/\wr.cell? ⟨b,o+i*6,none⟩=some (.int .i64 q):=by
    have h1:=hat i hin;generalize l[i]=t at h1;obtain⟨k,s,n,ps,fs,vs⟩:=t;obtain⟨_,_,_,_,_,_,⟨x0,_⟩,_⟩:=h1.six;exact⟨k,rfl,x0⟩
   have HS:Hid (Io (l.drop i)=((l[i]'hin).k == 13 && Io (l.drop (i+1)))):=Hd (by rw[List.drop_eq_getElem_cons hin];rfl);have HM:=Hd (Ba hin);have HIn:Hid (i+1<=l.length):=Hd hin;by_cases hk:q=13
   ·have HK:Hid (((l[i]'hin).k == 13)=true):=Hd (by rw[hq];simpa using hk);have e13:(q != 13)=false:=(by simpa using hk);clear hat hi hq hk;go_wp2_with fail;refine⟨⟨i+1,HIn.out,by first | rfl | rw[wr2],by rw[HE.out,HS.out,HK.out];rfl,by first | rfl | trivial⟩,?_⟩;first | exact HM.out | (rw[wr2];exact HM.out)
   ·have HK:Hid (((l[i]'hin).k == 13)=false):=Hd (by rw[hq];simpa using hk);have e13:(q != 13)=true:=(by simpa using hk);clear hat hi hq hk;go_wp2_with fail;go_ret
    exact⟨by rw[HE.out,HS.out,HK.out];rfl,rfl⟩
  ·have t1:decide ((i:Int)<(l.length:Int))=false:=by simp;omega
   have HE1:Hid (Io l=true):=Hd (by rw[HE.out,List.drop_eq_nil_of_le (by omega)];rfl);clear hi;go_wp2_with fail;go_ret
   exact⟨by rw[HE1.out];rfl,rfl⟩
theorem Wx {w:World} (k:Int) (s:ByteArray) (n:Int) (A:Option Addr) (a c:Nat) (A':Option Addr) (a' c':Nat) (A'':Option Addr) (a'' c'':Nat) :
  Calls Tryz.prog 70 #[.agg #[.int .i64 k,.string s,.int .i64 n,.slice A a c,.slice A' a' c',.slice A'' a'' c'']] w fun e w'=>e=.returned (.bool (s.toList == [] && n == 0))/\Below w.heap.size w w':=by
 have HBW:Hid (Below w.heap.size w (w.alloc (.cells #[.int .i64 k,.string s,.int .i64 n,.slice A a c,.slice A' a' c',.slice A'' a'' c''] 26))):=Hd ((Below.refl _ _).alloc (Nat.le_refl _) _);have HC:=Hd (Dn w [.int .i64 k,.string s,.int .i64 n,.slice A a c,.slice A' a' c',.slice A'' a'' c''] 26);have x1:(w.alloc (.cells #[.int .i64 k,.string s,.int .i64 n,.slice A a c,.slice A' a' c',.slice A'' a'' c''] 26)).cell? ⟨w.heap.size,1,none⟩=some (.string s):=HC.out 1 _ rfl;have x2:(w.alloc (.cells #[.int .i64 k,.string s,.int .i64 n,.slice A a c,.slice A' a' c',.slice A'' a'' c''] 26)).cell? ⟨w.heap.size,2,none⟩=some (.int .i64 n):=HC.out 2 _ rfl
 cases h:(s.toList == []) with
 | true=>
  go_enter Tryz.func70,Tryz.ntmps70;go_wp2_with fail;go_ret
  exact⟨by simp,HBW.out⟩
 | false=>
  go_enter Tryz.func70,Tryz.ntmps70;go_wp2_with fail;go_ret
  exact⟨by simp,HBW.out⟩
theorem Jda {K':Nat->Prop} {w0 w:World} {t:Ty} (x0:Int) (x1:ByteArray) (x2:Int) (x3:Option Addr) (x4 x5:Nat) (x6:Option Addr) (x7 x8:Nat) (x9:Option Addr) (xa xb:Nat) (ht:RepT K' w0 t [.int .i64 x0,.string x1,.int .i64 x2,.slice x3 x4 x5,.slice x6 x7 x8,.slice x9 xa xb]) (hb:Below w0.heap.size w0 w) :
  Calls Tryz.prog 60 #[.slice none 0 0,.agg #[.int .i64 x0,.string x1,.int .i64 x2,.slice x3 x4 x5,.slice x6 x7 x8,.slice x9 xa xb]] w (Gf K' w0 [] t):=by
 have HBA:Hid (Below w0.heap.size w0 (w.alloc (.cells #[.int .i64 x0,.string x1,.int .i64 x2,.slice x3 x4 x5,.slice x6 x7 x8,.slice x9 xa xb] 26))):=Hd (hb.alloc hb.size _);have HBX:Hid ((w.alloc (.cells #[.int .i64 x0,.string x1,.int .i64 x2,.slice x3 x4 x5,.slice x6 x7 x8,.slice x9 xa xb] 26)).heap[w.heap.size]?=some (.cells #[.int .i64 x0,.string x1,.int .i64 x2,.slice x3 x4 x5,.slice x6 x7 x8,.slice x9 xa xb] 26 (0,0))):=Hd (heap_alloc_new w _);have HT:=Hd ht;obtain⟨i0,hi0,hz0,hz1,hz2⟩:=D4 Hh;unfold Gf;clear ht hb;go_enter Tryz.func60,Tryz.ntmps60;go_wp2_with fail
 go_loopw [5] (fun v wr=>v=.int .i64 0/\wr=w.alloc (.cells #[.int .i64 x0,.string x1,.int .i64 x2,.slice x3 x4 x5,.slice x6 x7 x8,.slice x9 xa xb] 26)) (fun _ _=>0)
 case atStart=>exact⟨rfl,rfl⟩
 case round=>
  obtain⟨rfl,rfl⟩:=hrel;go_wp2_with fail;refine wp_region_held_drew (S:=(fun _=>True)) (by kernel_rfl) trivial (fun hHeld=>?_);refine Plan.start [0,1,2] ?_
  iterate 3 (refine Plan.tk (so rfl) hHeld ?_;try simp only[Act.put,Ax,Ay,Az])
  refine Plan.done ?_;refine Plan.start [3,4,5,6,7,8,9,10] ?_
  iterate 8 (refine Plan.take (v:=undef) (so rfl) (by kernel_rfl) (by kernel_rfl) (by kernel_rfl) (fun _ _ _ h=>h) (Or.inr ⟨by rfl,rfl⟩) hHeld ?_;try simp only[Act.put,Ax,Ay,Az])
  refine Plan.done ?_;refine Plan.start [11] ?_;refine Plan.tk (so rfl) hHeld ?_;try simp only[Act.put,Ax,Ay,Az]
  refine Plan.done ?_;refine wpAnyH_done (by kernel_rfl) ?_ _;clear hHeld;go_wp2_with fail;refine wp_region_held_drew (S:=(fun _=>True)) (by kernel_rfl) trivial (fun hHeld=>?_);refine Plan.start [0,1,2] ?_
  iterate 3 (refine Plan.tk (so rfl) hHeld ?_;try simp only[Act.put,Ax,Ay,Az])
  refine Plan.done ?_;refine Plan.start [3,4,5,6,7,8,9,10] ?_
  iterate 8 (refine Plan.take (v:=undef) (so rfl) (by kernel_rfl) (by kernel_rfl) (by kernel_rfl) (fun _ _ _ h=>h) (Or.inr ⟨by rfl,rfl⟩) hHeld ?_;try simp only[Act.put,Ax,Ay,Az])
  refine Plan.done ?_;refine Plan.start [11] ?_;refine Plan.tk (so rfl) hHeld ?_;try simp only[Act.put,Ax,Ay,Az]
  refine Plan.done ?_;refine wpAnyH_done (by kernel_rfl) ?_ _;clear hHeld;have hw1:(w.alloc (.cells #[.int .i64 x0,.string x1,.int .i64 x2,.slice x3 x4 x5,.slice x6 x7 x8,.slice x9 xa xb] 26)).heap.size=w.heap.size+1:=World.size_alloc _ _;have HOWA:Hid ((((w.alloc (.cells #[.int .i64 x0,.string x1,.int .i64 x2,.slice x3 x4 x5,.slice x6 x7 x8,.slice x9 xa xb] 26)).alloc (.cells #[.int .i64 x0,.string x1,.int .i64 x2,.slice x3 x4 x5,.slice x6 x7 x8,.slice x9 xa xb] 26)).drew.drew).ownsRow w0.heap.size 26 6 (.slice none 0 0) 0 []):=Hd (World.ownsRow_nil _ _ _ _);have HC2:=Hd (Dn (w.alloc (.cells #[.int .i64 x0,.string x1,.int .i64 x2,.slice x3 x4 x5,.slice x6 x7 x8,.slice x9 xa xb] 26)) [.int .i64 x0,.string x1,.int .i64 x2,.slice x3 x4 x5,.slice x6 x7 x8,.slice x9 xa xb] 26);rw[hw1] at HC2;obtain⟨y0,y1,y2,y3,y4,y5⟩:=Ry _ _ _ _ _ _ _ _ _ _ _ _ HBX.out;have HW1:=Hd hw1;clear hw1;go_wp2_with (at_builtin;refine wpList_plain rfl fun K hK=>?_;go_loud (refine Bz _ _ 22 rfl w0.heap.size 26 i0 (.agg #[.int .i64 0,.string ⟨#[]⟩,.int .i64 0,.slice none 0 0,.slice none 0 0,.slice none 0 0]) 6 104 Tryz.underlying22 hi0 hz0 hz1 hz2 rfl (by decide) _ _ _ rfl HOWA.out ⟨w.heap.size+1,0,none⟩ 1 1 [.int .i64 x0,.string x1,.int .i64 x2,.slice x3 x4 x5,.slice x6 x7 x8,.slice x9 xa xb] rfl rfl ?a0 ?a1 ?a2 ?a3 ?a4 ?_))
  case a0=>exact HC2.out
  case a1=>
   intro u hu;simp only[List.mem_cons,List.not_mem_nil,or_false] at hu;rcases hu with rfl | rfl | rfl | rfl | rfl | rfl <;> rfl
  case a2=>unfold maxLen;omega
  case a3=>omega
  case a4=>
   have h3:((w.alloc (.cells #[.int .i64 x0,.string x1,.int .i64 x2,.slice x3 x4 x5,.slice x6 x7 x8,.slice x9 xa xb] 26)).alloc (.cells #[.int .i64 x0,.string x1,.int .i64 x2,.slice x3 x4 x5,.slice x6 x7 x8,.slice x9 xa xb] 26)).heap.size=(w.alloc (.cells #[.int .i64 x0,.string x1,.int .i64 x2,.slice x3 x4 x5,.slice x6 x7 x8,.slice x9 xa xb] 26)).heap.size+1:=World.size_alloc _ _;have h5:=HBA.out.size;show w0.heap.size<=((w.alloc (.cells #[.int .i64 x0,.string x1,.int .i64 x2,.slice x3 x4 x5,.slice x6 x7 x8,.slice x9 xa xb] 26)).alloc (.cells #[.int .i64 x0,.string x1,.int .i64 x2,.slice x3 x4 x5,.slice x6 x7 x8,.slice x9 xa xb] 26)).heap.size;omega
  intro v5 w5 hown5 hg5 _ hwhere;refine hK _ _ ?_;clear hK K y0 y1 y2 y3 y4 y5;have hp5:=Gy (v:=.slice none 0 0) (os:=[]) (vs:=[]) (w2:=(w.alloc (.cells #[.int .i64 x0,.string x1,.int .i64 x2,.slice x3 x4 x5,.slice x6 x7 x8,.slice x9 xa xb] 26)).drew.drew) HBA.out.drew.drew (World.ownsRow_nil _ _ _ _) (fun i h=>absurd h (by simp)) HT.out hown5 hg5;have hbox5:w5.heap[w.heap.size]?=some (.cells #[.int .i64 x0,.string x1,.int .i64 x2,.slice x3 x4 x5,.slice x6 x7 x8,.slice x9 xa xb] 26 (0,0)):=by
   have hlt:=(Array.getElem?_eq_some_iff.1 HBX.out).1;have h3:((w.alloc (.cells #[.int .i64 x0,.string x1,.int .i64 x2,.slice x3 x4 x5,.slice x6 x7 x8,.slice x9 xa xb] 26)).alloc (.cells #[.int .i64 x0,.string x1,.int .i64 x2,.slice x3 x4 x5,.slice x6 x7 x8,.slice x9 xa xb] 26)).heap.size=(w.alloc (.cells #[.int .i64 x0,.string x1,.int .i64 x2,.slice x3 x4 x5,.slice x6 x7 x8,.slice x9 xa xb] 26)).heap.size+1:=World.size_alloc _ _;have h6:((w.alloc (.cells #[.int .i64 x0,.string x1,.int .i64 x2,.slice x3 x4 x5,.slice x6 x7 x8,.slice x9 xa xb] 26)).alloc (.cells #[.int .i64 x0,.string x1,.int .i64 x2,.slice x3 x4 x5,.slice x6 x7 x8,.slice x9 xa xb] 26)).heap[w.heap.size]?=(w.alloc (.cells #[.int .i64 x0,.string x1,.int .i64 x2,.slice x3 x4 x5,.slice x6 x7 x8,.slice x9 xa xb] 26)).heap[w.heap.size]?:=Below.heap_alloc (w.alloc (.cells #[.int .i64 x0,.string x1,.int .i64 x2,.slice x3 x4 x5,.slice x6 x7 x8,.slice x9 xa xb] 26)) _ _ hlt;exact (hg5.block w.heap.size (by show w.heap.size<((w.alloc (.cells #[.int .i64 x0,.string x1,.int .i64 x2,.slice x3 x4 x5,.slice x6 x7 x8,.slice x9 xa xb] 26)).alloc (.cells #[.int .i64 x0,.string x1,.int .i64 x2,.slice x3 x4 x5,.slice x6 x7 x8,.slice x9 xa xb] 26)).heap.size;omega) (fun e=>by cases e)).trans (h6.trans HBX.out)
  rcases InT.of_out hp5.1 with ⟨-,hnil⟩ | ⟨g5,c5,hv5,hgg5,hin5⟩
  ·exact absurd hnil (by simp)
  have hgne:g5≠w.heap.size:=by
   rcases hwhere with h | h
   ·rw[hv5] at h
    cases h
   ·rw[hv5] at h;have h1:=HW1.out;have h2:g5=(w.alloc (.cells #[.int .i64 x0,.string x1,.int .i64 x2,.slice x3 x4 x5,.slice x6 x7 x8,.slice x9 xa xb] 26)).heap.size+1:=(by first | exact Option.some.inj h | (have h3:=Option.some.inj h;simpa using h3));omega
  subst hv5;rw[List.nil_append] at hin5;have HSET:Hid (InT K' w0 (w5.setCells g5 (0*6) [.int .i64 x0,.string x1,.int .i64 x2,.slice x3 x4 x5,.slice x6 x7 x8,.slice x9 xa xb]) g5 c5 [t]):=Hd (InT.set (a:=[]) (b:=[]) hin5 HT.out);have hset:=(HSET.out).out hgg5;have HFIN:Hid (OutT K' w0 (w5.setCells g5 0 [.int .i64 x0,.string x1,.int .i64 x2,.slice x3 x4 x5,.slice x6 x7 x8,.slice x9 xa xb]) (.slice (some ⟨g5,0,none⟩) 1 c5) (Fc t [])/\Below w0.heap.size w0 (w5.setCells g5 0 [.int .i64 x0,.string x1,.int .i64 x2,.slice x3 x4 x5,.slice x6 x7 x8,.slice x9 xa xb])):=Hd ⟨hset,Ds hgg5 _ _ _ hp5.2⟩;obtain⟨r0,r1,r2,r3,r4,r5,r6,r7,r8,r9,ra,rb,hr,-⟩:=hin5.sixAt (i:=0) (t:=t) rfl;simp only[Nat.zero_mul,Nat.zero_add] at hr;obtain⟨r0',r1',r2',r3',r4',r5'⟩:=hr;obtain⟨z0,z1,z2,z3,z4,z5⟩:=Ry _ _ _ _ _ _ _ _ _ _ _ _ hbox5;have hbk5:=hin5.blk;obtain⟨cur,hcur,-⟩:=hbk5;have hfr:∀ o,w5.frozen? ⟨g5,o,none⟩=false:=fun o=>Lib.frozen_of_heap hcur o;clear hown5 hg5 hp5 hbox5 hwhere hin5 hgne hgg5 hset hcur;go_wp2_with fail
  go_loopw [6] (fun v wr=>v=.int .i64 0/\wr=w5) (fun _ _=>0)
  case atStart=>exact⟨by first | rfl | simp,rfl⟩
  case round=>
   obtain⟨rfl,rfl⟩:=hrel;go_wp2_with fail;go_ret
   exact⟨_,rfl,HFIN.out.1,HFIN.out.2⟩
def Df (ps:List Ty):List ByteArray:=match ps[1]? with
 | some p=>Aw p
 | none=>[]
def C5 (k:Int) (t:ByteArray) (n:Int) (ps:List Ty) (i:Nat) (x:ByteArray):Bool:=
 (((k == 20 && i == 1) || (k == 21 && n == 1 && decide (0<i))) && decide (t=x)) || (k == 21 && i == 2 && ps.length == 4 && Cl (Df ps) x)
def Bl (x:ByteArray):Ty->Bool
 | .mk k t n ps fs vs=>(k == 16 && decide (t=x)) || (!(vs.any fun v=>decide (v.1=x)) && ((vs.attach.any fun ⟨v,_⟩=>v.2.attach.any fun ⟨b,_⟩=>Bl x b) || ((ps.attach.mapIdx fun i ⟨p,_⟩=>!C5 k t n ps i x && Bl x p).any id || (fs.attach.any fun ⟨f,_⟩=>Bl x f.2.2))))
termination_by t=>SizeOf.sizeOf t
decreasing_by
 ·exact E5 ‹_› ‹_›
 ·exact Dt ‹_›
 ·exact Ec ‹_›
def Em (x:ByteArray) (cut:Nat->Bool):Nat->List Ty->Bool
 | _,[]=>false
 | i,p :: l=>(!cut i && Bl x p) || Em x cut (i+1) l
def Hr (x:ByteArray) (l:List Ty):Bool:=l.any (Bl x)
def J1 (x:ByteArray) (l:Bm):Bool:=l.any fun v=>Hr x v.2
def Mj (x:ByteArray) (l:Bp):Bool:=l.any fun f=>Bl x f.2.2
def Dq (vs:Bm) (x:ByteArray):Bool:=vs.any fun v=>decide (v.1=x)
theorem Tz {α:Type} (x:ByteArray) (cut:Nat->Bool) (g:α->Ty):∀ (l:List α) (j:Nat),(l.mapIdx fun i p=>!cut (i+j) && Bl x (g p)).any id=Em x cut j (l.map g)
 | [],_=>rfl
 | a :: l,j=>by
  rw[List.mapIdx_cons,List.any_cons,List.map_cons,Em,<-Tz x cut g l (j+1)];simp only[Nat.zero_add,id_eq,Nat.add_assoc,Nat.add_comm 1 j]
theorem Fa {α:Type} (l:List α):l.attach.map (fun a=>a.1)=l:=by simp
theorem Ir {α:Type} (p:α->Bool) (l:List α):(l.attach.any fun a=>p a.1)=l.any p:=by
 have h:(l.attach.map (fun a=>a.1)).any p=l.any p:=by rw[Fa]
 rw[List.any_map] at h;exact h
theorem Ef (x:ByteArray) (k t n ps fs vs):Bl x (.mk k t n ps fs vs)=((k == 16 && decide (t=x)) || (!Dq vs x && (J1 x vs || (Em x (fun i=>C5 k t n ps i x) 0 ps || Mj x fs)))):=by
 rw[Bl];have h:=Tz x (fun i=>C5 k t n ps i x) (fun p:{x // x∈ps}=>p.1) ps.attach 0;simp only[Nat.add_zero] at h;rw[h];have h1:ps.attach.map (fun p:{x // x∈ps}=>p.1)=ps:=Fa ps;rw[h1];have h2:(fs.attach.any fun f=>Bl x f.1.2.2)=Mj x fs:=Ir (fun f:ByteArray×Int×Ty=>Bl x f.2.2) fs;have h3:(vs.attach.any fun v=>v.1.2.attach.any fun b=>Bl x b.1)=J1 x vs:=by
  have e:(fun v:{v // v∈vs}=>v.1.2.attach.any fun b=>Bl x b.1)=fun v:{v // v∈vs}=>Hr x v.1.2:=by
   funext v;exact Ir (Bl x) v.1.2
  rw[e];exact Ir (fun v:ByteArray×List Ty=>Hr x v.2) vs
 rw[h2,h3];rfl
def Ee:Ty->List ByteArray
 | .mk _ t _ ps fs vs=>t :: (vs.map (·.1)++(Df ps++((vs.attach.map fun ⟨v,_⟩=>(v.2.attach.map fun ⟨b,_⟩=>Ee b).flatten).flatten++((ps.attach.map fun ⟨p,_⟩=>Ee p).flatten++(fs.attach.map fun ⟨f,_⟩=>Ee f.2.2).flatten))))
termination_by t=>SizeOf.sizeOf t
decreasing_by
 ·exact E5 ‹_› ‹_›
 ·exact Dt ‹_›
 ·exact Ec ‹_›
theorem Cw {α β:Type} (g:α->List β) (l:List α):(l.attach.map fun a=>g a.1).flatten=(l.map g).flatten:=by
 have h:(l.attach.map (fun a=>a.1)).map g=l.map g:=by rw[Fa]
 rw[List.map_map] at h;exact congrArg List.flatten h
theorem Ht (k t n ps fs vs):Ee (.mk k t n ps fs vs)=t :: (vs.map (·.1)++(Df ps++((vs.map fun v=>(v.2.map Ee).flatten).flatten++((ps.map Ee).flatten++(fs.map fun f=>Ee f.2.2).flatten)))):=by
 rw[Ee];have h1:(ps.attach.map fun p=>Ee p.1).flatten=(ps.map Ee).flatten:=Cw Ee ps;have h2:(fs.attach.map fun f=>Ee f.1.2.2).flatten=(fs.map fun f=>Ee f.2.2).flatten:=Cw (fun f:ByteArray×Int×Ty=>Ee f.2.2) fs;have h3:(vs.attach.map fun v=>(v.1.2.attach.map fun b=>Ee b.1).flatten).flatten=(vs.map fun v=>(v.2.map Ee).flatten).flatten:=by
  have e:(fun v:{v // v∈vs}=>(v.1.2.attach.map fun b=>Ee b.1).flatten)=fun v:{v // v∈vs}=>(v.1.2.map Ee).flatten:=by
   funext v;exact Cw Ee v.1.2
  rw[e];exact Cw (fun v:ByteArray×List Ty=>(v.2.map Ee).flatten) vs
 rw[h1,h2,h3]
theorem G6 {k:Int} {t:ByteArray} {n:Int} {ps:List Ty} {fs:Bp} {vs:Bm}:t∈Ee (.mk k t n ps fs vs):=by rw[Ht];exact List.mem_cons_self
theorem L5 {k:Int} {t:ByteArray} {n:Int} {ps:List Ty} {fs:Bp} {vs:Bm} {x:ByteArray} (h:x∈Df ps):x∈Ee (.mk k t n ps fs vs):=by
 rw[Ht];simp[h]
theorem Sb {k:Int} {t:ByteArray} {n:Int} {ps:List Ty} {fs:Bp} {vs:Bm} {v:ByteArray×List Ty} (h:v∈vs):v.1∈Ee (.mk k t n ps fs vs):=by
 rw[Ht];exact List.mem_cons_of_mem _ (List.mem_append_left _ (List.mem_map_of_mem h))
theorem I5 {k:Int} {t:ByteArray} {n:Int} {ps:List Ty} {fs:Bp} {vs:Bm} {v:ByteArray×List Ty} {b:Ty} {x:ByteArray} (h:v∈vs) (hb:b∈v.2) (hx:x∈Ee b):x∈Ee (.mk k t n ps fs vs):=by
 rw[Ht];refine List.mem_cons_of_mem _ (List.mem_append_right _ (List.mem_append_right _ (List.mem_append_left _ ?_)));exact List.mem_flatten.2 ⟨_,List.mem_map_of_mem h,List.mem_flatten.2 ⟨_,List.mem_map_of_mem hb,hx⟩⟩
theorem G5 {k:Int} {t:ByteArray} {n:Int} {ps:List Ty} {fs:Bp} {vs:Bm} {p:Ty} {x:ByteArray} (h:p∈ps) (hx:x∈Ee p):x∈Ee (.mk k t n ps fs vs):=by
 rw[Ht];refine List.mem_cons_of_mem _ (List.mem_append_right _ (List.mem_append_right _ (List.mem_append_right _ (List.mem_append_left _ ?_))));exact List.mem_flatten.2 ⟨_,List.mem_map_of_mem h,hx⟩
theorem I6 {k:Int} {t:ByteArray} {n:Int} {ps:List Ty} {fs:Bp} {vs:Bm} {f:ByteArray×Int×Ty} {x:ByteArray} (h:f∈fs) (hx:x∈Ee f.2.2):x∈Ee (.mk k t n ps fs vs):=by
 rw[Ht];refine List.mem_cons_of_mem _ (List.mem_append_right _ (List.mem_append_right _ (List.mem_append_right _ (List.mem_append_right _ ?_))));exact List.mem_flatten.2 ⟨_,List.mem_map_of_mem h,hx⟩
def Da:Ty->Bool
 | .mk _ _ _ ps fs vs=>decide (vs.length<=3518437208780) && ((vs.attach.all fun ⟨v,_⟩=>v.2.attach.all fun ⟨b,_⟩=>Da b) && ((ps.attach.all fun ⟨p,_⟩=>Da p) && (fs.attach.all fun ⟨f,_⟩=>Da f.2.2)))
termination_by t=>SizeOf.sizeOf t
decreasing_by
 ·exact E5 ‹_› ‹_›
 ·exact Dt ‹_›
 ·exact Ec ‹_›
theorem Dz {α:Type} (p:α->Bool) (l:List α):(l.attach.all fun a=>p a.1)=l.all p:=by
 have h:(l.attach.map (fun a=>a.1)).all p=l.all p:=by rw[Fa]
 rw[List.all_map] at h;exact h
theorem Fv (k t n ps fs vs):Da (.mk k t n ps fs vs)=(decide (vs.length<=3518437208780) && ((vs.all fun v=>v.2.all Da) && (ps.all Da && fs.all fun f=>Da f.2.2))):=by
 rw[Da];have h1:(ps.attach.all fun p=>Da p.1)=ps.all Da:=Dz Da ps;have h2:(fs.attach.all fun f=>Da f.1.2.2)=fs.all fun f=>Da f.2.2:=Dz (fun f:ByteArray×Int×Ty=>Da f.2.2) fs;have h3:(vs.attach.all fun v=>v.1.2.attach.all fun b=>Da b.1)=vs.all fun v=>v.2.all Da:=by
  have e:(fun v:{v // v∈vs}=>v.1.2.attach.all fun b=>Da b.1)=fun v:{v // v∈vs}=>v.1.2.all Da:=by
   funext v;exact Dz Da v.1.2
  rw[e];exact Dz (fun v:ByteArray×List Ty=>v.2.all Da) vs
 rw[h1,h2,h3]
theorem E6 {k:Int} {t:ByteArray} {n:Int} {ps:List Ty} {fs:Bp} {vs:Bm} (h:Da (.mk k t n ps fs vs)=true):vs.length<=3518437208780/\(∀ v∈vs,∀ b∈v.2,Da b=true)/\(∀ p∈ps,Da p=true)/\∀ f∈fs,Da f.2.2=true:=by
 rw[Fv,Bool.and_eq_true,Bool.and_eq_true,Bool.and_eq_true,decide_eq_true_eq,List.all_eq_true,List.all_eq_true,List.all_eq_true] at h;exact⟨h.1,fun v hv b hb=>List.all_eq_true.1 (h.2.1 v hv) b hb,h.2.2.1,h.2.2.2⟩
def Jec:MK Tryz.prog Int where
 T:=185
 S:=9
 E:=3
 val:=fun i=>.int .i64 i
 dat:=fun i=>.lit (.int .i64 i)
 zero:=0
 R:=fun v=>match v with
  | .int .i64 i=>some (.lit (.int .i64 i),[])
  | _=>none
 hR:=fun _=>rfl
 inv:=by
  intro v a ps h
  split at h
  ·injection h with h
   injection h with h1 h2
   injection h1 with h1
   injection h1 with h1 h3
   rw[h3]
  ·cases h
 hS:=Tryz.underlying9
 hT:=Tryz.underlying185
 hz:=Tryz.zeroValue3
theorem MapIs.putH {P:Program} {α:Type} {M:MK P α} {W:World} {b n:Nat} {F:ByteArray->Option α} (h:MapIs M W b n F) (hn:n<maxLen) (s:ByteArray) (hs:s.size<=maxLen) (a:α) (hp:(F s).isSome=true) :
  ∃ w',(Instr.mapUpdate M.T (.map (some b)) (.string s) (M.val a)).run P W=.ok () w'/\MapIs M w' b n (Ho F s a)/\W.grownBy w' (some b):=by
 obtain⟨L,h,hL,hF⟩:=h;obtain⟨w',hrun,ho,hg⟩:=World.ownsMap.update h (Go.Maps.string_keyed M.hS) M.hT (Nat.lt_of_le_of_lt hL hn) (M.key s hs) (M.hR a);rw[M4 M L (s,a)] at ho;have ho2:=Pq ho;rw[G2] at ho2;refine⟨w',hrun,⟨_,ho2,?_,fun x=>?_⟩,hg⟩
 ·rw[Jf];have h1:(Kw L s).length<L.length:=by
   rw[<-hF s] at hp;unfold E8 at hp;rw[Option.isSome_map,List.find?_isSome] at hp;obtain⟨f,hf,hk⟩:=hp;exact List.length_filter_lt_length_iff_exists.2 ⟨f,hf,by simp[hk]⟩
  simp only;omega
 ·rw[Ib (s,a) x _ (by rw[F4];simp)];unfold Ho;simp only;by_cases e:s=x
  ·rw[if_pos e,if_pos e]
  ·rw[if_neg e,if_neg e,F4,if_neg e,hF]
def G4 (k:Int) (l:List Ty):List Ty:=E7 k :: l.filter fun t=>!(t.k == k) && C6 t
theorem Va {k:Int} {l:List Ty} {i:Nat} (h:i<l.length):G4 k (l.take (i+1))=G4 k (l.take i)++(if !(l[i].k == k) && C6 l[i] then [l[i]] else []):=by
 unfold G4;rw[List.take_succ_eq_append_getElem h,List.filter_append,List.cons_append]
 congr 2
 simp only[List.filter_cons,List.filter_nil]
theorem L3 (k:Int) (l:List Ty):(G4 k l).length<=l.length+1:=by
 unfold G4;have:=List.length_filter_le (fun t=>!(t.k == k) && C6 t) l;simp only[List.length_cons];omega
structure SrcT (K:Nat->Prop) (w0 w:World) (A:Option Addr) (l:List Ty):Prop where
 ex:∃ b,(0<l.length->A=some ⟨b,0,none⟩)/\l.length<=1099511627776/\∀ i (h:i<l.length),∃ cs,RepT K w0 l[i] cs/\∀ j u,cs[j]?=some u->w.cell? ⟨b,i*6+j,none⟩=some u
theorem OutT.src {K:Nat->Prop} {w0 w:World} {v:Value} {l:List Ty} (h:OutT K w0 w v l) (hl:l.length<=1099511627776):∃ A c,v=.slice A l.length c/\SrcT K w0 w A l:=by
 rcases InT.of_out h with ⟨rfl,rfl⟩ | ⟨g,c,rfl,-,hi⟩
 ·exact⟨none,0,rfl,⟨0,fun h=>absurd h (by simp),by simp,fun i h=>absurd h (by simp)⟩⟩
 ·exact⟨_,_,rfl,⟨g,fun _=>rfl,hl,fun i h=>hi.reps i _ (List.getElem?_eq_getElem h)⟩⟩
theorem OutT.back {K:Nat->Prop} {w0 w w':World} {v:Value} {l:List Ty} (hK:∀ b,K b->b<w0.heap.size) (hb:Below w0.heap.size w0 w) (h:OutT K w w' v l):OutT K w0 w' v l:=by
 obtain⟨vs,h1,h2⟩:=h;refine⟨vs,⟨h1.1,?_⟩,fun i hi=>?_⟩
 ·rcases h1.2 with h3 | ⟨g,cap,cur,hv,hg,r⟩
  ·exact .inl h3
  ·exact .inr ⟨g,cap,cur,hv,Nat.le_trans hb.size hg,r⟩
 ·obtain⟨cs,h3,h4⟩:=h2 i hi;exact⟨cs,RepT.keep (fun _ h=>h) (fun b o v hb2 hc=>(hb.cell (hK b hb2)).symm.trans hc) _ cs h3,h4⟩
theorem Jl (K:Nat->Prop) (w:World) (k:Int):RepT K w (E7 k) [.int .i64 k,.string ⟨#[]⟩,.int .i64 0,.slice none 0 0,.slice none 0 0,.slice none 0 0]:=
 RepT.of (ps:=[]) (fs:=[]) (vs:=[]) (by show (0:Nat)<=_;omega) ⟨0,0,⟨Nat.le_refl _,Nat.zero_le _,fun _=>rfl,fun h=>absurd h (Nat.lt_irrefl 0)⟩,fun i h=>absurd h (Nat.not_lt_zero i)⟩ ⟨0,0,⟨Nat.le_refl _,Nat.zero_le _,fun _=>rfl,fun h=>absurd h (Nat.lt_irrefl 0)⟩,fun i h=>absurd h (Nat.not_lt_zero i)⟩ ⟨0,0,⟨Nat.le_refl _,Nat.zero_le _,fun _=>rfl,fun h=>absurd h (Nat.lt_irrefl 0)⟩,fun i h=>absurd h (Nat.not_lt_zero i)⟩
theorem OutT.one {K:Nat->Prop} {w0 w:World} (k:Int) (hb:w0.heap.size<=w.heap.size):OutT K w0 (w.alloc (.cells #[.int .i64 k,.string ⟨#[]⟩,.int .i64 0,.slice none 0 0,.slice none 0 0,.slice none 0 0] 26)) (.slice (some ⟨w.heap.size,0,none⟩) 1 1) [E7 k]:=by
 refine InT.out (ts:=[E7 k]) ⟨Nat.le_refl _,by decide,⟨_,heap_alloc_new w _,rfl⟩,fun i t hi=>?_⟩ hb;rcases i with _ | i
 ·injection hi with hi
  subst hi;refine⟨_,Jl K w0 k,fun j u hj=>?_⟩;rw[cell_of_row _ _ _ _ _ _ (heap_alloc_new w _)];simpa using hj
 ·exact absurd hi (by simp)
theorem OutT.later {K:Nat->Prop} {w0 w w':World} {v:Value} {l:List Ty} (h:OutT K w0 w v l) (hb:Below w.heap.size w w'):OutT K w0 w' v l:=
 h.keep fun b hv=>hb.block b (by obtain⟨vs,h1,-⟩:=h;exact (h1.lt b hv).2)
theorem OutS.nil (B:Nat) (w:World):OutS B w (.slice none 0 0) []:=World.ownsRow_nil _ _ _ _
theorem L4 {K:Nat->Prop} {w0 w:World} {l:List Ty} {A:Option Addr} {c:Nat} (k:Int) (hK:∀ b,K b->b<w0.heap.size) (hb:Below w0.heap.size w0 w) (hS:SrcT K w0 w A l) (hn:∀ t∈l,(Aw t).length<=1099511627776) (hl:l.length+1<=1099511627776) :
  Calls Tryz.prog 59 #[.slice A l.length c,.int .i64 k] w fun e w'=>∃ v',e=.returned v'/\OutT K w0 w' v' (G4 k l)/\Below w.heap.size w w':=by
 obtain⟨b,hA,_,hat⟩:=hS;have HAT:=Hd hat;have HAA:=Hd hA;have HN:=Hd hn;have HB:=Hd hb;have HL:=Hd hl;have HK:=Hd hK;clear hat hA hn hb hK;go_enter Tryz.func59,Tryz.ntmps59;go_wp2_with fail;have HST0:=Hd (OutT.one (K:=K) (w:=w) (w0:=w) k (Nat.le_refl _));have HBW:Hid (Below w.heap.size w (w.alloc (.cells #[.int .i64 k,.string ⟨#[]⟩,.int .i64 0,.slice none 0 0,.slice none 0 0,.slice none 0 0] 26))):=Hd ((Below.refl _ _).alloc (Nat.le_refl _) _);obtain⟨i0,hi0,hz0,hz1,hz2⟩:=D4 Hh;generalize w.alloc (.cells #[.int .i64 k,.string ⟨#[]⟩,.int .i64 0,.slice none 0 0,.slice none 0 0,.slice none 0 0] 26)=w1 at *
 go_loopw [5,6] (fun ov iv wr=>∃ (i:Nat) (acc:List Ty),i<=l.length/\iv=.int .i64 i/\acc=G4 k (l.take i)/\OutT K w wr ov acc/\Below w.heap.size w wr) (fun _ v _=>l.length - (intOf v).toNat)
 case atStart=>exact⟨0,[E7 k],by omega,rfl,by simp[G4],HST0.out,HBW.out⟩
 case round=>
  obtain⟨i,acc,hi,rfl,hacc,ho,hb⟩:=hrel;have HAcc:=Hd hacc;have HAL:Hid (acc.length<=i+1):=Hd (by rw[hacc];exact Nat.le_trans (L3 _ _) (by simp;omega));clear hacc;have HR:=Hd (And.intro ho hb);obtain⟨vs,hvs,-⟩:=ho;obtain⟨A1,c1,rfl,-⟩:=Gk hvs;clear hvs hb;by_cases hin:i<l.length
  ·have t1:decide ((i:Int)<(l.length:Int))=true:=by simp;omega
   have wr2:wrap64 ((i:Int)+1)=((i+1:Nat):Int):=Ao (by omega);have HM:=Hd (Ba hin);have hA2:=HAA.out (by omega);obtain⟨cs,hrep,hcs⟩:=HAT.out i hin;have HBT:=Hd (Va (k:=k) hin);have hnt:=HN.out _ (List.getElem_mem hin);subst hA2;generalize l[i]=t at hrep HBT hnt;have HIN:=Hd (Sz t);obtain⟨k2,s2,n2,ps2,fs2,vs2⟩:=t;have KI:=Hd (S1 (.mk k2 s2 n2 ps2 fs2 vs2) K wr wr cs (.slice none 0 0) [] ((hrep.later HB.out).later HR.out.2) (Below.refl _ _) (OutS.nil _ _) List.Pairwise.nil (by simpa using hnt));have HREP:=Hd (hrep.later HB.out);obtain⟨Aq,cq,Ag,cg,Ah,ch,rfl,-⟩:=hrep.inv;have HIn:Hid (i+1<=l.length):=Hd hin;have HY:Hid (∀ wx,Below w.heap.size w wx->wx.cell? ⟨b,i*6,none⟩=some (.int .i64 k2)/\wx.cell? ⟨b,i*6+1,none⟩=some (.string s2)/\wx.cell? ⟨b,i*6+2,none⟩=some (.int .i64 n2)/\wx.cell? ⟨b,i*6+3,none⟩=some (.slice Aq ps2.length cq)/\wx.cell? ⟨b,i*6+4,none⟩=some (.slice Ag fs2.length cg)/\wx.cell? ⟨b,i*6+5,none⟩=some (.slice Ah vs2.length ch)):=Hd fun wx hx=>
    ⟨Aa hx (hcs 0 _ rfl),Aa hx (hcs 1 _ rfl),Aa hx (hcs 2 _ rfl),Aa hx (hcs 3 _ rfl),Aa hx (hcs 4 _ rfl),Aa hx (hcs 5 _ rfl)⟩
   obtain⟨y0,y1,y2,y3,y4,y5⟩:=HY.out _ HR.out.2;simp only[Ar] at KI HREP;have HNT:=Hd hnt;clear hi hcs hrep hnt;by_cases hk:k2=k
   ·have tk:(k2 != k)=false:=(by simpa using hk);have HF:Hid ((!(Ty.k (.mk k2 s2 n2 ps2 fs2 vs2) == k) && C6 (.mk k2 s2 n2 ps2 fs2 vs2))=false):=Hd (by simp[Ty.k,hk]);clear hk KI;go_wp2_with fail;refine⟨⟨i+1,acc,HIn.out,by first | rfl | rw[wr2],?p1,HR.out.1,HR.out.2⟩,?p3⟩
    case p1=>rw[HBT.out,HF.out,HAcc.out];simp
    case p3=>first | exact HM.out | (rw[wr2];exact HM.out)
   ·have tk:(k2 != k)=true:=(by simpa using hk);have HKK:Hid ((Ty.k (.mk k2 s2 n2 ps2 fs2 vs2) == k)=false):=Hd (by simpa [Ty.k] using hk);clear hk;go_wp2_with fail;refine KI.out.mono ?_;rintro e w2 ⟨v2,l2,rfl,h2⟩;have HB2:=Hd (HR.out.2.trans (h2.low.mono HR.out.2.size));have HO2:=Hd (HR.out.1.later h2.low);have HL2:Hid (C6 (.mk k2 s2 n2 ps2 fs2 vs2)=decide (0<l2.length)):=Hd (by
     rw[Bool.eq_iff_iff,HIN.out,decide_eq_true_iff]
     constructor
     ·intro h;obtain⟨x,hx⟩:=List.exists_mem_of_ne_nil _ h;exact List.length_pos_of_mem ((h2.mem x).2 (.inr hx))
     ·intro h e;obtain⟨x,hx⟩:=List.exists_mem_of_length_pos h;rcases (h2.mem x).1 hx with h | h
      ·exact absurd h (by simp)
      ·rw[e] at h;exact absurd h (by simp))
    obtain⟨A2,c2,rfl,-⟩:=h2.own.list (by have h3:=h2.len;have:=HN.out;have h4:=HL.out;simp only[List.length_nil,Nat.zero_add] at h3;have:=HNT.out;omega);obtain⟨z0,z1,z2,z3,z4,z5⟩:=HY.out _ HB2.out;clear h2 KI y0 y1 y2 y3 y4 y5;by_cases hl2:0<l2.length
    ·have t2:decide (0<l2.length)=true:=decide_eq_true hl2;have HF:Hid ((!(Ty.k (.mk k2 s2 n2 ps2 fs2 vs2) == k) && C6 (.mk k2 s2 n2 ps2 fs2 vs2))=true):=Hd (by rw[HKK.out,HL2.out,decide_eq_true hl2];rfl);obtain⟨vs,hvs,hrs⟩:=HO2.out;have HOw:=Hd (And.intro hvs hrs);have HC2:=Hd (Dn w2 [.int .i64 k2,.string s2,.int .i64 n2,.slice Aq ps2.length cq,.slice Ag fs2.length cg,.slice Ah vs2.length ch] 26);have HL1:Hid (acc.length+1<=1099511627776):=Hd (by have:=HAL.out;have:=HIn.out;omega);clear hl2 hvs hrs;go_wp2_with (at_builtin;refine wpList_plain rfl fun K' hK=>?_;go_loud (refine Bz _ _ 22 rfl w.heap.size 26 i0 (.agg #[.int .i64 0,.string ⟨#[]⟩,.int .i64 0,.slice none 0 0,.slice none 0 0,.slice none 0 0]) 6 104 Tryz.underlying22 hi0 hz0 hz1 hz2 rfl (by decide) _ _ _ rfl (HOw.out.1.alloc _) ⟨w2.heap.size,0,none⟩ 1 1 [.int .i64 k2,.string s2,.int .i64 n2,.slice Aq ps2.length cq,.slice Ag fs2.length cg,.slice Ah vs2.length ch] rfl rfl ?a0 ?a1 ?a2 ?a3 ?a4 ?_))
     case a0=>exact HC2.out
     case a1=>
      intro u hu;simp only[List.mem_cons,List.not_mem_nil,or_false] at hu;rcases hu with rfl | rfl | rfl | rfl | rfl | rfl <;> rfl
     case a2=>have:=HL1.out;unfold maxLen;omega
     case a3=>have:=HL1.out;omega
     case a4=>have:=HB2.out.size;simp only[World.size_alloc];omega
     intro v5 w5 hown5 hg5 _ _;refine hK _ _ ?_;clear hK K';have HR5:=Hd (Gy HB2.out HOw.out.1 HOw.out.2 HREP.out hown5 hg5);clear hown5 hg5 z0 z1 z2 z3 z4 z5;go_wp2_with fail;refine⟨⟨i+1,_,HIn.out,by first | rfl | rw[wr2],?p1,HR5.out.1,HR5.out.2⟩,?p3⟩
     case p1=>rw[HBT.out,HF.out,if_pos rfl,HAcc.out]
     case p3=>first | exact HM.out | (rw[wr2];exact HM.out)
    ·have t2:decide (0<l2.length)=false:=decide_eq_false hl2;have HF:Hid ((!(Ty.k (.mk k2 s2 n2 ps2 fs2 vs2) == k) && C6 (.mk k2 s2 n2 ps2 fs2 vs2))=false):=Hd (by rw[HKK.out,HL2.out,decide_eq_false hl2];rfl);clear hl2;go_wp2_with fail;refine⟨⟨i+1,acc,HIn.out,by first | rfl | rw[wr2],?p1,HO2.out,HB2.out⟩,?p3⟩
     case p1=>rw[HBT.out,HF.out,HAcc.out];simp
     case p3=>first | exact HM.out | (rw[wr2];exact HM.out)
  ·have t1:decide ((i:Int)<(l.length:Int))=false:=by simp;omega
   have HE:Hid (l.take i=l):=Hd (List.take_of_length_le (by omega));clear hi;go_wp2_with fail;go_ret
   have h2:=HAcc.out;rw[HE.out] at h2;rw[<-h2];exact⟨.slice A1 acc.length c1,rfl,OutT.back HK.out HB.out HR.out.1,HR.out.2⟩
theorem Pt {K:Nat->Prop} {w0 w:World} {v:Value} {F:List Ty} {t:Ty} {cs:List Value} (hO:OutT K w0 w v F) (hA:Lh F) (ht:RepT K w0 t cs) (hb:Below w0.heap.size w0 w) (hbd:F.length+1<=1099511627776) :
  Calls Tryz.prog 60 #[v,.agg cs.toArray] w (Gf K w0 F t):=by
 obtain⟨k,s,n,ps,fs,vs⟩:=t;obtain⟨A,c,A',c',A'',c'',rfl,-⟩:=ht.inv;rcases InT.of_out hO with ⟨rfl,rfl⟩ | ⟨g,c1,rfl,hg,hin⟩
 ·exact Jda _ _ _ _ _ _ _ _ _ _ _ _ ht hb
 ·exact Jdb _ _ _ _ _ _ _ _ _ _ _ _ hin hg hA ht hb hbd
def Ak (x:ByteArray) (u:Ty):Ty->Ty
 | .mk k t n ps fs vs=>if (k == 16 && decide (t=x))=true then u
  else if (k == 15)=true then Bi (ps.attach.map fun ⟨p,_⟩=>Ak x u p)
  else .mk k t n (ps.attach.mapIdx fun i ⟨p,_⟩=>if (Dq vs x || C5 k t n ps i x)=true then p else Ak x u p) (fs.attach.map fun ⟨f,_⟩=>(f.1,f.2.1,Ak x u f.2.2)) (vs.attach.map fun ⟨v,_⟩=>(v.1,v.2.attach.map fun ⟨b,_⟩=>if Dq vs x=true then b else Ak x u b))
termination_by t=>SizeOf.sizeOf t
decreasing_by
 ·exact Dt ‹_›
 ·exact Dt ‹_›
 ·exact Ec ‹_›
 ·exact E5 ‹_› ‹_›
def Cv (x:ByteArray) (u:Ty) (cut:Nat->Bool):Nat->List Ty->List Ty
 | _,[]=>[]
 | i,p :: l=>(if cut i=true then p else Ak x u p) :: Cv x u cut (i+1) l
theorem U1 {α:Type} (x:ByteArray) (u:Ty) (cut:Nat->Bool) (g:α->Ty):∀ (l:List α) (j:Nat),(l.mapIdx fun i p=>if cut (i+j)=true then g p else Ak x u (g p))=Cv x u cut j (l.map g)
 | [],_=>rfl
 | a :: l,j=>by
  rw[List.mapIdx_cons,List.map_cons,Cv,<-U1 x u cut g l (j+1)];simp only[Nat.zero_add,Nat.add_assoc,Nat.add_comm 1 j]
theorem Hj {α β:Type} (f:α->β) (l:List α):(l.attach.map fun a=>f a.1)=l.map f:=by
 have h:(l.attach.map (fun a=>a.1)).map f=l.map f:=by rw[Fa]
 rw[List.map_map] at h;exact h
theorem Cr (x:ByteArray) (u:Ty) (k t n ps fs vs):Ak x u (.mk k t n ps fs vs)=if (k == 16 && decide (t=x))=true then u
  else if (k == 15)=true then Bi (ps.map (Ak x u))
  else .mk k t n (Cv x u (fun i=>Dq vs x || C5 k t n ps i x) 0 ps) (fs.map fun f=>(f.1,f.2.1,Ak x u f.2.2)) (vs.map fun v=>(v.1,v.2.map fun b=>if Dq vs x=true then b else Ak x u b)):=by
 rw[Ak];have h:=U1 x u (fun i=>Dq vs x || C5 k t n ps i x) (fun p:{y // y∈ps}=>p.1) ps.attach 0;simp only[Nat.add_zero] at h;rw[Fa] at h;have h1:(ps.attach.map fun p=>Ak x u p.1)=ps.map (Ak x u):=Hj (Ak x u) ps;have h2:(fs.attach.map fun f=>(f.1.1,f.1.2.1,Ak x u f.1.2.2))=fs.map fun f=>(f.1,f.2.1,Ak x u f.2.2):=Hj (fun f:ByteArray×Int×Ty=>(f.1,f.2.1,Ak x u f.2.2)) fs;have h3:(vs.attach.map fun v=>(v.1.1,v.1.2.attach.map fun b=>if Dq vs x=true then b.1 else Ak x u b.1))=vs.map fun v=>(v.1,v.2.map fun b=>if Dq vs x=true then b else Ak x u b):=by
  have e:(fun v:{v // v∈vs}=>(v.1.1,v.1.2.attach.map fun b=>if Dq vs x=true then b.1 else Ak x u b.1))=fun v:{v // v∈vs}=>(v.1.1,v.1.2.map fun b=>if Dq vs x=true then b else Ak x u b):=by
   funext v;rw[Hj (fun b=>if Dq vs x=true then b else Ak x u b) v.1.2]
  rw[e];exact Hj (fun v:ByteArray×List Ty=>(v.1,v.2.map fun b=>if Dq vs x=true then b else Ak x u b)) vs
 rw[<-h1,<-h2,<-h3,<-h]
theorem Ow (x:ByteArray) (u:Ty) (cut:Nat->Bool):∀ (l:List Ty) (j:Nat),(Cv x u cut j l).length=l.length
 | [],_=>rfl
 | _ :: l,j=>by rw[Cv,List.length_cons,List.length_cons,Ow x u cut l (j+1)]
theorem Na {x:ByteArray} {u:Ty} {cut:Nat->Bool}:∀ {l:List Ty} {j:Nat},(∀ p∈l,Bl x p=false->Ak x u p=p)->Em x cut j l=false->Cv x u cut j l=l
 | [],_,_,_=>rfl
 | p :: l,j,hp,h=>by
  rw[Em,Bool.or_eq_false_iff] at h;rw[Cv,Na (fun q hq=>hp q (List.mem_cons_of_mem _ hq)) h.2];by_cases hc:cut j=true
  ·rw[if_pos hc]
  ·rw[if_neg hc];have h1:Bl x p=false:=by
    have:=h.1;rw[Bool.not_eq_true] at hc;rw[hc] at this;simpa using this
   rw[hp p List.mem_cons_self h1]
abbrev Rw:=Option Nat×Nat×Nat
def rwV:Rw->Value
 | (none,n,c)=>.slice none n c
 | (some b,n,c)=>.slice (some ⟨b,0,none⟩) n c
def rwD:Rw->DataW Unit
 | (none,n,c)=>.agg [.lit (.int .i64 n),.lit (.int .i64 c)]
 | (some b,n,c)=>.agg [.lit (.int .i64 b),.lit (.int .i64 n),.lit (.int .i64 c)]
def rwR:Value->Option (DataW Unit×List MemPlace)
 | .slice none n c=>some (rwD (none,n,c),[])
 | .slice (some ⟨b,0,none⟩) n c=>some (rwD (some b,n,c),[])
 | _=>none
theorem Jdd (a:Rw):rwR (rwV a)=some (rwD a,[]):=by obtain⟨_ | b,n,c⟩:=a <;> rfl
theorem Jdc {v:Value} {a:Rw} {ps:List MemPlace} (h:rwR v=some (rwD a,ps)):v=rwV a:=by
 obtain⟨x,n,c⟩:=a;unfold rwR at h
 split at h
 ·cases x <;> simp only[rwD,Option.some.injEq,Prod.mk.injEq,DataW.agg.injEq,List.cons.injEq,DataW.lit.injEq,Lit.int.injEq,and_true,true_and,Int.natCast_inj,reduceCtorEq,and_false,false_and] at h
  obtain⟨⟨h1,h2⟩,-⟩:=h;rw[rwV,h1,h2]
 ·cases x <;> simp only[rwD,Option.some.injEq,Prod.mk.injEq,DataW.agg.injEq,List.cons.injEq,DataW.lit.injEq,Lit.int.injEq,and_true,true_and,Int.natCast_inj,reduceCtorEq,and_false,false_and] at h
  obtain⟨⟨h1,h2,h3⟩,-⟩:=h;rw[rwV,h1,h2,h3]
 ·cases h
def Jfg:MK Tryz.prog Rw where
 T:=135
 S:=9
 E:=22
 val:=rwV
 dat:=rwD
 zero:=(none,0,0)
 R:=rwR
 hR:=Jdd
 inv:=Jdc
 hS:=Tryz.underlying9
 hT:=Tryz.underlying135
 hz:=Tryz.zeroValue22
def Ov (F:ByteArray->Option Rw) (s:ByteArray):Rw:=(F s).getD (none,0,0)
def Td (m:Nat) (F:ByteArray->Option Rw) (x:Nat):Prop:=x=m\/∃ s,(Ov F s).1=some x
structure GI (w0 w:World) (m:Nat) (F:ByteArray->Option Rw) (G:List (ByteArray×Ty)):Prop where
 map:MapIs Jfg w m G.length F
 lo:w0.heap.size<=m
 rows:∀ s,∃ vs,w.ownsRow w0.heap.size 26 6 (rwV (Ov F s)) (Jel s G).length vs/\∀ i (h:i<(Jel s G).length),∃ cs,RepT (fun b=>b<w.heap.size/\¬ Td m F b) w (Jel s G)[i] cs/\∀ j u,cs[j]?=some u->vs[i*6+j]?=some u
 apart:∀ s s' b,(Ov F s).1=some b->(Ov F s').1=some b->s=s'
 ne:∀ s,(Ov F s).1≠some m
theorem GI.lt {w0 w:World} {m:Nat} {F:ByteArray->Option Rw} {G:List (ByteArray×Ty)} (h:GI w0 w m F G) {x:Nat} (hx:Td m F x):w0.heap.size<=x/\x<w.heap.size:=by
 rcases hx with rfl | ⟨s,hs⟩
 ·exact⟨h.lo,h.map.lt⟩
 ·obtain⟨vs,hown,_⟩:=h.rows s;refine hown.lt x ?_;generalize Ov F s=a at hs;obtain⟨o,n,c⟩:=a;simp only at hs;subst hs;rfl
theorem GI.but {w0 w w':World} {m:Nat} {F:ByteArray->Option Rw} {G:List (ByteArray×Ty)} {O:Nat->Prop} (h:GI w0 w m F G) (hb:ButG O w w') (ho:∀ x,O x->x<w.heap.size->¬ Td m F x/\False):GI w0 w' m F G:=by
 have keepB:∀ x,x<w.heap.size->w'.heap[x]?=w.heap[x]?:=fun x hx=>hb.block x hx fun e=>(ho x e hx).2;refine⟨h.map.keep (keepB m h.map.lt),h.lo,fun s=>?_,h.apart,h.ne⟩;obtain⟨vs,hown,hr⟩:=h.rows s;refine⟨vs,⟨hown.1,?_⟩,fun i hi=>?_⟩
 ·rcases hown.2 with h3 | ⟨g,cap,cur,hv,hg,hh,r⟩
  ·exact .inl h3
  ·exact .inr ⟨g,cap,cur,hv,hg,by rw[keepB g (Array.getElem?_eq_some_iff.1 hh).1];exact hh,r⟩
 ·obtain⟨cs,hcs,hv⟩:=hr i hi;exact⟨cs,RepT.keep (fun x hx=>⟨Nat.lt_of_lt_of_le hx.1 hb.size,hx.2⟩) (fun x _ _ hx hc=>(World.cell?_of_block (keepB _ hx.1)).trans hc) _ _ hcs,hv⟩
theorem GI.later {w0 w w':World} {m:Nat} {F:ByteArray->Option Rw} {G:List (ByteArray×Ty)} (h:GI w0 w m F G) (hb:Below w.heap.size w w'):GI w0 w' m F G:=
 h.but (O:=fun _=>False) ⟨hb.os,hb.tape,hb.output,hb.size,fun k hk _=>hb.block k hk⟩ fun _ hx _=>hx.elim
def HoldMid (w0 w:World) (m:Nat) (F:ByteArray->Option Rw) (G:List (ByteArray×Ty)) (w':World):Prop:=∃ F',GI w0 w' m F' G/\ButG (Td m F) w w'/\∀ x,Td m F' x->Td m F x\/w.heap.size<=x
theorem HoldMid.start {w0 w:World} {m:Nat} {F:ByteArray->Option Rw} {G:List (ByteArray×Ty)} (h:GI w0 w m F G):HoldMid w0 w m F G w:=⟨F,h,ButG.refl _ _,fun _ h=>.inl h⟩
theorem HoldMid.at {w0 w wr:World} {m:Nat} {F:ByteArray->Option Rw} {G:List (ByteArray×Ty)} {K:Nat->Prop} {t:Ty} {b o:Nat} (h:HoldMid w0 w m F G wr) (ht:AtT K w t b o) (hk:∀ x,K x\/x=b->x<w.heap.size/\¬ Td m F x):AtT K wr t b o:=by
 obtain⟨F',_,hb,_⟩:=h;exact ht.keep (fun _ h=>h) (fun x _ _ hx hc=>hb.cell (hk x (.inl hx)).2 hc) fun _ _ hc=>hb.cell (hk b (.inr rfl)).2 hc
end Go.Proofs.YtlpfpehegddcfaaGreatDoor

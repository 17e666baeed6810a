import Derived.Test.YtlpfpehegddcfaaGreatDoorMw16
namespace Go.Proofs.YtlpfpehegddcfaaGreatDoor
set_option maxRecDepth 100000
set_option maxHeartbeats 64000000
open Go.RowKit
def Bi:Ty->List Z8
 | .mk k t _ ps fs _=>if k=22 then [t] else (ps.attach.mapIdx fun i ⟨p,_⟩=>if (k == 21 && i == 1) then [] else Bi p).flatten++(fs.attach.map fun ⟨f,_⟩=>Bi f.2.2).flatten
termination_by t=>SizeOf.sizeOf t
decreasing_by
 ·exact D8 ‹_›
 ·exact E2 ‹_›
def Cu (k:Int):Nat->List Ty->List Z8
 | _,[]=>[]
 | i,p :: l=>(if (k == 21 && i == 1) then [] else Bi p)++Cu k (i+1) l
def Dk (l:Bv):List Z8:=(l.map fun f=>Bi f.2.2).flatten
theorem Me {α:Type}(k:Int) (g:α->Ty):∀(l:List α) (j:Nat),(l.mapIdx fun i p=>if (k == 21 && (i+j) == 1) then [] else Bi (g p)).flatten=Cu k j (l.map g)
 | [],_=>rfl
 | a :: l,j=>by
  rw[List.mapIdx_cons,List.flatten_cons,List.map_cons,Cu,<-Me k g l (j+1)];simp only[Nat.zero_add,Nat.add_assoc,Nat.add_comm 1 j]
theorem Gs (k t n ps fs vs):Bi (.mk k t n ps fs vs)=if k=22 then [t] else Cu k 0 ps++Dk fs:=by
 rw[Bi];have h:=Me k (fun p:{x // x∈ps}=>p.1) ps.attach 0;simp only[Nat.add_zero]at h;rw[h];unfold Dk;simp only[List.map_attach_eq_pmap,List.pmap_eq_map,List.map_id']
theorem Mo {k:Int}{ps:List Ty}{i:Nat}(h:i<ps.length):Cu k i (ps.drop i)=(if (k == 21 && i == 1) then [] else Bi ps[i])++Cu k (i+1) (ps.drop (i+1)):=by
 rw[List.drop_eq_getElem_cons h,Cu]
theorem Mn {fs:Bv}{i:Nat}(h:i<fs.length):Dk (fs.drop i)=Bi fs[i].2.2++Dk (fs.drop (i+1)):=by
 rw[List.drop_eq_getElem_cons h,Dk,List.map_cons,List.flatten_cons];rfl
theorem Mi (k:Int):∀(ps:List Ty) (i:Nat),(∀p∈ps,(En p=true↔Bi p≠[]))->(Hn k i ps=true↔Cu k i ps≠[])
 | [],_,_=>by simp[Hn,Cu]
 | p :: l,i,h=>by
  rw[Hn,Cu,Bool.or_eq_true,Mi k l (i+1) fun q hq=>h q (List.mem_cons_of_mem _ hq),Bool.and_eq_true,h p List.mem_cons_self]
  cases hq:(k == 21 && i == 1) <;> simp only[Bool.not_false,Bool.not_true,Bool.false_eq_true,if_false,if_true,ne_eq,List.append_eq_nil_iff,List.nil_append,true_and,false_and,false_or,not_and] <;> (try by_cases e:Bi p=[] <;> simp[e])
theorem Um (t:Ty):En t=true↔Bi t≠[]:=by
 refine Ty.ind (C:=fun t=>En t=true↔Bi t≠[]) (fun k t n ps fs vs hp hf _=>?_) t;rw[M6,Gs];by_cases hk:k=22
 ·rw[if_pos hk,hk];simp
 ·rw[if_neg hk];have e:(k == 22)=false:=by simpa using hk
  rw[e,Bool.false_or,Bool.or_eq_true,Mi k ps 0 hp];have hF:Jt fs=true↔Dk fs≠[]:=by
   unfold Jt Dk;rw[List.any_eq_true,ne_eq,List.flatten_eq_nil_iff]
   constructor
   ·rintro⟨f,hm,h⟩ hn;exact (hf f hm).1 h (hn _ (List.mem_map_of_mem hm))
   ·intro h;apply Classical.byContradiction;intro hn;refine h fun l hl=>?_;obtain⟨f,hm,rfl⟩:=List.mem_map.1 hl;apply Classical.byContradiction;intro hA;exact hn ⟨f,hm,(hf f hm).2 hA⟩
  rw[hF,ne_eq,ne_eq,ne_eq,List.append_eq_nil_iff];by_cases e1:Cu k 0 ps=[] <;> simp[e1]
structure Hg (w0:World) (w:World) (v:Value) (l N:List Z8) (v':Value) (w':World) (l':List Z8):Prop where
 own:D5 w0.heap.size w' v' l'
 asc:Rh l'
 mem:∀x,x∈l'↔x∈l\/x∈N
 len:l'.length<=l.length+N.length
 low:Below w0.heap.size w0 w'
 big:w.heap.size<=w'.heap.size
 fr:Fr v w v' w'
theorem Hg.step {w0 w w1 w2:World}{v v1 v2:Value}{l N M l1 l2:List Z8}(h:Hg w0 w v l N v1 w1 l1) (h':Hg w0 w1 v1 l1 M v2 w2 l2):Hg w0 w v l (N++M) v2 w2 l2:=by
 refine⟨h'.own,h'.asc,fun x=>?_,?_,h'.low,Nat.le_trans h.big h'.big,h.fr.trans h'.fr h.big⟩
 ·rw[h'.mem,h.mem,List.mem_append,or_assoc]
 ·have:=h.len;have:=h'.len;rw[List.length_append];omega
theorem Hg.from {w0 wb w w':World}{v v':Value}{l N l':List Z8}(h:Hg w0 w v l N v' w' l') (hb:Below wb.heap.size wb w):Hg w0 wb v l N v' w' l':=
 ⟨h.own,h.asc,h.mem,h.len,h.low,Nat.le_trans hb.size h.big,h.fr.world hb⟩
def Zk (t:Ty):Prop:=∀(K:Nat->Prop) (w0 w:World) (cs:List Value) (v:Value) (l:List Z8),An K w0 t cs->Below w0.heap.size w0 w->D5 w0.heap.size w v l->Rh l->l.length+(Bi t).length<=1099511627776 ->
 Calls Tryz.prog 79 #[.agg cs.toArray,v] w fun e w'=>∃v' l',e=.returned v'/\Hg w0 w v l (Bi t) v' w' l'
theorem Su (k:Int) (s:Z8) (n:Int) (ps:List Ty) (fs:Bv) (vs:Bw) (hp:∀p∈ps,Zk p) (hf:∀f∈fs,Zk f.2.2):Zk (.mk k s n ps fs vs):=by
 intro K w0 w cs v l ht hb hO hA hR;obtain⟨Ap,cp,Af,cf,Av,cv,rfl,-,hU,hT,-⟩:=ht.inv;have hlp:=hU.short;have hlf:=hT.shortF;obtain⟨As,c,rfl,-⟩:=hO.list (by omega);have HB1:=Hd (hb.alloc hb.size (.cells (Ao k s n Ap ps.length cp Af fs.length cf Av vs.length cv).toArray 26));have hV:Z9 (Below w.heap.size w (w.alloc (.cells (Ao k s n Ap ps.length cp Af fs.length cf Av vs.length cv).toArray 26))):=Hd ((Below.refl _ _).alloc (Nat.le_refl _) _);have kC:=Hd (hO.later hV.o);have kF:=Hd fun b (h:(Value.slice As l.length c).ownBlock=some b)=>(hO.lt b h);have HC:=Hd (D6 w (Ao k s n Ap ps.length cp Af fs.length cf Av vs.length cv) 26);have x0:(w.alloc (.cells (Ao k s n Ap ps.length cp Af fs.length cf Av vs.length cv).toArray 26)).cell? ⟨w.heap.size,0,none⟩=some (.int .i64 k):=HC.o 0 _ rfl;have x1:(w.alloc (.cells (Ao k s n Ap ps.length cp Af fs.length cf Av vs.length cv).toArray 26)).cell? ⟨w.heap.size,1,none⟩=some (.string s):=HC.o 1 _ rfl;have x3:(w.alloc (.cells (Ao k s n Ap ps.length cp Af fs.length cf Av vs.length cv).toArray 26)).cell? ⟨w.heap.size,3,none⟩=some (.slice Ap ps.length cp):=HC.o 3 _ rfl;have x4:(w.alloc (.cells (Ao k s n Ap ps.length cp Af fs.length cf Av vs.length cv).toArray 26)).cell? ⟨w.heap.size,4,none⟩=some (.slice Af fs.length cf):=HC.o 4 _ rfl;have HA:=Hd hA;have HN:=Hd (Gs k s n ps fs vs);have kA:=Hd hR;by_cases hk:k=22
 ·subst hk;have hP:Z9 (Bi (.mk 22 s n ps fs vs)=[s]):=Hd (by rw[HN.o,if_pos rfl]);have KA:=Hd (Jc4 (s:=s) kC.o hA HB1.o.size (by rw[HN.o,if_pos rfl]at hR;simpa using hR));clear ht hb hO hA hR hU hT hp hf;go_enter Tryz.func79,Tryz.ntmps79;go_wp2_with fail;refine KA.o.mono ?_;rintro e w2 ⟨v2,l2,rfl,o2,a2,m2,n2,b2,f2⟩;go_wp2_with fail;go_ret
  refine⟨_,_,rfl,Hg.from ⟨o2,a2,fun x=>?_,?_,HB1.o.trans b2,b2.size,f2⟩ hV.o⟩
  ·rw[m2,hP.o,List.mem_singleton,or_comm]
  ·rw[hP.o];exact n2
 ·have te:(k == 22)=false:=by simpa using hk
  have hX:Z9 (Bi (.mk k s n ps fs vs)=Cu k 0 ps++Dk fs):=Hd (by rw[HN.o,if_neg hk]);have HP:=Hd hp;have HF:=Hd hf;have kE:=Hd hU;have kD:=Hd hT;have kG:Z9 ((Value.slice As l.length c).ownBlock≠some w.heap.size):=Hd fun e=>by have:=(kF.o _ e).2;omega
  have HX:Z9 (∀v2 w2,Fr (.slice As l.length c) (w.alloc (.cells (Ao k s n Ap ps.length cp Af fs.length cf Av vs.length cv).toArray 26)) v2 w2->w2.cell? ⟨w.heap.size,0,none⟩=some (.int .i64 k)/\w2.cell? ⟨w.heap.size,3,none⟩=some (.slice Ap ps.length cp)/\w2.cell? ⟨w.heap.size,4,none⟩=some (.slice Af fs.length cf)):=Hd fun v2 w2 h=>by
   have e:=h.keep w.heap.size (by simp) kG.o;exact⟨(World.cell?_of_block e).trans x0,(World.cell?_of_block e).trans x3,(World.cell?_of_block e).trans x4⟩
  have hY:Z9 (Hg w0 (w.alloc (.cells (Ao k s n Ap ps.length cp Af fs.length cf Av vs.length cv).toArray 26)) (.slice As l.length c) l [] (.slice As l.length c) (w.alloc (.cells (Ao k s n Ap ps.length cp Af fs.length cf Av vs.length cv).toArray 26)) l):=Hd ⟨kC.o,HA.o,fun x=>by simp,by simp,HB1.o,Nat.le_refl _,Fr.refl _ _⟩;clear ht hb hO hA hR hU hT hp hf hk;go_enter Tryz.func79,Tryz.ntmps79;go_wp2_with fail;have HW1:Z9 ((w.alloc (.cells (Ao k s n Ap ps.length cp Af fs.length cf Av vs.length cv).toArray 26)).heap.size=w.heap.size+1):=Hd (by simp);generalize (w.alloc (.cells (Ao k s n Ap ps.length cp Af fs.length cf Av vs.length cv).toArray 26))=w1 at *
  go_loopw [1,5] (fun ov iv wr=>∃(i:Nat) (N l1:List Z8),i<=ps.length/\iv=.int .i64 i/\N++Cu k i (ps.drop i)=Cu k 0 ps/\Hg w0 w1 (.slice As l.length c) l N ov wr l1) (fun _ v _=>ps.length - (intOf v).toNat)
  case atStart=>exact⟨0,[],l,by omega,rfl,by rw[List.drop_zero];rfl,hY.o⟩
  case round=>
   obtain⟨i,N,l1,hi,rfl,he,hG⟩:=hrel;have hB:=Hd hG;have HE:=Hd he;have kH:Z9 (N.length+(Cu k i (ps.drop i)).length=(Cu k 0 ps).length):=Hd (by rw[<-he,List.length_append]);obtain⟨z0,z3,z4⟩:=HX.o _ _ hG.fr;have hL:Z9 (l1.length+(Cu k i (ps.drop i)).length+(Dk fs).length<=1099511627776):=Hd (by
    have h1:=hG.len;have h2:=kA.o;rw[hX.o,List.length_append]at h2;have h3:=kH.o;omega)
   obtain⟨A1,c1,rfl,-⟩:=hG.own.list (by have:=hL.o;omega);clear hG he;by_cases hF:i<ps.length
   ·have t1:decide ((i:Int)<(ps.length:Int))=true:=(by simp;omega);have hH:wrap64 ((i:Int)+1)=((i+1:Nat):Int):=Ax (by omega);have HM:=Hd (Bf hF);obtain⟨b,o,hZ,_,hQ⟩:=kE.o.at (by omega);have hS:=hQ i hF;have hK:=HP.o _ (List.getElem_mem hF);have hC:=Hd (Mo (k:=k) hF);have hN:Z9 (i+1<=ps.length):=Hd hF;subst hZ;generalize ps[i]=t at hS hK hC;obtain⟨cs,hD,hE⟩:=hS;obtain⟨k2,s2,n2,kJ,kI,kK⟩:=t;have KI:Z9 ((k == 21 && i == 1)=false->Calls Tryz.prog 79 #[.agg cs.toArray,.slice A1 l1.length c1] wr _):=Hd fun hq=>hK K w0 wr cs _ l1 hE hB.o.low hB.o.own hB.o.asc (by
     have h1:=hL.o;rw[hC.o,hq,if_neg (by decide),List.length_append]at h1;omega)
    obtain⟨Aq,cq,Ag,cg,Ah,ch,rfl,-⟩:=hE.inv;have y0:=Aa hB.o.low (hD 0 _ rfl);have y1:=Aa hB.o.low (hD 1 _ rfl);have y2:=Aa hB.o.low (hD 2 _ rfl);have y3:=Aa hB.o.low (hD 3 _ rfl);have y4:=Aa hB.o.low (hD 4 _ rfl);have y5:=Aa hB.o.low (hD 5 _ rfl);rw[Nat.add_zero]at y0;simp only[Ao]at KI;clear hi hQ hK hD hE;by_cases hM:k=21
    ·have b21:(k != 21)=false:=(by simpa using hM);have E21:Z9 ((k == 21)=true):=Hd (by simpa using hM);clear hM;by_cases h1:i=1
     ·have b1:((i:Int) != 1)=false:=(by subst h1;rfl);have HQ:Z9 ((k == 21 && i == 1)=true):=Hd (by rw[E21.o,h1];rfl);clear KI h1;go_wp2_with fail;refine⟨⟨i+1,N,l1,hN.o,by first|rfl|rw[hH],?p1,hB.o⟩,?p3⟩
      case p1=>rw[<-HE.o,hC.o,HQ.o,if_pos rfl];rfl
      case p3=>first|exact HM.o|(rw[hH];exact HM.o)
     ·have b1:((i:Int) != 1)=true:=(by simp;omega);have HQ:Z9 ((k == 21 && i == 1)=false):=Hd (by rw[E21.o];simpa using h1);have hJ:Z9 (N++Cu k i (ps.drop i)=Cu k 0 ps):=HE;rw[hC.o]at hJ
      replace KI:=Hd (KI.o HQ.o)
      clear h1;go_wp2_with fail;refine (KI.o).mono ?_;rintro e w2 ⟨v2,l2,rfl,h2⟩;have hI:=Hd (hB.o.step h2);have kB:=Hd (HX.o _ _ hI.o.fr);clear h2 KI y0 y1 y2 y3 y4 y5;go_wp2_with fail;refine⟨⟨i+1,_,l2,hN.o,by first|rfl|rw[hH],?p1,hI.o⟩,?p3⟩
      case p1=>rw[<-hJ.o,HQ.o,if_neg (by decide),List.append_assoc]
      case p3=>first|exact HM.o|(rw[hH];exact HM.o)
    ·have b21:(k != 21)=true:=(by simpa using hM);have HQ:Z9 ((k == 21 && i == 1)=false):=Hd (by simp[hM]);have hJ:Z9 (N++Cu k i (ps.drop i)=Cu k 0 ps):=HE;rw[hC.o]at hJ
     replace KI:=Hd (KI.o HQ.o)
     clear hM;go_wp2_with fail;refine (KI.o).mono ?_;rintro e w2 ⟨v2,l2,rfl,h2⟩;have hI:=Hd (hB.o.step h2);have kB:=Hd (HX.o _ _ hI.o.fr);clear h2 KI y0 y1 y2 y3 y4 y5;go_wp2_with fail;refine⟨⟨i+1,_,l2,hN.o,by first|rfl|rw[hH],?p1,hI.o⟩,?p3⟩
     case p1=>rw[<-hJ.o,HQ.o,if_neg (by decide),List.append_assoc]
     case p3=>first|exact HM.o|(rw[hH];exact HM.o)
   ·have t1:decide ((i:Int)<(ps.length:Int))=false:=(by simp;omega);have hW:Z9 (N=Cu k 0 ps):=Hd (by rw[<-HE.o,List.drop_eq_nil_of_le (by omega),Cu,List.append_nil]);clear hi;go_wp2_with fail
    go_loopw [1,6] (fun ov iv wx=>∃(i:Nat) (N l1:List Z8),i<=fs.length/\iv=.int .i64 i/\N++Dk (fs.drop i)=Cu k 0 ps++Dk fs/\Hg w0 w1 (.slice As l.length c) l N ov wx l1) (fun _ v _=>fs.length - (intOf v).toNat)
    case atStart=>exact⟨0,N,l1,by omega,rfl,by rw[List.drop_zero,hW.o],hB.o⟩
    case round=>
     clear z0 z3 z4 hB hL;obtain⟨i,N,l1,hi,rfl,he,hG⟩:=hrel;have hB:=Hd hG;have HE:=Hd he;obtain⟨z0,z3,z4⟩:=HX.o _ _ hG.fr;have hL:Z9 (l1.length+(Dk (fs.drop i)).length<=1099511627776):=Hd (by
      have h1:=hG.len;have h2:=kA.o;rw[hX.o,<-he,List.length_append]at h2;omega)
     obtain⟨A1,c1,rfl,-⟩:=hG.own.list (by have:=hL.o;omega);clear hG he;by_cases hF:i<fs.length
     ·have t1:decide ((i:Int)<(fs.length:Int))=true:=(by simp;omega);have hH:wrap64 ((i:Int)+1)=((i+1:Nat):Int):=Ax (by omega);have HM:=Hd (Bf hF);obtain⟨b,o,hZ,_,hQ⟩:=kD.o.at (by omega);have hS:=(hQ i hF).2.2.2;have hK:=HF.o _ (List.getElem_mem hF);have hC:=Hd (Mn hF);have hN:Z9 (i+1<=fs.length):=Hd hF;subst hZ;generalize fs[i].2.2=t at hS hK hC;obtain⟨cs,hD,hE⟩:=hS;obtain⟨k2,s2,n2,kJ,kI,kK⟩:=t;have KI:=Hd (hK K w0 _ cs _ l1 hE hB.o.low hB.o.own hB.o.asc (by
       have h1:=hL.o;rw[hC.o,List.length_append]at h1;omega))
      have hJ:Z9 (N++Dk (fs.drop i)=Cu k 0 ps++Dk fs):=HE;rw[hC.o]at hJ;obtain⟨Aq,cq,Ag,cg,Ah,ch,rfl,-⟩:=hE.inv;have y0:=Aa hB.o.low (hD 0 _ rfl);have y1:=Aa hB.o.low (hD 1 _ rfl);have y2:=Aa hB.o.low (hD 2 _ rfl);have y3:=Aa hB.o.low (hD 3 _ rfl);have y4:=Aa hB.o.low (hD 4 _ rfl);have y5:=Aa hB.o.low (hD 5 _ rfl);rw[Nat.add_zero]at y0;simp only[Ao]at KI;clear hi hQ hK hD hE;go_wp2_with fail;refine (KI.o).mono ?_;rintro e w2 ⟨v2,l2,rfl,h2⟩;have hI:=Hd (hB.o.step h2);have kB:=Hd (HX.o _ _ hI.o.fr);clear h2 KI y0 y1 y2 y3 y4 y5;go_wp2_with fail;refine⟨⟨i+1,_,l2,hN.o,by first|rfl|rw[hH],?p1,hI.o⟩,?p3⟩
      case p1=>rw[<-hJ.o,List.append_assoc]
      case p3=>first|exact HM.o|(rw[hH];exact HM.o)
     ·have t1:decide ((i:Int)<(fs.length:Int))=false:=(by simp;omega);have hW:Z9 (N=Cu k 0 ps++Dk fs):=Hd (by rw[<-HE.o,List.drop_eq_nil_of_le (by omega)];simp[Dk]);clear hi;go_wp2_with fail;go_ret
      refine⟨.slice A1 l1.length c1,l1,rfl,?_⟩;rw[hX.o,<-hW.o];exact Hg.from hB.o hV.o
theorem Uo (t:Ty):Zk t:=Ty.ind (C:=Zk) (fun k s n ps fs vs hp hf _=>Su k s n ps fs vs hp hf) t
def Ju (l:List Ty):Bool:=l.all fun t=>t.k == 13
theorem Jbz {K:Nat->Prop}{w:World}{l:List Ty}{A:Option Addr}{c:Nat}(hL:Bh K w l A c) :
  Calls Tryz.prog 73 #[.slice A l.length c] w fun e w'=>e=.returned (.bool (Ju l))/\w'=w:=by
 have HL:=Hd hL;have hH:=hL.short;clear hL;go_enter Tryz.func73,Tryz.ntmps73;go_wp2_with fail
 go_loopw [3] (fun v wr=>∃(i:Nat),i<=l.length/\v=.int .i64 i/\Ju l=Ju (l.drop i)/\wr=w) (fun v _=>l.length - (intOf v).toNat)
 case atStart=>exact⟨0,by omega,rfl,by rw[List.drop_zero],rfl⟩
 case round=>
  obtain⟨i,hi,rfl,he,rfl⟩:=hrel;have HE:=Hd he;clear he;by_cases hB:i<l.length
  ·have t1:decide ((i:Int)<(l.length:Int))=true:=by simp;omega
   have hD:wrap64 ((i:Int)+1)=((i+1:Nat):Int):=Ax (by omega);obtain⟨b,o,hA,_,hC⟩:=HL.o.at (by omega);subst hA;obtain⟨q,hq,hG⟩:∃q,(l[i]'hB).k=q/\wr.cell? ⟨b,o+i*6,none⟩=some (.int .i64 q):=by
    have h1:=hC i hB;generalize l[i]=t at h1;obtain⟨k,s,n,ps,fs,vs⟩:=t;obtain⟨_,_,_,_,_,_,⟨x0,_⟩,_⟩:=h1.six;exact⟨k,rfl,x0⟩
   have HS:Z9 (Ju (l.drop i)=((l[i]'hB).k == 13 && Ju (l.drop (i+1)))):=Hd (by rw[List.drop_eq_getElem_cons hB];rfl);have HM:=Hd (Bf hB);have hF:Z9 (i+1<=l.length):=Hd hB;by_cases hk:q=13
   ·have HK:Z9 (((l[i]'hB).k == 13)=true):=Hd (by rw[hq];simpa using hk);have e13:(q != 13)=false:=(by simpa using hk);clear hC hi hq hk;go_wp2_with fail;refine⟨⟨i+1,hF.o,by first|rfl|rw[hD],by rw[HE.o,HS.o,HK.o];rfl,by first|rfl|trivial⟩,?_⟩;first|exact HM.o|(rw[hD];exact HM.o)
   ·have HK:Z9 (((l[i]'hB).k == 13)=false):=Hd (by rw[hq];simpa using hk);have e13:(q != 13)=true:=(by simpa using hk);clear hC hi hq hk;go_wp2_with fail;go_ret
    exact⟨by rw[HE.o,HS.o,HK.o];rfl,rfl⟩
  ·have t1:decide ((i:Int)<(l.length:Int))=false:=by simp;omega
   have hE:Z9 (Ju l=true):=Hd (by rw[HE.o,List.drop_eq_nil_of_le (by omega)];rfl);clear hi;go_wp2_with fail;go_ret
   exact⟨by rw[hE.o];rfl,rfl⟩
theorem Yx {w:World}(k:Int) (s:Z8) (n:Int) (A:Option Addr) (a c:Nat) (A':Option Addr) (a' c':Nat) (A'':Option Addr) (a'' c'':Nat) :
  Calls Tryz.prog 70 #[.agg #[.int .i64 k,.string s,.int .i64 n,.slice A a c,.slice A' a' c',.slice A'' a'' c'']] w fun e w'=>e=.returned (.bool (s.toList == [] && n == 0))/\Below w.heap.size w w':=by
 have hA:Z9 (Below w.heap.size w (w.alloc (.cells #[.int .i64 k,.string s,.int .i64 n,.slice A a c,.slice A' a' c',.slice A'' a'' c''] 26))):=Hd ((Below.refl _ _).alloc (Nat.le_refl _) _);have HC:=Hd (D6 w [.int .i64 k,.string s,.int .i64 n,.slice A a c,.slice A' a' c',.slice A'' a'' c''] 26);have x1:(w.alloc (.cells #[.int .i64 k,.string s,.int .i64 n,.slice A a c,.slice A' a' c',.slice A'' a'' c''] 26)).cell? ⟨w.heap.size,1,none⟩=some (.string s):=HC.o 1 _ rfl;have x2:(w.alloc (.cells #[.int .i64 k,.string s,.int .i64 n,.slice A a c,.slice A' a' c',.slice A'' a'' c''] 26)).cell? ⟨w.heap.size,2,none⟩=some (.int .i64 n):=HC.o 2 _ rfl
 cases h:(s.toList == []) with
 | true=>
  go_enter Tryz.func70,Tryz.ntmps70;go_wp2_with fail;go_ret
  exact⟨by simp,hA.o⟩
 | false=>
  go_enter Tryz.func70,Tryz.ntmps70;go_wp2_with fail;go_ret
  exact⟨by simp,hA.o⟩
theorem Jes {K':Nat->Prop}{w0 w:World}{t:Ty}(x0:Int) (x1:Z8) (x2:Int) (x3:Option Addr) (x4 x5:Nat) (x6:Option Addr) (x7 x8:Nat) (x9:Option Addr) (xa xb:Nat) (ht:An K' w0 t [.int .i64 x0,.string x1,.int .i64 x2,.slice x3 x4 x5,.slice x6 x7 x8,.slice x9 xa xb]) (hb:Below w0.heap.size w0 w) :
  Calls Tryz.prog 60 #[.slice none 0 0,.agg #[.int .i64 x0,.string x1,.int .i64 x2,.slice x3 x4 x5,.slice x6 x7 x8,.slice x9 xa xb]] w (G8 K' w0 [] t):=by
 have hU:Z9 (Below w0.heap.size w0 (w.alloc (.cells #[.int .i64 x0,.string x1,.int .i64 x2,.slice x3 x4 x5,.slice x6 x7 x8,.slice x9 xa xb] 26))):=Hd (hb.alloc hb.size _);have hJ:Z9 ((w.alloc (.cells #[.int .i64 x0,.string x1,.int .i64 x2,.slice x3 x4 x5,.slice x6 x7 x8,.slice x9 xa xb] 26)).heap[w.heap.size]?=some (.cells #[.int .i64 x0,.string x1,.int .i64 x2,.slice x3 x4 x5,.slice x6 x7 x8,.slice x9 xa xb] 26 (0,0))):=Hd (heap_alloc_new w _);have HT:=Hd ht;obtain⟨i0,hW,hY,hZ,kA⟩:=Ec Hf;unfold G8;clear ht hb;go_enter Tryz.func60,Tryz.ntmps60;go_wp2_with fail
 go_loopw [5] (fun v wr=>v=.int .i64 0/\wr=w.alloc (.cells #[.int .i64 x0,.string x1,.int .i64 x2,.slice x3 x4 x5,.slice x6 x7 x8,.slice x9 xa xb] 26)) (fun _ _=>0)
 case atStart=>exact⟨rfl,rfl⟩
 case round=>
  obtain⟨rfl,rfl⟩:=hrel;go_wp2_with fail;refine wp_region_held_drew (S:=(fun _=>True)) (by kernel_rfl) trivial (fun hA=>?_);refine Ab.s [0,1,2] ?_
  iterate 3 (refine Ab.k (so rfl) hA ?_;try simp only[Act.put,Az,Ba,Bb])
  refine Ab.d ?_;refine Ab.s [3,4,5,6,7,8,9,10] ?_
  iterate 8 (refine Ab.t (v:=undef) (so rfl) (by kernel_rfl) (by kernel_rfl) (by kernel_rfl) (fun _ _ _ h=>h) (Or.inr ⟨by rfl,rfl⟩) hA ?_;try simp only[Act.put,Az,Ba,Bb])
  refine Ab.d ?_;refine Ab.s [11] ?_;refine Ab.k (so rfl) hA ?_;try simp only[Act.put,Az,Ba,Bb]
  refine Ab.d ?_;refine wpAnyH_done (by kernel_rfl) ?_ _;clear hA;go_wp2_with fail;refine wp_region_held_drew (S:=(fun _=>True)) (by kernel_rfl) trivial (fun hA=>?_);refine Ab.s [0,1,2] ?_
  iterate 3 (refine Ab.k (so rfl) hA ?_;try simp only[Act.put,Az,Ba,Bb])
  refine Ab.d ?_;refine Ab.s [3,4,5,6,7,8,9,10] ?_
  iterate 8 (refine Ab.t (v:=undef) (so rfl) (by kernel_rfl) (by kernel_rfl) (by kernel_rfl) (fun _ _ _ h=>h) (Or.inr ⟨by rfl,rfl⟩) hA ?_;try simp only[Act.put,Az,Ba,Bb])
  refine Ab.d ?_;refine Ab.s [11] ?_;refine Ab.k (so rfl) hA ?_;try simp only[Act.put,Az,Ba,Bb]
  refine Ab.d ?_;refine wpAnyH_done (by kernel_rfl) ?_ _;clear hA;have hT:(w.alloc (.cells #[.int .i64 x0,.string x1,.int .i64 x2,.slice x3 x4 x5,.slice x6 x7 x8,.slice x9 xa xb] 26)).heap.size=w.heap.size+1:=World.size_alloc _ _;have hL:Z9 ((((w.alloc (.cells #[.int .i64 x0,.string x1,.int .i64 x2,.slice x3 x4 x5,.slice x6 x7 x8,.slice x9 xa xb] 26)).alloc (.cells #[.int .i64 x0,.string x1,.int .i64 x2,.slice x3 x4 x5,.slice x6 x7 x8,.slice x9 xa xb] 26)).drew.drew).ownsRow w0.heap.size 26 6 (.slice none 0 0) 0 []):=Hd (World.ownsRow_nil _ _ _ _);have hV:=Hd (D6 (w.alloc (.cells #[.int .i64 x0,.string x1,.int .i64 x2,.slice x3 x4 x5,.slice x6 x7 x8,.slice x9 xa xb] 26)) [.int .i64 x0,.string x1,.int .i64 x2,.slice x3 x4 x5,.slice x6 x7 x8,.slice x9 xa xb] 26);rw[hT]at hV;obtain⟨y0,y1,y2,y3,y4,y5⟩:=Tf _ _ _ _ _ _ _ _ _ _ _ _ hJ.o;have HW1:=Hd hT;clear hT;go_wp2_with (at_builtin;refine wpList_plain rfl fun K hK=>?_;go_loud (refine B5 _ _ 22 rfl w0.heap.size 26 i0 (.agg #[.int .i64 0,.string ⟨#[]⟩,.int .i64 0,.slice none 0 0,.slice none 0 0,.slice none 0 0]) 6 104 Tryz.underlying22 hW hY hZ kA rfl (by decide) _ _ _ rfl hL.o ⟨w.heap.size+1,0,none⟩ 1 1 [.int .i64 x0,.string x1,.int .i64 x2,.slice x3 x4 x5,.slice x6 x7 x8,.slice x9 xa xb] rfl rfl ?a0 ?a1 ?a2 ?a3 ?a4 ?_))
  case a0=>exact hV.o
  case a1=>
   intro u hu;simp only[List.mem_cons,List.not_mem_nil,or_false]at hu;rcases hu with rfl|rfl|rfl|rfl|rfl|rfl <;> rfl
  case a2=>unfold maxLen;omega
  case a3=>omega
  case a4=>
   have h3:((w.alloc (.cells #[.int .i64 x0,.string x1,.int .i64 x2,.slice x3 x4 x5,.slice x6 x7 x8,.slice x9 xa xb] 26)).alloc (.cells #[.int .i64 x0,.string x1,.int .i64 x2,.slice x3 x4 x5,.slice x6 x7 x8,.slice x9 xa xb] 26)).heap.size=(w.alloc (.cells #[.int .i64 x0,.string x1,.int .i64 x2,.slice x3 x4 x5,.slice x6 x7 x8,.slice x9 xa xb] 26)).heap.size+1:=World.size_alloc _ _;have h5:=hU.o.size;show w0.heap.size<=((w.alloc (.cells #[.int .i64 x0,.string x1,.int .i64 x2,.slice x3 x4 x5,.slice x6 x7 x8,.slice x9 xa xb] 26)).alloc (.cells #[.int .i64 x0,.string x1,.int .i64 x2,.slice x3 x4 x5,.slice x6 x7 x8,.slice x9 xa xb] 26)).heap.size;omega
  intro v5 w5 hE hO _ hC;refine hK _ _ ?_;clear hK K y0 y1 y2 y3 y4 y5;have hR:=Hq (v:=.slice none 0 0) (os:=[]) (vs:=[]) (w2:=(w.alloc (.cells #[.int .i64 x0,.string x1,.int .i64 x2,.slice x3 x4 x5,.slice x6 x7 x8,.slice x9 xa xb] 26)).drew.drew) hU.o.drew.drew (World.ownsRow_nil _ _ _ _) (fun i h=>absurd h (by simp)) HT.o hE hO;have hD:w5.heap[w.heap.size]?=some (.cells #[.int .i64 x0,.string x1,.int .i64 x2,.slice x3 x4 x5,.slice x6 x7 x8,.slice x9 xa xb] 26 (0,0)):=by
   have hX:=(Array.getElem?_eq_some_iff.1 hJ.o).1;have h3:((w.alloc (.cells #[.int .i64 x0,.string x1,.int .i64 x2,.slice x3 x4 x5,.slice x6 x7 x8,.slice x9 xa xb] 26)).alloc (.cells #[.int .i64 x0,.string x1,.int .i64 x2,.slice x3 x4 x5,.slice x6 x7 x8,.slice x9 xa xb] 26)).heap.size=(w.alloc (.cells #[.int .i64 x0,.string x1,.int .i64 x2,.slice x3 x4 x5,.slice x6 x7 x8,.slice x9 xa xb] 26)).heap.size+1:=World.size_alloc _ _;have h6:((w.alloc (.cells #[.int .i64 x0,.string x1,.int .i64 x2,.slice x3 x4 x5,.slice x6 x7 x8,.slice x9 xa xb] 26)).alloc (.cells #[.int .i64 x0,.string x1,.int .i64 x2,.slice x3 x4 x5,.slice x6 x7 x8,.slice x9 xa xb] 26)).heap[w.heap.size]?=(w.alloc (.cells #[.int .i64 x0,.string x1,.int .i64 x2,.slice x3 x4 x5,.slice x6 x7 x8,.slice x9 xa xb] 26)).heap[w.heap.size]?:=Below.heap_alloc (w.alloc (.cells #[.int .i64 x0,.string x1,.int .i64 x2,.slice x3 x4 x5,.slice x6 x7 x8,.slice x9 xa xb] 26)) _ _ hX;exact (hO.block w.heap.size (by show w.heap.size<((w.alloc (.cells #[.int .i64 x0,.string x1,.int .i64 x2,.slice x3 x4 x5,.slice x6 x7 x8,.slice x9 xa xb] 26)).alloc (.cells #[.int .i64 x0,.string x1,.int .i64 x2,.slice x3 x4 x5,.slice x6 x7 x8,.slice x9 xa xb] 26)).heap.size;omega) (fun e=>by cases e)).trans (h6.trans hJ.o)
  rcases Fm.of_out hR.1 with ⟨-,hQ⟩|⟨g5,c5,hS,hF,hB⟩
  ·exact absurd hQ (by simp)
  have hP:g5≠w.heap.size:=by
   rcases hC with h|h
   ·rw[hS]at h
    cases h
   ·rw[hS]at h;have h1:=HW1.o;have h2:g5=(w.alloc (.cells #[.int .i64 x0,.string x1,.int .i64 x2,.slice x3 x4 x5,.slice x6 x7 x8,.slice x9 xa xb] 26)).heap.size+1:=(by first|exact Option.some.inj h|(have h3:=Option.some.inj h;simpa using h3));omega
  subst hS;rw[List.nil_append]at hB;have hM:Z9 (Fm K' w0 (w5.setCells g5 (0*6) [.int .i64 x0,.string x1,.int .i64 x2,.slice x3 x4 x5,.slice x6 x7 x8,.slice x9 xa xb]) g5 c5 [t]):=Hd (Fm.set (a:=[]) (b:=[]) hB HT.o);have hI:=(hM.o).o hF;have hG:Z9 (Cl K' w0 (w5.setCells g5 0 [.int .i64 x0,.string x1,.int .i64 x2,.slice x3 x4 x5,.slice x6 x7 x8,.slice x9 xa xb]) (.slice (some ⟨g5,0,none⟩) 1 c5) (Fz t [])/\Below w0.heap.size w0 (w5.setCells g5 0 [.int .i64 x0,.string x1,.int .i64 x2,.slice x3 x4 x5,.slice x6 x7 x8,.slice x9 xa xb])):=Hd ⟨hI,Eh hF _ _ _ hR.2⟩;obtain⟨r0,r1,r2,r3,r4,r5,r6,r7,r8,r9,ra,rb,hr,-⟩:=hB.sixAt (i:=0) (t:=t) rfl;simp only[Nat.zero_mul,Nat.zero_add]at hr;obtain⟨r0',r1',r2',r3',r4',r5'⟩:=hr;obtain⟨z0,z1,z2,z3,z4,z5⟩:=Tf _ _ _ _ _ _ _ _ _ _ _ _ hD;have hN:=hB.blk;obtain⟨cur,hH,-⟩:=hN;have kB:∀o,w5.frozen? ⟨g5,o,none⟩=false:=fun o=>Lib.frozen_of_heap hH o;clear hE hO hR hD hC hB hP hF hI hH;go_wp2_with fail
  go_loopw [6] (fun v wr=>v=.int .i64 0/\wr=w5) (fun _ _=>0)
  case atStart=>exact⟨by first|rfl|simp,rfl⟩
  case round=>
   obtain⟨rfl,rfl⟩:=hrel;go_wp2_with fail;go_ret
   exact⟨_,rfl,hG.o.1,hG.o.2⟩
def E5 (ps:List Ty):List Z8:=match ps[1]? with
 | some p=>Bi p
 | none=>[]
def Dz (k:Int) (t:Z8) (n:Int) (ps:List Ty) (i:Nat) (x:Z8):Bool:=
 (((k == 20 && i == 1) || (k == 21 && n == 1 && decide (0<i))) && decide (t=x)) || (k == 21 && i == 2 && ps.length == 4 && Dp (E5 ps) x)
def Bx (x:Z8):Ty->Bool
 | .mk k t n ps fs vs=>(k == 16 && decide (t=x)) || (!(vs.any fun v=>decide (v.1=x)) && ((vs.attach.any fun ⟨v,_⟩=>v.2.attach.any fun ⟨b,_⟩=>Bx x b) || ((ps.attach.mapIdx fun i ⟨p,_⟩=>!Dz k t n ps i x && Bx x p).any id || (fs.attach.any fun ⟨f,_⟩=>Bx x f.2.2))))
termination_by t=>SizeOf.sizeOf t
decreasing_by
 ·exact Fy ‹_› ‹_›
 ·exact D8 ‹_›
 ·exact E2 ‹_›
def Fl (x:Z8) (cut:Nat->Bool):Nat->List Ty->Bool
 | _,[]=>false
 | i,p :: l=>(!cut i && Bx x p) || Fl x cut (i+1) l
def It (x:Z8) (l:List Ty):Bool:=l.any (Bx x)
def Mh (x:Z8) (l:Bw):Bool:=l.any fun v=>It x v.2
def Ox (x:Z8) (l:Bv):Bool:=l.any fun f=>Bx x f.2.2
def Ff (vs:Bw) (x:Z8):Bool:=vs.any fun v=>decide (v.1=x)
theorem Vp {α:Type}(x:Z8) (cut:Nat->Bool) (g:α->Ty):∀(l:List α) (j:Nat),(l.mapIdx fun i p=>!cut (i+j) && Bx x (g p)).any id=Fl x cut j (l.map g)
 | [],_=>rfl
 | a :: l,j=>by
  rw[List.mapIdx_cons,List.any_cons,List.map_cons,Fl,<-Vp x cut g l (j+1)];simp only[Nat.zero_add,id_eq,Nat.add_assoc,Nat.add_comm 1 j]
theorem F6 {α:Type}(l:List α):l.attach.map (fun a=>a.1)=l:=by simp
theorem Jy {α:Type}(p:α->Bool) (l:List α):(l.attach.any fun a=>p a.1)=l.any p:=by
 have h:(l.attach.map (fun a=>a.1)).any p=l.any p:=by rw[F6]
 rw[List.any_map]at h;exact h
theorem Fd (x:Z8) (k t n ps fs vs):Bx x (.mk k t n ps fs vs)=((k == 16 && decide (t=x)) || (!Ff vs x && (Mh x vs || (Fl x (fun i=>Dz k t n ps i x) 0 ps || Ox x fs)))):=by
 rw[Bx];have h:=Vp x (fun i=>Dz k t n ps i x) (fun p:{x // x∈ps}=>p.1) ps.attach 0;simp only[Nat.add_zero]at h;rw[h];have h1:ps.attach.map (fun p:{x // x∈ps}=>p.1)=ps:=F6 ps;rw[h1];have h2:(fs.attach.any fun f=>Bx x f.1.2.2)=Ox x fs:=Jy (fun f:Z8×Int×Ty=>Bx x f.2.2) fs;have h3:(vs.attach.any fun v=>v.1.2.attach.any fun b=>Bx x b.1)=Mh x vs:=by
  have e:(fun v:{v // v∈vs}=>v.1.2.attach.any fun b=>Bx x b.1)=fun v:{v // v∈vs}=>It x v.1.2:=by
   funext v;exact Jy (Bx x) v.1.2
  rw[e];exact Jy (fun v:Z8×List Ty=>It x v.2) vs
 rw[h2,h3];rfl
def Fp:Ty->List Z8
 | .mk _ t _ ps fs vs=>t :: (vs.map (·.1)++(E5 ps++((vs.attach.map fun ⟨v,_⟩=>(v.2.attach.map fun ⟨b,_⟩=>Fp b).flatten).flatten++((ps.attach.map fun ⟨p,_⟩=>Fp p).flatten++(fs.attach.map fun ⟨f,_⟩=>Fp f.2.2).flatten))))
termination_by t=>SizeOf.sizeOf t
decreasing_by
 ·exact Fy ‹_› ‹_›
 ·exact D8 ‹_›
 ·exact E2 ‹_›
theorem Df {α β:Type}(g:α->List β) (l:List α):(l.attach.map fun a=>g a.1).flatten=(l.map g).flatten:=by
 have h:(l.attach.map (fun a=>a.1)).map g=l.map g:=by rw[F6]
 rw[List.map_map]at h;exact congrArg List.flatten h
theorem Jz (k t n ps fs vs):Fp (.mk k t n ps fs vs)=t :: (vs.map (·.1)++(E5 ps++((vs.map fun v=>(v.2.map Fp).flatten).flatten++((ps.map Fp).flatten++(fs.map fun f=>Fp f.2.2).flatten)))):=by
 rw[Fp];have h1:(ps.attach.map fun p=>Fp p.1).flatten=(ps.map Fp).flatten:=Df Fp ps;have h2:(fs.attach.map fun f=>Fp f.1.2.2).flatten=(fs.map fun f=>Fp f.2.2).flatten:=Df (fun f:Z8×Int×Ty=>Fp f.2.2) fs;have h3:(vs.attach.map fun v=>(v.1.2.attach.map fun b=>Fp b.1).flatten).flatten=(vs.map fun v=>(v.2.map Fp).flatten).flatten:=by
  have e:(fun v:{v // v∈vs}=>(v.1.2.attach.map fun b=>Fp b.1).flatten)=fun v:{v // v∈vs}=>(v.1.2.map Fp).flatten:=by
   funext v;exact Df Fp v.1.2
  rw[e];exact Df (fun v:Z8×List Ty=>(v.2.map Fp).flatten) vs
 rw[h1,h2,h3]
theorem I5 {k:Int}{t:Z8}{n:Int}{ps:List Ty}{fs:Bv}{vs:Bw}:t∈Fp (.mk k t n ps fs vs):=by rw[Jz];exact List.mem_cons_self
theorem Rq {k:Int}{t:Z8}{n:Int}{ps:List Ty}{fs:Bv}{vs:Bw}{x:Z8}(h:x∈E5 ps):x∈Fp (.mk k t n ps fs vs):=by
 rw[Jz];simp[h]
theorem Zu {k:Int}{t:Z8}{n:Int}{ps:List Ty}{fs:Bv}{vs:Bw}{v:Z8×List Ty}(h:v∈vs):v.1∈Fp (.mk k t n ps fs vs):=by
 rw[Jz];exact List.mem_cons_of_mem _ (List.mem_append_left _ (List.mem_map_of_mem h))
theorem Ro {k:Int}{t:Z8}{n:Int}{ps:List Ty}{fs:Bv}{vs:Bw}{v:Z8×List Ty}{b:Ty}{x:Z8}(h:v∈vs) (hb:b∈v.2) (hx:x∈Fp b):x∈Fp (.mk k t n ps fs vs):=by
 rw[Jz];refine List.mem_cons_of_mem _ (List.mem_append_right _ (List.mem_append_right _ (List.mem_append_left _ ?_)));exact List.mem_flatten.2 ⟨_,List.mem_map_of_mem h,List.mem_flatten.2 ⟨_,List.mem_map_of_mem hb,hx⟩⟩
theorem Kd {k:Int}{t:Z8}{n:Int}{ps:List Ty}{fs:Bv}{vs:Bw}{p:Ty}{x:Z8}(h:p∈ps) (hx:x∈Fp p):x∈Fp (.mk k t n ps fs vs):=by
 rw[Jz];refine List.mem_cons_of_mem _ (List.mem_append_right _ (List.mem_append_right _ (List.mem_append_right _ (List.mem_append_left _ ?_))));exact List.mem_flatten.2 ⟨_,List.mem_map_of_mem h,hx⟩
theorem Rp {k:Int}{t:Z8}{n:Int}{ps:List Ty}{fs:Bv}{vs:Bw}{f:Z8×Int×Ty}{x:Z8}(h:f∈fs) (hx:x∈Fp f.2.2):x∈Fp (.mk k t n ps fs vs):=by
 rw[Jz];refine List.mem_cons_of_mem _ (List.mem_append_right _ (List.mem_append_right _ (List.mem_append_right _ (List.mem_append_right _ ?_))));exact List.mem_flatten.2 ⟨_,List.mem_map_of_mem h,hx⟩
def Dy:Ty->Bool
 | .mk _ _ _ ps fs vs=>decide (vs.length<=3518437208780) && ((vs.attach.all fun ⟨v,_⟩=>v.2.attach.all fun ⟨b,_⟩=>Dy b) && ((ps.attach.all fun ⟨p,_⟩=>Dy p) && (fs.attach.all fun ⟨f,_⟩=>Dy f.2.2)))
termination_by t=>SizeOf.sizeOf t
decreasing_by
 ·exact Fy ‹_› ‹_›
 ·exact D8 ‹_›
 ·exact E2 ‹_›
theorem El {α:Type}(p:α->Bool) (l:List α):(l.attach.all fun a=>p a.1)=l.all p:=by
 have h:(l.attach.map (fun a=>a.1)).all p=l.all p:=by rw[F6]
 rw[List.all_map]at h;exact h
theorem L4 (k t n ps fs vs):Dy (.mk k t n ps fs vs)=(decide (vs.length<=3518437208780) && ((vs.all fun v=>v.2.all Dy) && (ps.all Dy && fs.all fun f=>Dy f.2.2))):=by
 rw[Dy];have h1:(ps.attach.all fun p=>Dy p.1)=ps.all Dy:=El Dy ps;have h2:(fs.attach.all fun f=>Dy f.1.2.2)=fs.all fun f=>Dy f.2.2:=El (fun f:Z8×Int×Ty=>Dy f.2.2) fs;have h3:(vs.attach.all fun v=>v.1.2.attach.all fun b=>Dy b.1)=vs.all fun v=>v.2.all Dy:=by
  have e:(fun v:{v // v∈vs}=>v.1.2.attach.all fun b=>Dy b.1)=fun v:{v // v∈vs}=>v.1.2.all Dy:=by
   funext v;exact El Dy v.1.2
  rw[e];exact El (fun v:Z8×List Ty=>v.2.all Dy) vs
 rw[h1,h2,h3]
theorem Gc {k:Int}{t:Z8}{n:Int}{ps:List Ty}{fs:Bv}{vs:Bw}(h:Dy (.mk k t n ps fs vs)=true):vs.length<=3518437208780/\(∀v∈vs,∀b∈v.2,Dy b=true)/\(∀p∈ps,Dy p=true)/\∀f∈fs,Dy f.2.2=true:=by
 rw[L4,Bool.and_eq_true,Bool.and_eq_true,Bool.and_eq_true,decide_eq_true_eq,List.all_eq_true,List.all_eq_true,List.all_eq_true]at h;exact⟨h.1,fun v hv b hb=>List.all_eq_true.1 (h.2.1 v hv) b hb,h.2.2.1,h.2.2.2⟩
def Jfo:MK Tryz.prog Int where
 T:=185
 S:=9
 E:=3
 val:=fun i=>.int .i64 i
 dat:=fun i=>.lit (.int .i64 i)
 zero:=0
 R:=fun v=>match v with
  | .int .i64 i=>some (.lit (.int .i64 i),[])
  | _=>none
 hR:=fun _=>rfl
 inv:=by
  intro v a ps h
  split at h
  ·injection h with h
   injection h with h1 h2
   injection h1 with h1
   injection h1 with h1 h3
   rw[h3]
  ·cases h
 hS:=Tryz.underlying9
 hT:=Tryz.underlying185
 hz:=Tryz.zeroValue3
theorem Da.putH {P:Program}{α:Type}{M:MK P α}{W:World}{b n:Nat}{F:Z8->Option α}(h:Da M W b n F) (hn:n<maxLen) (s:Z8) (hs:s.size<=maxLen) (a:α) (hp:(F s).isSome=true) :
  ∃w',(Instr.mapUpdate M.T (.map (some b)) (.string s) (M.val a)).run P W=.ok () w'/\Da M w' b n (Ip F s a)/\W.grownBy w' (some b):=by
 obtain⟨L,h,hL,hF⟩:=h;obtain⟨w',hA,ho,hg⟩:=World.ownsMap.update h (Go.Maps.string_keyed M.hS) M.hT (Nat.lt_of_le_of_lt hL hn) (M.key s hs) (M.hR a);rw[Oe M L (s,a)]at ho;have hB:=Qz ho;rw[Hw]at hB;refine⟨w',hA,⟨_,hB,?_,fun x=>?_⟩,hg⟩
 ·rw[Kn];have h1:(Ml L s).length<L.length:=by
   rw[<-hF s]at hp;unfold F0 at hp;rw[Option.isSome_map,List.find?_isSome]at hp;obtain⟨f,hf,hk⟩:=hp;exact List.length_filter_lt_length_iff_exists.2 ⟨f,hf,by simp[hk]⟩
  simp only;omega
 ·rw[Ja (s,a) x _ (by rw[Gr];simp)];unfold Ip;simp only;by_cases e:s=x
  ·rw[if_pos e,if_pos e]
  ·rw[if_neg e,if_neg e,Gr,if_neg e,hF]

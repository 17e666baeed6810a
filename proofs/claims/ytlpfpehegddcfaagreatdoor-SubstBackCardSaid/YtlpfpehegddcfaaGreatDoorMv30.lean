import Derived.Test.YtlpfpehegddcfaaGreatDoorMv28
namespace Go.Proofs.YtlpfpehegddcfaaGreatDoor
set_option maxRecDepth 100000
set_option maxHeartbeats 64000000
open Go.RowKit
def Ge:Ty->List ByteArray
 | .mk k t _ ps fs vs=>(if k=16 then [t] else [])++((vs.attach.map fun ⟨v,_⟩=>(v.2.attach.map fun ⟨b,_⟩=>Ge b).flatten).flatten++((ps.attach.map fun ⟨p,_⟩=>Ge p).flatten++(fs.attach.map fun ⟨f,_⟩=>Ge f.2.2).flatten))
termination_by t=>SizeOf.sizeOf t
decreasing_by
 ·exact E5 ‹_› ‹_›
 ·exact Dt ‹_›
 ·exact Ec ‹_›
theorem Eo (k t n ps fs vs):Ge (.mk k t n ps fs vs)=(if k=16 then [t] else [])++((vs.map fun v=>(v.2.map Ge).flatten).flatten++((ps.map Ge).flatten++(fs.map fun f=>Ge f.2.2).flatten)):=by
 rw[Ge];have h1:(ps.attach.map fun p=>Ge p.1).flatten=(ps.map Ge).flatten:=Cw Ge ps;have h2:(fs.attach.map fun f=>Ge f.1.2.2).flatten=(fs.map fun f=>Ge f.2.2).flatten:=Cw (fun f:ByteArray×Int×Ty=>Ge f.2.2) fs;have h3:(vs.attach.map fun v=>(v.1.2.attach.map fun b=>Ge b.1).flatten).flatten=(vs.map fun v=>(v.2.map Ge).flatten).flatten:=by
  have e:(fun v:{v // v∈vs}=>(v.1.2.attach.map fun b=>Ge b.1).flatten)=fun v:{v // v∈vs}=>(v.1.2.map Ge).flatten:=by
   funext v;exact Cw Ge v.1.2
  rw[e];exact Cw (fun v:ByteArray×List Ty=>(v.2.map Ge).flatten) vs
 rw[h1,h2,h3]
theorem Fz {α β:Type} {f:α->List β} {g:α->Nat}:∀ {l:List α},(∀ a∈l,(f a).length<=g a)->(l.map f).flatten.length<=(l.map g).sum
 | [],_=>Nat.le_refl _
 | a :: l,h=>by
  rw[List.map_cons,List.flatten_cons,List.length_append,List.map_cons,List.sum_cons];exact Nat.add_le_add (h a List.mem_cons_self) (Fz fun b hb=>h b (List.mem_cons_of_mem _ hb))
theorem Jes (t:Ty):(Ge t).length<=Ai t:=by
 refine Ty.ind (C:=fun t=>(Ge t).length<=Ai t) (fun k t n ps fs vs hp hf hv=>?_) t;rw[Eo,Br,List.length_append,List.length_append,List.length_append];have h1:(if k=16 then [t] else []).length<=1:=by split <;> simp
 have h2:((ps.map Ge).flatten).length<=An ps:=Fz hp;have h3:((fs.map fun f=>Ge f.2.2).flatten).length<=Bd fs:=Fz hf;have h4:((vs.map fun v=>(v.2.map Ge).flatten).flatten).length<=Be vs:=Fz fun v hv2=>Fz (hv v hv2);omega
theorem Oc (x:ByteArray) (t:Ty):Bl x t=true->x∈Ge t:=by
 refine Ty.ind (C:=fun t=>Bl x t=true->x∈Ge t) (fun k t n ps fs vs hp hf hv h=>?_) t;rw[Eo];rw[Ef] at h;simp only[Bool.or_eq_true,Bool.and_eq_true] at h;have hps:∀ (l:List Ty) (j:Nat) (cut:Nat->Bool),Em x cut j l=true->∃ p∈l,Bl x p=true:=by
  intro l
  induction l with
  | nil=>intro j cut h;rw[Em] at h;cases h
  | cons a l ih=>
   intro j cut h;rw[Em,Bool.or_eq_true,Bool.and_eq_true] at h;rcases h with h | h
   ·exact⟨a,List.mem_cons_self,h.2⟩
   ·obtain⟨p,h1,h2⟩:=ih _ _ h;exact⟨p,List.mem_cons_of_mem _ h1,h2⟩
 rcases h with h | ⟨-,h | h | h⟩
 ·rw[beq_iff_eq,decide_eq_true_eq] at h;rw[if_pos h.1,h.2];exact List.mem_append_left _ (List.mem_singleton.2 rfl)
 ·refine List.mem_append_right _ (List.mem_append_left _ ?_);obtain⟨v,hv2,h⟩:=List.any_eq_true.1 h;obtain⟨b,hb,h⟩:=List.any_eq_true.1 h;exact List.mem_flatten.2 ⟨_,List.mem_map_of_mem hv2,List.mem_flatten.2 ⟨_,List.mem_map_of_mem hb,hv v hv2 b hb h⟩⟩
 ·refine List.mem_append_right _ (List.mem_append_right _ (List.mem_append_left _ ?_));obtain⟨p,hp2,h⟩:=hps _ _ _ h;exact List.mem_flatten.2 ⟨_,List.mem_map_of_mem hp2,hp p hp2 h⟩
 ·refine List.mem_append_right _ (List.mem_append_right _ (List.mem_append_right _ ?_));obtain⟨f,hf2,h⟩:=List.any_eq_true.1 h;exact List.mem_flatten.2 ⟨_,List.mem_map_of_mem hf2,hf f hf2 h⟩
theorem Jei {N:Nat} (t:Ty):Da t=true->Ai t<=N->(Ee t).length<=Ai t*(3518437208781+N):=by
 refine Ty.ind (C:=fun t=>Da t=true->Ai t<=N->(Ee t).length<=Ai t*(3518437208781+N)) (fun k t n ps fs vs hp hf hv hvs hN=>?_) t;obtain⟨v1,v2,v3,v4⟩:=E6 hvs;have hm:An ps<=N/\(∀ p∈ps,Ai p<=N)/\(∀ f∈fs,Ai f.2.2<=N)/\∀ v∈vs,∀ b∈v.2,Ai b<=N:=by
  rw[Br] at hN;refine⟨by omega,fun p h=>?_,fun f h=>?_,fun v h b hb=>?_⟩
  ·have:=Gn h;omega
  ·have:=Js h;omega
  ·have h1:=Gn hb;have h2:=Ia h;omega
 rw[Ht,Br];obtain⟨M,hM⟩:∃ M,M=3518437208781+N:=⟨_,rfl⟩;rw[<-hM] at hp hf hv ⊢;have hn1:(Df ps).length<=N:=by
  unfold Df
  match ps,hm with
  | [],_=>exact Nat.zero_le _
  | [a],_=>exact Nat.zero_le _
  | a :: b :: l,hm=>exact Nat.le_trans (Ev b) (hm.2.1 b (by simp))
 have s1:∀ {α:Type} (l:List α) (g:α->Nat),(l.map fun a=>g a*M).sum=(l.map g).sum*M:=by
  intro α l g
  induction l with
  | nil=>simp
  | cons a l ih=>rw[List.map_cons,List.sum_cons,List.map_cons,List.sum_cons,ih,Nat.add_mul]
 have h2:((ps.map Ee).flatten).length<=An ps*M:=by
  have h:=Fz (f:=Ee) (g:=fun p=>Ai p*M) (l:=ps) fun p h=>hp p h (v3 p h) (hm.2.1 p h);rw[s1] at h;exact h
 have h3:((fs.map fun f=>Ee f.2.2).flatten).length<=Bd fs*M:=by
  have h:=Fz (f:=fun f:ByteArray×Int×Ty=>Ee f.2.2) (g:=fun f=>Ai f.2.2*M) (l:=fs) fun f h=>hf f h (v4 f h) (hm.2.2.1 f h);rw[s1 fs fun f=>Ai f.2.2] at h;exact h
 have h4:((vs.map fun v=>(v.2.map Ee).flatten).flatten).length<=Be vs*M:=by
  have h:=Fz (f:=fun v:ByteArray×List Ty=>(v.2.map Ee).flatten) (g:=fun v=>An v.2*M) (l:=vs) fun v h=>by
   have h5:=Fz (f:=Ee) (g:=fun p=>Ai p*M) (l:=v.2) fun b hb=>hv v h b hb (v2 v h b hb) (hm.2.2.2 v h b hb);rw[s1] at h5;exact h5
  rw[s1 vs fun v=>An v.2] at h;exact h
 simp only[List.length_cons,List.length_append,List.length_map];rw[Nat.add_mul,Nat.add_mul,Nat.add_mul,Nat.one_mul];have hM2:1+vs.length+(Df ps).length<=M:=by omega
 generalize An ps*M=a1 at h2 ⊢;generalize Bd fs*M=a2 at h3 ⊢;generalize Be vs*M=a3 at h4 ⊢;omega
theorem On {α:Type} [DecidableEq α]:∀ {l m:List α},l.Nodup->(∀ x∈l,x∈m)->l.length<=m.length
 | [],_,_,_=>Nat.zero_le _
 | a :: l,m,h,hs=>by
  have h1:=List.nodup_cons.1 h;have ha:=hs a List.mem_cons_self;have h2:=On (l:=l) (m:=m.erase a) h1.2 fun x hx=>(List.mem_erase_of_ne (fun e=>by subst e;exact h1.1 hx)).2 (hs x (List.mem_cons_of_mem _ hx));rw[List.length_erase_of_mem ha] at h2;have:=List.length_pos_of_mem ha;rw[List.length_cons];omega
theorem Il {x:ByteArray} {u:Ty} {cut:Nat->Bool} (h:∀ i,cut i=true):∀ {l:List Ty} {j:Nat},Cv x u cut j l=l
 | [],_=>rfl
 | p :: l,j=>by rw[Cv,if_pos (h j),Il h]
theorem Do (x:ByteArray) (u:Ty) (t:Ty):Ab t=true->Bl x t=false->Ak x u t=t:=by
 refine Ty.ind (C:=fun t=>Ab t=true->Bl x t=false->Ak x u t=t) (fun k t n ps fs vs hp hf hv hfm hfr=>?_) t;rw[Ef,Bool.or_eq_false_iff] at hfr;have hpp:∀ p∈ps,Bl x p=false->Ak x u p=p:=fun p hp2=>hp p hp2 (Ci hfm p hp2);rw[Cr,if_neg (by rw[hfr.1];decide)];by_cases hk:k=15
 ·subst hk;have e:=Dd hfm rfl;have l1:=D8 hfm;have e3:vs=[]:=List.eq_nil_of_length_eq_zero (l1.2.1 (by decide));subst e3;rw[if_pos (show ((15:Int) == 15)=true from rfl)];have h2:Em x (fun i=>C5 15 t n ps i x) 0 ps=false:=by
   have:=hfr.2;simp only[Dq,List.any_nil,Bool.not_false,Bool.true_and,Bool.or_eq_false_iff] at this;exact this.2.1
  have h3:∀ (l:List Ty) (j:Nat),Em x (fun i=>C5 15 t n ps i x) j l=false->∀ p∈l,Bl x p=false:=by
   intro l
   induction l with
   | nil=>intro j _ p h;cases h
   | cons a l ih=>
    intro j h p hp2;rw[Em,Bool.or_eq_false_iff] at h;rcases List.mem_cons.1 hp2 with rfl | hp2
    ·have h4:=h.1;simpa [C5] using h4
    ·exact ih (j+1) h.2 p hp2
  rw[List.map_congr_left (g:=id) fun p hp2=>hpp p hp2 (h3 ps 0 h2 p hp2),List.map_id];exact e
 ·rw[if_neg (by simpa using hk)];have hfo:∀ f∈fs,Ab f.2.2=true:=Ek (t:=.mk k t n ps fs vs) hfm;have hbo:=Gg hfm;by_cases hi:Dq vs x=true
  ·have e2:fs=[]:=by
    refine List.eq_nil_of_length_eq_zero ((D8 hfm).1 fun e=>?_);have h3:vs=[]:=List.eq_nil_of_length_eq_zero ((D8 hfm).2.1 (by omega));rw[h3] at hi
    cases hi
   subst e2;have e3:(vs.map fun v=>(v.1,v.2.map fun b=>if Dq vs x=true then b else Ak x u b))=vs:=by
    refine (List.map_congr_left (g:=id) fun v _=>?_).trans (List.map_id _);simp[hi]
   rw[e3,Il fun i=>by rw[hi];rfl];rfl
  ·have h2:=hfr.2;rw[Bool.not_eq_true] at hi;simp only[hi,Bool.not_false,Bool.true_and,Bool.or_eq_false_iff] at h2;obtain⟨h4,h5,h6⟩:=h2;have e1:Cv x u (fun i=>Dq vs x || C5 k t n ps i x) 0 ps=ps:=Na hpp (by simpa [hi] using h5);have e2:(fs.map fun f=>(f.1,f.2.1,Ak x u f.2.2))=fs:=by
    refine (List.map_congr_left (g:=id) fun f hf2=>?_).trans (List.map_id _);have h7:Bl x f.2.2=false:=by
     rw[Bool.eq_false_iff];intro h;rw[show Mj x fs=true from List.any_eq_true.2 ⟨f,hf2,h⟩] at h6
     cases h6
    rw[hf f hf2 (hfo f hf2) h7];rfl
   have e3:(vs.map fun v=>(v.1,v.2.map fun b=>if Dq vs x=true then b else Ak x u b))=vs:=by
    refine (List.map_congr_left (g:=id) fun v hv2=>?_).trans (List.map_id _);have h8:(v.2.map fun b=>if Dq vs x=true then b else Ak x u b)=v.2:=by
     refine (List.map_congr_left (g:=id) fun b hb2=>?_).trans (List.map_id _);have h7:Bl x b=false:=by
      rw[Bool.eq_false_iff];intro h;rw[show J1 x vs=true from List.any_eq_true.2 ⟨v,hv2,List.any_eq_true.2 ⟨b,hb2,h⟩⟩] at h4
      cases h4
     rw[if_neg (by rw[hi];decide),hv v hv2 b hb2 (hbo v hv2 b hb2) h7];rfl
    rw[h8];rfl
   rw[e1,e2,e3]
def Bg (x:ByteArray):Ty:=.mk 16 x 0 [] [] []
theorem Mh {x:ByteArray} {n:Int} {ps:List Ty} {fs:Bp} {vs:Bm} (h:Ab (.mk 16 x n ps fs vs)=true):n=0/\ps=[]/\fs=[]/\vs=[]:=by
 obtain⟨a,b,c,-,e⟩:=Jx (Db h) rfl rfl rfl;exact⟨e rfl,List.eq_nil_of_length_eq_zero a,List.eq_nil_of_length_eq_zero b,List.eq_nil_of_length_eq_zero c⟩
theorem Mk (x y:ByteArray):Bl y (Bg x)=decide (x=y):=by
 unfold Bg;rw[Ef];simp[J1,Em,Mj,Dq]
theorem U3 (x y:ByteArray) (u:Ty):Ak y u (Bg x)=if x=y then u else Bg x:=by
 unfold Bg;rw[Cr];by_cases e:x=y
 ·rw[if_pos (by simp[e]),if_pos e]
 ·rw[if_neg (by simp[e]),if_neg e,if_neg (by decide)];rfl
theorem Dx {x y:ByteArray} {t:Ty} (h15:t.k≠15):(Ak x (Bg y) t).k=t.k:=by
 obtain⟨k,s,n,ps,fs,vs⟩:=t;have h15':k≠15:=h15;rw[Cr];by_cases h1:(k == 16 && decide (s=x))=true
 ·rw[if_pos h1];rw[Bool.and_eq_true,beq_iff_eq] at h1;exact h1.1.symm
 ·rw[if_neg h1,if_neg (by simpa using h15')];rfl
theorem Im (x:ByteArray) (u:Ty) (cut:Nat->Bool):∀ (l:List Ty) (j i:Nat),(Cv x u cut j l)[i]?=l[i]?.map fun p=>if cut (j+i)=true then p else Ak x u p
 | [],_,_=>by simp[Cv]
 | p :: l,j,0=>by simp[Cv]
 | p :: l,j,i+1=>by
  rw[Cv,List.getElem?_cons_succ,List.getElem?_cons_succ,Im x u cut l (j+1) i];simp only[Nat.add_assoc,Nat.add_comm 1 i]
theorem Gv {x:ByteArray} {u:Ty} {cut:Nat->Bool}:∀ {l:List Ty} {j:Nat} {z:Ty},z∈Cv x u cut j l->∃ p∈l,z=p\/z=Ak x u p
 | [],_,_,h=>by cases h
 | p :: l,j,z,h=>by
  rw[Cv] at h;rcases List.mem_cons.1 h with h | h
  ·refine⟨p,List.mem_cons_self,?_⟩;by_cases hc:cut j=true
   ·rw[if_pos hc] at h;exact .inl h
   ·rw[if_neg hc] at h;exact .inr h
  ·obtain⟨q,hq,he⟩:=Gv h;exact⟨q,List.mem_cons_of_mem _ hq,he⟩
theorem Jau {k:Int} {t:ByteArray} {n:Int} {ps ps':List Ty} {fo vo:Bool} (h15:k≠15) (h23:k≠23):Bh k t n ps' fo vo=Bh k t n ps fo vo:=by
 unfold Bh;simp only[if_neg h15,if_neg h23]
theorem Me {x:ByteArray} {u:Ty} (hu:Ab u=true) (t:Ty):Ab t=true->Ab (Ak x u t)=true:=by
 refine Ty.ind (C:=fun t=>Ab t=true->Ab (Ak x u t)=true) (fun k t n ps fs vs hp hf hv hfm=>?_) t;rw[Cr];by_cases h1:(k == 16 && decide (t=x))=true
 ·rw[if_pos h1];exact hu
 ·rw[if_neg h1];by_cases h2:(k == 15)=true
  ·rw[if_pos h2];exact Mg fun z hz=>by obtain⟨p,hp2,rfl⟩:=List.mem_map.1 hz;exact hp p hp2 (Ci hfm p hp2)
  ·rw[if_neg h2];have h15:k≠15:=fun e=>h2 (by rw[e];rfl);have h:=hfm;rw[Am,Bool.and_eq_true,Bool.and_eq_true,Bool.and_eq_true] at h ⊢;obtain⟨⟨⟨a,b⟩,c⟩,d⟩:=h;have hz:∀ z∈Cv x u (fun i=>Dq vs x || C5 k t n ps i x) 0 ps,Ab z=true:=fun z hz=>by
    obtain⟨p,hp2,rfl | rfl⟩:=Gv hz
    ·exact Ci hfm _ hp2
    ·exact hp p hp2 (Ci hfm p hp2)
   refine⟨⟨⟨a,?_⟩,?_⟩,List.all_eq_true.2 hz⟩
   ·rw[Ow,List.length_map,List.length_map];exact b
   ·have ef:Bf (fs.map fun f=>(f.1,f.2.1,Ak x u f.2.2)) Ab=Bf fs Ab:=by
     unfold Bf;rw[List.map_map];refine List.map_congr_left fun f hf2=>?_;show (f.1,f.2.1,Ab (Ak x u f.2.2))=_;have h3:=Ek (t:=.mk k t n ps fs vs) hfm f hf2;rw[hf f hf2 h3,h3]
    have ev:C3 (vs.map fun v=>(v.1,v.2.map fun b=>if Dq vs x=true then b else Ak x u b)) Ab=C3 vs Ab:=by
     unfold C3;rw[List.map_map];refine List.map_congr_left fun v hv2=>?_;show (v.1,(v.2.map fun b=>if Dq vs x=true then b else Ak x u b).map Ab)=_;rw[List.map_map];refine congrArg (Prod.mk v.1) (List.map_congr_left fun b hb=>?_);have h3:=Gg hfm v hv2 b hb;show Ab (if Dq vs x=true then b else Ak x u b)=Ab b;by_cases hi:Dq vs x=true
     ·rw[if_pos hi]
     ·rw[if_neg hi,hv v hv2 b hb h3,h3]
    rw[ef,ev];by_cases h23:k=23
    ·subst h23;have e:∀ (l:List Ty) (fo vo:Bool),Bh 23 t n l fo vo=l.all fun p=>p.k == 13:=fun l fo vo=>by unfold Bh;simp
     rw[e] at c ⊢;rw[List.all_eq_true] at c ⊢;intro z hz2;obtain⟨p,hp2,rfl | rfl⟩:=Gv hz2
     ·exact c _ hp2
     ·have h13:p.k=13:=(by have:=c p hp2;simpa using this);obtain⟨k',s',n',ps',fs',vs'⟩:=p;obtain rfl:k'=13:=h13;rw[Cr,if_neg (by simp),if_neg (by decide)];rfl
    ·rw[Jau h15 h23];exact c
theorem sub_self (x:ByteArray) (t:Ty):Ab t=true->Ak x (Bg x) t=t:=by
 refine Ty.ind (C:=fun t=>Ab t=true->Ak x (Bg x) t=t) (fun k t n ps fs vs hp hf hv hfm=>?_) t;rw[Cr];by_cases h1:(k == 16 && decide (t=x))=true
 ·rw[if_pos h1];rw[Bool.and_eq_true,beq_iff_eq,decide_eq_true_eq] at h1;obtain⟨rfl,rfl⟩:=h1;obtain⟨rfl,rfl,rfl,rfl⟩:=Mh hfm;rfl
 ·rw[if_neg h1];have hps:∀ p∈ps,Ak x (Bg x) p=p:=fun p hp2=>hp p hp2 (Ci hfm p hp2);by_cases h2:(k == 15)=true
  ·rw[if_pos h2];rw[beq_iff_eq] at h2;subst h2;rw[List.map_congr_left (g:=id) hps,List.map_id];exact Dd hfm rfl
  ·rw[if_neg h2];have e1:∀ (l:List Ty) (j:Nat) (cut:Nat->Bool),(∀ p∈l,Ak x (Bg x) p=p)->Cv x (Bg x) cut j l=l:=by
    intro l
    induction l with
    | nil=>intro _ _ _;rfl
    | cons a l ih=>
     intro j cut h;rw[Cv,ih (j+1) cut fun p hp=>h p (List.mem_cons_of_mem _ hp),h a List.mem_cons_self];simp
   rw[e1 ps 0 _ hps];have e2:(fs.map fun f=>(f.1,f.2.1,Ak x (Bg x) f.2.2))=fs:=(List.map_congr_left (g:=id) fun f hf2=>by rw[hf f hf2 (Ek (t:=.mk k t n ps fs vs) hfm f hf2)];rfl).trans (List.map_id _);have e3:(vs.map fun v=>(v.1,v.2.map fun b=>if Dq vs x=true then b else Ak x (Bg x) b))=vs:=(List.map_congr_left (g:=id) fun v hv2=>by
    rw[List.map_congr_left (g:=id) fun b hb=>by rw[hv v hv2 b hb (Gg hfm v hv2 b hb)];simp,List.map_id];rfl).trans (List.map_id _)
   rw[e2,e3]
theorem Pm {l:List Ty} {j:Nat} {z:ByteArray}:z∈Bu 15 j l->∃ p∈l,z∈Aw p:=by
 induction l generalizing j with
 | nil=>intro h;cases h
 | cons a l ih=>
  intro h;rw[Bu,if_neg (by simp)] at h;rcases List.mem_append.1 h with h | h
  ·exact⟨a,List.mem_cons_self,h⟩
  ·obtain⟨p,hp,hz⟩:=ih h;exact⟨p,List.mem_cons_of_mem _ hp,hz⟩
theorem Kk {l:List Ty} (hl:∀ p∈l,p.k≠15) {C:Ty->Prop} (h1:C (E7 1)) (hp:∀ p∈l,C p) (h15:∀ L:List Ty,(∀ p∈L,C p)->C (.mk 15 Bk 0 L [] [])):C (Bi l):=by
 have hm:∀ p∈C0 (Cd l),C p:=fun p h=>by
  rw[Cj,By,D7 hl] at h;exact hp p h.1
 unfold Bi;generalize C0 (Cd l)=L at hm
 match L,hm with
 | [],_=>exact h1
 | [a],hm=>exact hm a List.mem_cons_self
 | a :: b :: L,hm=>exact h15 _ hm
theorem Wp {x y:ByteArray} (t:Ty):Ab t=true->∀ z,z∈Aw (Ak x (Bg y) t)->z∈Aw t:=by
 refine Ty.ind (C:=fun t=>Ab t=true->∀ z,z∈Aw (Ak x (Bg y) t)->z∈Aw t) (fun k t n ps fs vs hp hf hv hfm z hz=>?_) t;rw[Cr] at hz;by_cases h1:(k == 16 && decide (t=x))=true
 ·rw[if_pos h1] at hz;unfold Bg at hz;rw[Dh,if_neg (by decide)] at hz;simp[Bu,Cs] at hz
 ·rw[if_neg h1] at hz;by_cases h2:(k == 15)=true
  ·rw[if_pos h2] at hz;rw[beq_iff_eq] at h2;subst h2;have h15:∀ p∈ps,p.k≠15:=by
    intro p hp2;have e:=Dd hfm rfl;have h3:=Fo ps;rw[show Bi ps=_ from e] at h3;have h4:p∈C0 (Cd ps):=(by rw[<-h3];exact hp2);rw[Cj] at h4;exact F5 h4
   have h5:∀ w,w∈Aw (Bi (ps.map (Ak x (Bg y))))->∃ p∈ps,w∈Aw p:=by
    refine Kk (l:=ps.map (Ak x (Bg y))) (C:=fun u=>∀ w,w∈Aw u->∃ p∈ps,w∈Aw p) (fun q hq=>?_) (fun w hw=>?_) (fun q hq w hw=>?_) fun L hL w hw=>?_
    ·obtain⟨p,hp2,rfl⟩:=List.mem_map.1 hq;rw[Dx (h15 p hp2)];exact h15 p hp2
    ·unfold E7 at hw;rw[Dh,if_neg (by decide)] at hw;simp[Bu,Cs] at hw
    ·obtain⟨p,hp2,rfl⟩:=List.mem_map.1 hq;exact⟨p,hp2,hp p hp2 (Ci hfm p hp2) w hw⟩
    ·rw[Dh,if_neg (by decide)] at hw;rcases List.mem_append.1 hw with hw | hw
     ·obtain⟨q,hq,hw⟩:=Pm hw;exact hL q hq w hw
     ·cases hw
   obtain⟨p,hp2,hw⟩:=h5 z hz;rw[Dh,if_neg (by decide)];refine List.mem_append_left _ ?_;have h6:∀ (l:List Ty) (j:Nat),p∈l->z∈Bu 15 j l:=by
    intro l
    induction l with
    | nil=>intro _ h;cases h
    | cons a l ih=>
     intro j h;rw[Bu,if_neg (by simp)];rcases List.mem_cons.1 h with rfl | h
     ·exact List.mem_append_left _ hw
     ·exact List.mem_append_right _ (ih _ h)
   exact h6 ps 0 hp2
  ·rw[if_neg h2] at hz;rw[Dh] at hz ⊢;by_cases h3:k=22
   ·rw[if_pos h3] at hz ⊢;exact hz
   ·rw[if_neg h3] at hz ⊢;have h6:∀ (l:List Ty) (j:Nat) (cut:Nat->Bool),(∀ p∈l,∀ z,z∈Aw (Ak x (Bg y) p)->z∈Aw p)->z∈Bu k j (Cv x (Bg y) cut j l)->z∈Bu k j l:=by
     intro l
     induction l with
     | nil=>intro _ _ _ h;exact h
     | cons a l ih=>
      intro j cut hA h;rw[Cv,Bu] at h;rw[Bu];rcases List.mem_append.1 h with h | h
      ·refine List.mem_append_left _ ?_;by_cases hc:(k == 21 && j == 1)=true
       ·rw[if_pos hc] at h;cases h
       ·rw[if_neg hc] at h ⊢;by_cases hc2:cut j=true
        ·rw[if_pos hc2] at h;exact h
        ·rw[if_neg hc2] at h;exact hA a List.mem_cons_self z h
      ·exact List.mem_append_right _ (ih (j+1) cut (fun p hp=>hA p (List.mem_cons_of_mem _ hp)) h)
    rcases List.mem_append.1 hz with hz | hz
    ·exact List.mem_append_left _ (h6 ps 0 _ (fun p hp2=>hp p hp2 (Ci hfm p hp2)) hz)
    ·refine List.mem_append_right _ ?_;unfold Cs at hz ⊢;rw[List.map_map] at hz;obtain⟨l,hl,hz⟩:=List.mem_flatten.1 hz;obtain⟨f,hf2,rfl⟩:=List.mem_map.1 hl;exact List.mem_flatten.2 ⟨_,List.mem_map_of_mem hf2,hf f hf2 (Ek (t:=.mk k t n ps fs vs) hfm f hf2) z hz⟩
def D6 (ps:List Ty):Ty:=.mk 21 Bk 0 (E7 1 :: ps.drop 1) [] []
def D3 (ps:List Ty) (vs:Bm):Ty:=.mk 12 Bk 0 (ps++(vs.map (·.2)).flatten) [] []
def Lf (x:ByteArray) (ps:List Ty) (i:Nat):Bool:=match ps[i]? with
 | some p=>Bl x p
 | none=>false
def P6 (x:ByteArray) (u:Ty) (k:Int) (t:ByteArray) (n:Int) (ps:List Ty) (vs:Bm):Bool:=
 (Dq vs x || !Bl x (D3 ps vs) || !(vs.any fun v=>Bl v.1 u)) &&
 ((!(k == 20) || decide (t=x) || !Lf x ps 1 || !Bl t u) &&
 ((!(k == 21 && n == 1) || decide (t=x) || !Bl x (D6 ps) || !Bl t u) &&
  (!(k == 21) || Cl (Df ps) x || !Lf x ps 2 || !((Df ps).any fun y=>Bl y u))))
def Dm (x:ByteArray) (u:Ty):Ty->Bool
 | .mk k t n ps fs vs=>P6 x u k t n ps vs && ((vs.attach.all fun ⟨v,_⟩=>v.2.attach.all fun ⟨b,_⟩=>Dm x u b) && ((ps.attach.all fun ⟨p,_⟩=>Dm x u p) && (fs.attach.all fun ⟨f,_⟩=>Dm x u f.2.2)))
termination_by t=>SizeOf.sizeOf t
decreasing_by
 ·exact E5 ‹_› ‹_›
 ·exact Dt ‹_›
 ·exact Ec ‹_›
theorem T8 (x:ByteArray) (u:Ty) (k t n ps fs vs):Dm x u (.mk k t n ps fs vs)=(P6 x u k t n ps vs && ((vs.all fun v=>v.2.all (Dm x u)) && (ps.all (Dm x u) && fs.all fun f=>Dm x u f.2.2))):=by
 rw[Dm];have h1:(ps.attach.all fun p=>Dm x u p.1)=ps.all (Dm x u):=Dz (Dm x u) ps;have h2:(fs.attach.all fun f=>Dm x u f.1.2.2)=fs.all fun f=>Dm x u f.2.2:=Dz (fun f:ByteArray×Int×Ty=>Dm x u f.2.2) fs;have h3:(vs.attach.all fun v=>v.1.2.attach.all fun b=>Dm x u b.1)=vs.all fun v=>v.2.all (Dm x u):=by
  have e:(fun v:{v // v∈vs}=>v.1.2.attach.all fun b=>Dm x u b.1)=fun v:{v // v∈vs}=>v.1.2.all (Dm x u):=by
   funext v;exact Dz (Dm x u) v.1.2
  rw[e];exact Dz (fun v:ByteArray×List Ty=>v.2.all (Dm x u)) vs
 rw[h1,h2,h3]
theorem Xz {x:ByteArray} {u:Ty} {k:Int} {t:ByteArray} {n:Int} {ps:List Ty} {fs:Bp} {vs:Bm} (h:Dm x u (.mk k t n ps fs vs)=true):P6 x u k t n ps vs=true/\(∀ v∈vs,∀ b∈v.2,Dm x u b=true)/\(∀ p∈ps,Dm x u p=true)/\∀ f∈fs,Dm x u f.2.2=true:=by
 rw[T8,Bool.and_eq_true,Bool.and_eq_true,Bool.and_eq_true,List.all_eq_true,List.all_eq_true,List.all_eq_true] at h;exact⟨h.1,fun v hv b hb=>List.all_eq_true.1 (h.2.1 v hv) b hb,h.2.2.1,h.2.2.2⟩
theorem I8 {x:ByteArray} {u:Ty} {k:Int} {t:ByteArray} {n:Int} {ps:List Ty} {fs:Bp} {vs:Bm} (h1:P6 x u k t n ps vs=true) (h2:∀ v∈vs,∀ b∈v.2,Dm x u b=true) (h3:∀ p∈ps,Dm x u p=true) (h4:∀ f∈fs,Dm x u f.2.2=true):Dm x u (.mk k t n ps fs vs)=true:=by
 rw[T8,Bool.and_eq_true,Bool.and_eq_true,Bool.and_eq_true,List.all_eq_true,List.all_eq_true,List.all_eq_true];exact⟨h1,fun v hv=>List.all_eq_true.2 (h2 v hv),h3,h4⟩
theorem I9 {x:ByteArray} {u:Ty} {k:Int} {t:ByteArray} {n:Int} {ps:List Ty} {vs:Bm}
  (h1:Dq vs x=false->Bl x (D3 ps vs)=true->∀ v∈vs,Bl v.1 u=false)
  (h2:k=20->t≠x->Lf x ps 1=true->Bl t u=false)
  (h3:k=21->n=1->t≠x->Bl x (D6 ps)=true->Bl t u=false)
  (h4:k=21->Cl (Df ps) x=false->Lf x ps 2=true->∀ y∈Df ps,Bl y u=false):P6 x u k t n ps vs=true:=by
 unfold P6;rw[Bool.and_eq_true,Bool.and_eq_true,Bool.and_eq_true];refine⟨?_,?_,?_,?_⟩
 ·cases e1:Dq vs x with
  | true=>simp
  | false=>
   cases e2:Bl x (D3 ps vs) with
   | false=>simp
   | true=>
    have:=h1 e1 e2;simp only[Bool.false_or,Bool.not_true,Bool.not_eq_true',List.any_eq_false];intro v hv;rw[this v hv];decide
 ·by_cases e0:k=20
  ·by_cases e1:t=x
   ·simp[e1]
   ·cases e2:Lf x ps 1 with
    | false=>simp
    | true=>simp[h2 e0 e1 e2]
  ·simp[e0]
 ·by_cases e0:k=21
  ·by_cases en:n=1
   ·by_cases e1:t=x
    ·simp[e1]
    ·cases e2:Bl x (D6 ps) with
     | false=>simp
     | true=>simp[h3 e0 en e1 e2]
   ·simp[en]
  ·simp[e0]
 ·by_cases e0:k=21
  ·cases e1:Cl (Df ps) x with
   | true=>simp
   | false=>
    cases e2:Lf x ps 2 with
    | false=>simp
    | true=>
     have:=h4 e0 e1 e2;simp only[Bool.or_false,Bool.not_true,Bool.or_eq_true,Bool.not_eq_true',List.any_eq_false]
     right;intro v hv;rw[this v hv];decide
  ·simp[e0]
theorem X1 {x:ByteArray} {u:Ty} {k:Int} {t:ByteArray} {n:Int} {ps:List Ty} {vs:Bm} (h:P6 x u k t n ps vs=true) :
  (Dq vs x=false->Bl x (D3 ps vs)=true->∀ v∈vs,Bl v.1 u=false) /\
  (k=20->t≠x->Lf x ps 1=true->Bl t u=false) /\
  (k=21->n=1->t≠x->Bl x (D6 ps)=true->Bl t u=false) /\
  (k=21->Cl (Df ps) x=false->Lf x ps 2=true->∀ y∈Df ps,Bl y u=false):=by
 unfold P6 at h;rw[Bool.and_eq_true,Bool.and_eq_true,Bool.and_eq_true] at h;obtain⟨h1,h2,h3,h4⟩:=h;refine⟨fun e1 e2 v hv=>?_,fun e0 e1 e2=>?_,fun e0 en e1 e2=>?_,fun e0 e1 e2 y hy=>?_⟩
 ·rw[e1,e2] at h1;simp only[Bool.false_or,Bool.not_true,Bool.not_eq_true',List.any_eq_false] at h1;exact Bool.eq_false_iff.2 (h1 v hv)
 ·subst e0;simp only[e2,decide_eq_false e1] at h2;simpa using h2
 ·subst e0;subst en;simp only[e2,decide_eq_false e1] at h3;simpa using h3
 ·subst e0;simp only[e1,e2] at h4;simp only[beq_self_eq_true,Bool.not_true,Bool.false_or,Bool.not_eq_true',List.any_eq_false] at h4;exact Bool.eq_false_iff.2 (h4 y hy)
theorem L6 {x:ByteArray} {u:Ty} (t:Ty):(∀ y∈Ee t,Bl y u=true->y=x)->Dm x u t=true:=by
 refine Ty.ind (C:=fun t=>(∀ y∈Ee t,Bl y u=true->y=x)->Dm x u t=true) (fun k t n ps fs vs hp hf hv h=>?_) t;have hn:∀ y,y∈Ee (.mk k t n ps fs vs)->y≠x->Bl y u=false:=fun y hy hne=>Bool.eq_false_iff.2 fun e=>hne (h y hy e);refine I8 (I9 (fun e1 _ v hv2=>hn _ (Sb hv2) fun e=>?_) (fun _ e1 _=>hn _ G6 e1) (fun _ _ e1 _=>hn _ G6 e1) fun _ e1 _ y hy=>hn _ (L5 hy) fun e=>?_) (fun v hv2 b hb=>hv v hv2 b hb fun y hy=>h y (I5 hv2 hb hy)) (fun p hp2=>hp p hp2 fun y hy=>h y (G5 hp2 hy)) fun f hf2=>hf f hf2 fun y hy=>h y (I6 hf2 hy)
 ·rw[Bool.eq_false_iff] at e1;exact e1 (List.any_eq_true.2 ⟨v,hv2,decide_eq_true e⟩)
 ·rw[Bool.eq_false_iff] at e1;exact e1 (Cy.2 (e ▸ hy))
theorem Ez {k:Int} {t:ByteArray} {n:Int} {ps:List Ty} {fs:Bp} {vs:Bm} {p:Ty} {x:ByteArray} (h:p∈ps) (hx:x∈Ge p):x∈Ge (.mk k t n ps fs vs):=by
 rw[Eo];exact List.mem_append_right _ (List.mem_append_right _ (List.mem_append_left _ (List.mem_flatten.2 ⟨_,List.mem_map_of_mem h,hx⟩)))
theorem Mn {k:Int} {t:ByteArray} {n:Int} {ps:List Ty} {fs:Bp} {vs:Bm} {f:ByteArray×Int×Ty} {x:ByteArray} (h:f∈fs) (hx:x∈Ge f.2.2):x∈Ge (.mk k t n ps fs vs):=by
 rw[Eo];exact List.mem_append_right _ (List.mem_append_right _ (List.mem_append_right _ (List.mem_flatten.2 ⟨_,List.mem_map_of_mem h,hx⟩)))
theorem Ey {k:Int} {t:ByteArray} {n:Int} {ps:List Ty} {fs:Bp} {vs:Bm} {v:ByteArray×List Ty} {b:Ty} {x:ByteArray} (h:v∈vs) (hb:b∈v.2) (hx:x∈Ge b):x∈Ge (.mk k t n ps fs vs):=by
 rw[Eo];exact List.mem_append_right _ (List.mem_append_left _ (List.mem_flatten.2 ⟨_,List.mem_map_of_mem h,List.mem_flatten.2 ⟨_,List.mem_map_of_mem hb,hx⟩⟩))
theorem Fh {x:ByteArray} {t:Ty} (h:x ∉ Ge t):Bl x t=false:=Bool.eq_false_iff.2 fun e=>h (Oc x t e)
theorem L7 {x:ByteArray} {u:Ty} (t:Ty):x ∉ Ge t->Dm x u t=true:=by
 refine Ty.ind (C:=fun t=>x ∉ Ge t->Dm x u t=true) (fun k t n ps fs vs hp hf hv h=>?_) t;have hps:∀ p∈ps,Bl x p=false:=fun p hp2=>Fh fun e=>h (Ez hp2 e);have hbs:∀ v∈vs,∀ b∈v.2,Bl x b=false:=fun v hv2 b hb=>Fh fun e=>h (Ey hv2 hb e);have hat:∀ i,Lf x ps i=false:=fun i=>by
  unfold Lf
  cases e:ps[i]? with
  | none=>rfl
  | some p=>exact hps p (List.mem_of_getElem? e)
 have hfun:Bl x (D3 ps vs)=false:=Fh fun e=>by
  unfold D3 at e;rw[Eo,if_neg (by decide)] at e;simp only[List.map_nil,List.flatten_nil,List.nil_append,List.append_nil] at e;obtain⟨l,hl,he⟩:=List.mem_flatten.1 e;obtain⟨p,hp2,rfl⟩:=List.mem_map.1 hl;rcases List.mem_append.1 hp2 with h1 | h1
  ·exact h (Ez h1 he)
  ·obtain⟨m,hm,h1⟩:=List.mem_flatten.1 h1;obtain⟨v,hv2,rfl⟩:=List.mem_map.1 hm;exact h (Ey hv2 h1 he)
 have hbeh:Bl x (D6 ps)=false:=Fh fun e=>by
  unfold D6 at e;rw[Eo,if_neg (by decide)] at e;simp only[List.map_nil,List.flatten_nil,List.nil_append,List.append_nil] at e;obtain⟨l,hl,he⟩:=List.mem_flatten.1 e;obtain⟨p,hp2,rfl⟩:=List.mem_map.1 hl;rcases List.mem_cons.1 hp2 with rfl | h1
  ·unfold E7 at he;rw[Eo,if_neg (by decide)] at he;simp at he
  ·exact h (Ez (List.mem_of_mem_drop h1) he)
 refine I8 (I9 (fun _ e2=>?_) (fun _ _ e2=>?_) (fun _ _ _ e2=>?_) fun _ _ e2=>?_) (fun v hv2 b hb=>hv v hv2 b hb fun e=>h (Ey hv2 hb e)) (fun p hp2=>hp p hp2 fun e=>h (Ez hp2 e)) fun f hf2=>hf f hf2 fun e=>h (Mn hf2 e)
 ·rw[hfun] at e2;cases e2
 ·rw[hat] at e2;cases e2
 ·rw[hbeh] at e2;cases e2
 ·rw[hat] at e2;cases e2
theorem Jbk {x:ByteArray} {u t:Ty} (hu:u.k≠15) (h15:t.k≠15):(Ak x u t).k≠15:=by
 obtain⟨k,s,n,ps,fs,vs⟩:=t;have h15':k≠15:=h15;rw[Cr];by_cases h1:(k == 16 && decide (s=x))=true
 ·rw[if_pos h1];exact hu
 ·rw[if_neg h1,if_neg (by simpa using h15')];exact h15'
theorem Gc {t:ByteArray} {n:Int} {ps:List Ty} {fs:Bp} {vs:Bm} (hfm:Ab (.mk 15 t n ps fs vs)=true):∀ p∈ps,p.k≠15/\p∈Cd ps:=by
 intro p hp2;have e:=Dd hfm rfl;have h3:=Fo ps;rw[show Bi ps=_ from e] at h3;have h4:p∈C0 (Cd ps):=by rw[<-h3];exact hp2
 rw[Cj] at h4;exact⟨F5 h4,h4⟩
theorem Jbq (k:Int):Da (E7 k)=true:=by
 unfold E7;rw[Fv];simp
theorem Je3 {x:ByteArray} {u:Ty} (hu:Da u=true) (hk:u.k≠15) (t:Ty):Ab t=true->Da t=true->Da (Ak x u t)=true:=by
 refine Ty.ind (C:=fun t=>Ab t=true->Da t=true->Da (Ak x u t)=true) (fun k t n ps fs vs hp hf hv hfm hvs=>?_) t;obtain⟨g1,g2,g3,g4⟩:=E6 hvs;rw[Cr];by_cases h1:(k == 16 && decide (t=x))=true
 ·rw[if_pos h1];exact hu
 ·rw[if_neg h1];by_cases h2:(k == 15)=true
  ·rw[if_pos h2];rw[beq_iff_eq] at h2;subst h2;refine Kk (C:=fun t=>Da t=true) (fun q hq=>?_) (Jbq 1) (fun q hq=>?_) fun L hL=>?_
   ·obtain⟨p,hp2,rfl⟩:=List.mem_map.1 hq;exact Jbk hk (Gc hfm p hp2).1
   ·obtain⟨p,hp2,rfl⟩:=List.mem_map.1 hq;exact hp p hp2 (Ci hfm p hp2) (g3 p hp2)
   ·rw[Fv];simpa using hL
  ·rw[if_neg h2,Fv,Bool.and_eq_true,Bool.and_eq_true,Bool.and_eq_true,decide_eq_true_eq,List.all_eq_true,List.all_eq_true,List.all_eq_true];refine⟨by rw[List.length_map];exact g1,fun v hv2=>?_,fun z hz=>?_,fun f hf2=>?_⟩
   ·obtain⟨v,hv3,rfl⟩:=List.mem_map.1 hv2;refine List.all_eq_true.2 fun b hb=>?_;obtain⟨b,hb2,rfl⟩:=List.mem_map.1 hb;show Da (if Dq vs x=true then b else Ak x u b)=true;by_cases hi:Dq vs x=true
    ·rw[if_pos hi];exact g2 v hv3 b hb2
    ·rw[if_neg hi];exact hv v hv3 b hb2 (Gg hfm v hv3 b hb2) (g2 v hv3 b hb2)
   ·obtain⟨p,hp2,rfl | rfl⟩:=Gv hz
    ·exact g3 _ hp2
    ·exact hp p hp2 (Ci hfm p hp2) (g3 p hp2)
   ·obtain⟨f,hf3,rfl⟩:=List.mem_map.1 hf2;exact hf f hf3 (Ek (t:=.mk k t n ps fs vs) hfm f hf3) (g4 f hf3)
theorem Jcv {x y:ByteArray} (t:Ty):Ab t=true->t.k≠15->C6 (Ak x (Bg y) t)=C6 t:=by
 have key:∀ t:Ty,Ab t=true->C6 (Ak x (Bg y) t)=C6 t:=by
  intro t;refine Ty.ind (C:=fun t=>Ab t=true->C6 (Ak x (Bg y) t)=C6 t) (fun k t n ps fs vs hp hf hv hfm=>?_) t;rw[Cr];by_cases h1:(k == 16 && decide (t=x))=true
  ·rw[if_pos h1];rw[Bool.and_eq_true,beq_iff_eq,decide_eq_true_eq] at h1;obtain⟨rfl,rfl⟩:=h1;obtain⟨rfl,rfl,rfl,rfl⟩:=Mh hfm;unfold Bg;rw[F0,F0]
  ·rw[if_neg h1];by_cases h2:(k == 15)=true
   ·rw[if_pos h2];rw[beq_iff_eq] at h2;subst h2
    -- the union of the parts
    have h15:=Gc hfm;have e:=Dd hfm rfl;have e':Bi ps=.mk 15 t n ps fs vs:=e;have hfl:Bb (ps.map (Ak x (Bg y)))=ps.map (Ak x (Bg y)):=D7 fun q hq=>by
     obtain⟨p,hp2,rfl⟩:=List.mem_map.1 hq;rw[Dx (h15 p hp2).1];exact (h15 p hp2).1
    have hfl2:Bb ps=ps:=D7 fun p hp2=>(h15 p hp2).1;have hk:Bs (ps.map (Ak x (Bg y)))=Bs ps:=by
     have h3:∀ k,Ce k (ps.map (Ak x (Bg y)))=Ce k ps:=fun k=>by
      unfold Ce;rw[List.any_map,Bool.eq_iff_iff,List.any_eq_true,List.any_eq_true]
      constructor
      ·rintro⟨p,hp2,hk⟩;refine⟨p,hp2,?_⟩;have hk':((Ak x (Bg y) p).k == k)=true:=hk;rw[Dx (h15 p hp2).1] at hk';exact hk'
      ·rintro⟨p,hp2,hk⟩;refine⟨p,hp2,?_⟩;show ((Ak x (Bg y) p).k == k)=true;rw[Dx (h15 p hp2).1];exact hk
     unfold Bs;rw[h3,h3,h3,h3]
    have hkt:∀ p∈ps,Cx (Bs ps) (Ak x (Bg y) p)=Cx (Bs ps) p:=fun p hp2=>by
     unfold Cx;rw[Dx (h15 p hp2).1,hp p hp2 (Ci hfm p hp2)]
    have hkept:∀ q,q∈Cd (ps.map (Ak x (Bg y)))↔∃ p∈ps,q=Ak x (Bg y) p:=fun q=>by
     rw[By,hfl,hk]
     constructor
     ·rintro⟨h4,-⟩;obtain⟨p,hp2,rfl⟩:=List.mem_map.1 h4;exact⟨p,hp2,rfl⟩
     ·rintro⟨p,hp2,rfl⟩;refine⟨List.mem_map_of_mem hp2,?_⟩;rw[hkt p hp2];have h5:=(By.1 (h15 p hp2).2).2;rw[hfl2] at h5;exact h5
    have hps:∀ (k:Int) (l:List Ty) (j:Nat),k≠21->Ex k j l=l.any C6:=by
     intro k l
     induction l with
     | nil=>intro _ _;rfl
     | cons a l ih=>
      intro j h;rw[Ex,ih (j+1) h,List.any_cons,show (k == 21)=false from beq_eq_false_iff_ne.2 h];rfl
    have hun:∀ L:List Ty,C6 (Fq L)=L.any C6:=by
     intro L
     match L with
     | []=>
      show C6 (E7 1)=false;exact Og (by decide)
     | [a]=>simp[Fq]
     | a :: b :: L=>
      show C6 (.mk 15 Bk 0 (a :: b :: L) [] [])=_;rw[F0,hps 15 _ 0 (by decide)];simp[Gi]
    show C6 (Bi (ps.map (Ak x (Bg y))))=_;rw[<-e',show Bi ps=Fq (C0 (Cd ps)) from rfl,show Bi (ps.map (Ak x (Bg y)))=Fq (C0 (Cd (ps.map (Ak x (Bg y))))) from rfl,hun,hun,Bool.eq_iff_iff,List.any_eq_true,List.any_eq_true]
    constructor
    ·rintro⟨q,hq,hi⟩;rw[Cj] at hq;obtain⟨p,hp2,rfl⟩:=(hkept q).1 hq;rw[hp p hp2 (Ci hfm p hp2)] at hi;exact⟨p,by rw[Cj];exact (h15 p hp2).2,hi⟩
    ·rintro⟨q,hq,hi⟩;rw[Cj,By,hfl2] at hq;refine⟨Ak x (Bg y) q,by rw[Cj];exact (hkept _).2 ⟨q,hq.1,rfl⟩,?_⟩;rw[hp q hq.1 (Ci hfm q hq.1)];exact hi
   ·rw[if_neg h2,F0,F0];have e1:∀ (l:List Ty) (j:Nat) (cut:Nat->Bool),(∀ p∈l,C6 (Ak x (Bg y) p)=C6 p)->Ex k j (Cv x (Bg y) cut j l)=Ex k j l:=by
     intro l
     induction l with
     | nil=>intro _ _ _;rfl
     | cons a l ih=>
      intro j cut h;rw[Cv,Ex,Ex,ih (j+1) cut fun p hp=>h p (List.mem_cons_of_mem _ hp)];have h4:=h a List.mem_cons_self;by_cases hc:cut j=true
      ·rw[if_pos hc]
      ·rw[if_neg hc,h4]
    rw[e1 ps 0 _ fun p hp2=>hp p hp2 (Ci hfm p hp2)];have e2:Gi (fs.map fun f=>(f.1,f.2.1,Ak x (Bg y) f.2.2))=Gi fs:=by
     unfold Gi;rw[List.any_map,Bool.eq_iff_iff,List.any_eq_true,List.any_eq_true]
     constructor
     ·rintro⟨f,hf2,h⟩;have h':C6 (Ak x (Bg y) f.2.2)=true:=h;rw[hf f hf2 (Ek (t:=.mk k t n ps fs vs) hfm f hf2)] at h';exact⟨f,hf2,h'⟩
     ·rintro⟨f,hf2,h⟩;refine⟨f,hf2,?_⟩;show C6 (Ak x (Bg y) f.2.2)=true;rw[hf f hf2 (Ek (t:=.mk k t n ps fs vs) hfm f hf2)];exact h
    rw[e2]
 exact fun h _=>key t h
theorem Rh {x y:ByteArray} {t:ByteArray} {n:Int} {ps:List Ty} {fs:Bp} {vs:Bm} (hfm:Ab (.mk 15 t n ps fs vs)=true) (q:Ty):q∈Cd (ps.map (Ak x (Bg y)))↔∃ p∈ps,q=Ak x (Bg y) p:=by
 have h15:=Gc hfm;have hfl:Bb (ps.map (Ak x (Bg y)))=ps.map (Ak x (Bg y)):=D7 fun q hq=>by
  obtain⟨p,hp2,rfl⟩:=List.mem_map.1 hq;rw[Dx (h15 p hp2).1];exact (h15 p hp2).1
 have hfl2:Bb ps=ps:=D7 fun p hp2=>(h15 p hp2).1;have hk:Bs (ps.map (Ak x (Bg y)))=Bs ps:=by
  have h3:∀ k,Ce k (ps.map (Ak x (Bg y)))=Ce k ps:=fun k=>by
   unfold Ce;rw[List.any_map,Bool.eq_iff_iff,List.any_eq_true,List.any_eq_true]
   constructor
   ·rintro⟨p,hp2,hk⟩;refine⟨p,hp2,?_⟩;have hk':((Ak x (Bg y) p).k == k)=true:=hk;rw[Dx (h15 p hp2).1] at hk';exact hk'
   ·rintro⟨p,hp2,hk⟩;refine⟨p,hp2,?_⟩;show ((Ak x (Bg y) p).k == k)=true;rw[Dx (h15 p hp2).1];exact hk
  unfold Bs;rw[h3,h3,h3,h3]
 rw[By,hfl,hk]
 constructor
 ·rintro⟨h4,-⟩;obtain⟨p,hp2,rfl⟩:=List.mem_map.1 h4;exact⟨p,hp2,rfl⟩
 ·rintro⟨p,hp2,rfl⟩;refine⟨List.mem_map_of_mem hp2,?_⟩;have h5:=(By.1 (h15 p hp2).2).2;rw[hfl2] at h5;unfold Cx at h5 ⊢;rw[Dx (h15 p hp2).1,Jcv p (Ci hfm p hp2) (h15 p hp2).1];exact h5
end Go.Proofs.YtlpfpehegddcfaaGreatDoor

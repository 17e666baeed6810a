import Derived.Test.YtlpfpehegddcfaaGreatDoorMv22
import Derived.Defers
import Derived.Maps.Range
import Derived.Sort.KeysCollected
namespace Go.Proofs.YtlpfpehegddcfaaGreatDoor
set_option maxRecDepth 100000
set_option maxHeartbeats 64000000
open Go.RowKit
theorem ListS.but {O:Nat->Prop} {w w':World} {l:List ByteArray} {A:Option Addr} (h:ListS w l A) (hb:ButG O w w') (hA:∀ b o,A=some ⟨b,o,none⟩->¬ O b):ListS w' l A:=by
 obtain⟨b,o,h1,h2,h3⟩:=h;exact⟨b,o,h1,h2,fun i hi=>hb.cell (hA b o (h1 (by omega))) (h3 i hi)⟩
def cI (l:List ByteArray) (x:ByteArray):Nat:=l.countP fun y=>decide (y=x)
theorem Jb3 (l:List ByteArray) (y x:ByteArray):cI (l++[y]) x=cI l x+(if y=x then 1 else 0):=by
 unfold cI;rw[List.countP_append,List.countP_cons,List.countP_nil];by_cases h:y=x <;> simp[h]
theorem Jb1 (l:List ByteArray) (y x:ByteArray):cI (y :: l) x=cI l x+(if y=x then 1 else 0):=by
 unfold cI;rw[List.countP_cons];by_cases h:y=x <;> simp[h]
theorem Je8 (l:List ByteArray) (x:ByteArray):decide (cI l x=0) = !Cl l x:=by
 unfold cI Cl
 induction l with
 | nil=>rfl
 | cons a l ih=>
  rw[List.countP_cons,List.any_cons];by_cases h:a=x
  ·simp[h]
  ·simp only[h,decide_false,Bool.false_or,Bool.false_eq_true,if_false,Nat.add_zero];exact ih
theorem T6 (l:List ByteArray) (x:ByteArray):cI l x<=l.length:=List.countP_le_length
structure SeS (U:List ByteArray) (w:World) (g mb mf:Nat) (c:ByteArray->Nat) (S:ByteArray->Bool):Prop where
 box:w.heap[g]?=some (.cells #[.map (some mb),.map (some mf)] 188 (0,0))
 bnd:∃ F n,MapIs Jec w mb n F/\n<=(U.filter fun x=>(F x).isSome).length/\∀ x,(F x).getD 0=(c x:Int)
 fre:∃ F n,MapIs G1 w mf n F/\n<=(U.filter fun x=>(F x).isSome).length/\∀ x,(F x).isSome=S x
 ne:mb≠mf/\g≠mb/\g≠mf
theorem SeS.same {U:List ByteArray} {w:World} {g mb mf:Nat} {c c':ByteArray->Nat} {S S':ByteArray->Bool} (h:SeS U w g mb mf c S) (hc:∀ x,c x=c' x) (hS:∀ x,S x=S' x):SeS U w g mb mf c' S':=by
 rw[<-funext hc,<-funext hS];exact h
theorem SeS.later {U:List ByteArray} {w w':World} {g mb mf:Nat} {c:ByteArray->Nat} {S:ByteArray->Bool} (h:SeS U w g mb mf c S) (hb:Below w.heap.size w w'):SeS U w' g mb mf c S:=by
 obtain⟨h1,⟨F,n,h2,h3⟩,⟨F',n',h4,h5⟩,h6⟩:=h;exact⟨(hb.block g (Array.getElem?_eq_some_iff.1 h1).1).trans h1,⟨F,n,h2.later hb,h3⟩,⟨F',n',h4.later hb,h5⟩,h6⟩
theorem SeS.but {O:Nat->Prop} {U:List ByteArray} {w w':World} {g mb mf:Nat} {c:ByteArray->Nat} {S:ByteArray->Bool} (h:SeS U w g mb mf c S) (hb:ButG O w w') (hO:¬ O g/\¬ O mb/\¬ O mf):SeS U w' g mb mf c S:=by
 obtain⟨h1,⟨F,n,h2,h3⟩,⟨F',n',h4,h5⟩,h6⟩:=h;exact⟨hb.up hO.1 h1,⟨F,n,h2.keep (hb.block mb h2.lt hO.2.1),h3⟩,⟨F',n',h4.keep (hb.block mf h4.lt hO.2.2),h5⟩,h6⟩
theorem SeS.lt {U:List ByteArray} {w:World} {g mb mf:Nat} {c:ByteArray->Nat} {S:ByteArray->Bool} (h:SeS U w g mb mf c S):g<w.heap.size/\mb<w.heap.size/\mf<w.heap.size:=by
 obtain⟨h1,⟨F,n,h2,h3⟩,⟨F',n',h4,h5⟩,h6⟩:=h;exact⟨(Array.getElem?_eq_some_iff.1 h1).1,h2.lt,h4.lt⟩
theorem SeS.cell {U:List ByteArray} {w:World} {g mb mf:Nat} {c:ByteArray->Nat} {S:ByteArray->Bool} (h:SeS U w g mb mf c S):w.cell? ⟨g,0,none⟩=some (.map (some mb))/\w.cell? ⟨g,1,none⟩=some (.map (some mf)):=
 ⟨by rw[Ch h.box];rfl,by rw[Ch h.box];rfl⟩
theorem SeS.look {U:List ByteArray} {w:World} {g mb mf:Nat} {c:ByteArray->Nat} {S:ByteArray->Bool} (h:SeS U w g mb mf c S) (s:ByteArray) (hs:s.size<=maxLen):(Instr.lookup 185 (.map (some mb)) (.string s) false).run Tryz.prog w=.ok (.int .i64 (c s:Int)) w:=by
 obtain⟨F,n,h2,h3,h4⟩:=h.bnd;have h5:(Instr.lookup 185 (.map (some mb)) (.string s) false).run Tryz.prog w=.ok (.int .i64 ((F s).getD 0)) w:=h2.look1 s hs;rw[h4] at h5;exact h5
theorem Hw {α:Type} {p q:α->Bool} (hpq:∀ x,p x=true->q x=true):∀ (l:List α),(l.filter p).length<=(l.filter q).length
 | []=>Nat.le_refl _
 | a :: l=>by
  have ih:=Hw hpq l;rw[List.filter_cons,List.filter_cons];by_cases h:p a=true
  ·rw[if_pos h,if_pos (hpq a h)];simpa using ih
  ·rw[if_neg h];by_cases h2:q a=true
   ·rw[if_pos h2,List.length_cons];omega
   ·rw[if_neg h2];exact ih
theorem Mc {α:Type} {p q:α->Bool} (hpq:∀ x,p x=true->q x=true):∀ (l:List α) (a:α),a∈l->p a=false->q a=true->(l.filter p).length+1<=(l.filter q).length
 | b :: l,a,h,h1,h2=>by
  rw[List.filter_cons,List.filter_cons];rcases List.mem_cons.1 h with rfl | h
  ·rw[if_neg (by simp[h1]),if_pos h2,List.length_cons];have:=Hw hpq l;omega
  ·have ih:=Mc hpq l a h h1 h2;by_cases h3:p b=true
   ·rw[if_pos h3,if_pos (hpq b h3),List.length_cons,List.length_cons];omega
   ·rw[if_neg h3];by_cases h4:q b=true
    ·rw[if_pos h4,List.length_cons];omega
    ·rw[if_neg h4];exact ih
theorem MapIs.putU {α:Type} {M:MK Tryz.prog α} {U:List ByteArray} {W:World} {b n:Nat} {F:ByteArray->Option α} (h:MapIs M W b n F) (hn:n<=(U.filter fun x=>(F x).isSome).length) (hU:U.length<maxLen) (s:ByteArray) (hsU:s∈U) (hs:s.size<=maxLen) (a:α) :
  ∃ w' n',(Instr.mapUpdate M.T (.map (some b)) (.string s) (M.val a)).run Tryz.prog W=.ok () w'/\MapIs M w' b n' (Ho F s a)/\n'<=(U.filter fun x=>(Ho F s a x).isSome).length/\W.grownBy w' (some b):=by
 have hlen:=List.length_filter_le (fun x=>(F x).isSome) U;have hmono:∀ x,(F x).isSome=true->(Ho F s a x).isSome=true:=fun x hx=>by
  unfold Ho;by_cases e:s=x
  ·rw[if_pos e];rfl
  ·rw[if_neg e];exact hx
 by_cases hp:(F s).isSome=true
 ·obtain⟨w',h1,h2,h3⟩:=h.putH (by omega) s hs a hp;exact⟨w',n,h1,h2,Nat.le_trans hn (Hw hmono U),h3⟩
 ·obtain⟨w',h1,h2,h3⟩:=h.putL (by omega) s hs a;refine⟨w',n+1,h1,h2,Nat.le_trans (Nat.add_le_add_right hn 1) (Mc hmono U s hsU (by simpa using hp) ?_),h3⟩;unfold Ho;rw[if_pos rfl];rfl
theorem Ie {w w':World} {b:Nat} (h:w.grownBy w' (some b)):ButG (fun x=>x=b) w w':=
 (ButG.refl (fun x=>x=b) w).grown h fun k hk=>.inl (by injection hk with hk;exact hk.symm)
theorem SeS.put {U:List ByteArray} {w:World} {g mb mf:Nat} {c:ByteArray->Nat} {S:ByteArray->Bool} (h:SeS U w g mb mf c S) (hU:U.length<maxLen) (s:ByteArray) (hsU:s∈U) (hs:s.size<=maxLen) (v:Nat) :
  ∃ w',(Instr.mapUpdate 185 (.map (some mb)) (.string s) (.int .i64 (v:Int))).run Tryz.prog w=.ok () w'/\SeS U w' g mb mf (fun x=>if s=x then v else c x) S/\ButG (fun x=>x=mb) w w':=by
 obtain⟨h1,⟨F,n,h2,h3,h4⟩,⟨F',n',h5,h6,h7⟩,h8⟩:=h;obtain⟨w',n2,hr,hm,hn,hg⟩:=h2.putU h3 hU s hsU hs (v:Int);have hb:=Ie hg;refine⟨w',hr,⟨hb.up h8.2.1 h1,⟨_,n2,hm,hn,fun x=>?_⟩,⟨F',n',h5.keep (hb.block mf h5.lt (fun e=>h8.1 e.symm)),h6,h7⟩,h8⟩,hb⟩;unfold Ho;by_cases e:s=x
 ·rw[if_pos e,if_pos e];rfl
 ·rw[if_neg e,if_neg e];exact h4 x
theorem SeS.add {U:List ByteArray} {w:World} {g mb mf:Nat} {c:ByteArray->Nat} {S:ByteArray->Bool} (h:SeS U w g mb mf c S) (hU:U.length<maxLen) (s:ByteArray) (hsU:s∈U) (hs:s.size<=maxLen) :
  ∃ w',(Instr.mapUpdate 186 (.map (some mf)) (.string s) (.agg #[])).run Tryz.prog w=.ok () w'/\SeS U w' g mb mf c (fun x=>decide (s=x) || S x)/\ButG (fun x=>x=mf) w w':=by
 obtain⟨h1,⟨F,n,h2,h3,h4⟩,⟨F',n',h5,h6,h7⟩,h8⟩:=h;obtain⟨w',n2,hr,hm,hn,hg⟩:=h5.putU h6 hU s hsU hs ();have hb:=Ie hg;refine⟨w',hr,⟨hb.up h8.2.2 h1,⟨F,n,h2.keep (hb.block mb h2.lt h8.1),h3,h4⟩,⟨_,n2,hm,hn,fun x=>?_⟩,h8⟩,hb⟩;unfold Ho;by_cases e:s=x
 ·rw[if_pos e];simp[e]
 ·rw[if_neg e,h7];simp[e]
def Iq (U:List ByteArray) (g mb mf:Nat) (w:World) (c:ByteArray->Nat) (S:ByteArray->Bool) (f:ByteArray->Bool):Ending->World->Prop:=fun e w'=>e=.returned (.tuple #[])/\SeS U w' g mb mf c (fun x=>S x || (decide (c x=0) && f x))/\ButG (fun x=>x=mb\/x=mf) w w'
def Lz (t:Ty):Prop:=∀ (K:Nat->Prop) (U:List ByteArray) (g mb mf:Nat) (w:World) (bp op:Nat) (c:ByteArray->Nat) (S:ByteArray->Bool),AtT K w t bp op->bp≠mb/\bp≠mf->(∀ x,K x->x<w.heap.size/\x≠mb/\x≠mf)->SeS U w g mb mf c S->(∀ x∈Ee t,x∈U)->U.length<maxLen->(∀ x,c x+Ai t*1000000000000002<=9000000000000000000)->Ab t=true->Da t=true->Calls Tryz.prog 153 #[.pointer (some ⟨g,0,none⟩),.pointer (some ⟨bp,op,none⟩)] w (Iq U g mb mf w c S fun x=>Bl x t)
theorem Ls {α:Type} {f g:α->Nat}:∀ {l:List α},(∀ a∈l,f a<=g a)->(l.map f).sum<=(l.map g).sum
 | [],_=>Nat.le_refl _
 | a :: l,h=>by
  rw[List.map_cons,List.map_cons,List.sum_cons,List.sum_cons];exact Nat.add_le_add (h a List.mem_cons_self) (Ls fun b hb=>h b (List.mem_cons_of_mem _ hb))
theorem Jt {f:Ty->Ty} {l:List Ty} (h:∀ p∈l,Ai (f p)<=Ai p):An (l.map f)<=An l:=by
 unfold An;rw[List.map_map];exact Ls h
theorem N1 {x:ByteArray} {u:Ty} {cut:Nat->Bool}:∀ {l:List Ty} {j:Nat},(∀ p∈l,Ai (Ak x u p)<=Ai p)->An (Cv x u cut j l)<=An l
 | [],_,_=>Nat.le_refl _
 | p :: l,j,h=>by
  rw[Cv,B6,B6];refine Nat.add_le_add ?_ (N1 fun q hq=>h q (List.mem_cons_of_mem _ hq));by_cases hc:cut j=true
  ·rw[if_pos hc];exact Nat.le_refl _
  ·rw[if_neg hc];exact h p List.mem_cons_self
theorem T9 {x:ByteArray} {u:Ty} (hu:Ai u=1) (t:Ty):Ai (Ak x u t)<=Ai t:=by
 refine Ty.ind (C:=fun t=>Ai (Ak x u t)<=Ai t) (fun k t n ps fs vs hp hf hv=>?_) t;rw[Cr,Br k t n ps fs vs];by_cases h1:(k == 16 && decide (t=x))=true
 ·rw[if_pos h1,hu];omega
 ·rw[if_neg h1];by_cases h2:(k == 15)=true
  ·rw[if_pos h2];have h3:=Vo (ps.map (Ak x u));have h4:An (ps.map (Ak x u))<=An ps:=Jt hp;omega
  ·rw[if_neg h2,Br];have h3:An (Cv x u (fun i=>Dq vs x || C5 k t n ps i x) 0 ps)<=An ps:=N1 hp;have h4:Bd (fs.map fun f=>(f.1,f.2.1,Ak x u f.2.2))<=Bd fs:=by
    unfold Bd;rw[List.map_map];exact Ls hf
   have h5:Be (vs.map fun v=>(v.1,v.2.map fun b=>if Dq vs x=true then b else Ak x u b))<=Be vs:=by
    unfold Be;rw[List.map_map];refine Ls fun v hv2=>Jt fun b hb=>?_;by_cases h6:Dq vs x=true
    ·rw[if_pos h6];exact Nat.le_refl _
    ·rw[if_neg h6];exact hv v hv2 b hb
   omega
theorem Q9 {x:ByteArray} {t:ByteArray} {n:Int} {ps:List Ty} {fs:Bp} (h:Bl x (.mk 15 t n ps fs [])=false):∀ p∈ps,Bl x p=false:=by
 rw[Ef,Bool.or_eq_false_iff] at h;have h2:=h.2;simp only[Dq,List.any_nil,Bool.not_false,Bool.true_and,Bool.or_eq_false_iff] at h2;have h3:∀ (l:List Ty) (j:Nat),Em x (fun i=>C5 15 t n ps i x) j l=false->∀ p∈l,Bl x p=false:=by
  intro l
  induction l with
  | nil=>intro j _ p h;cases h
  | cons a l ih=>
   intro j h p hp2;rw[Em,Bool.or_eq_false_iff] at h;rcases List.mem_cons.1 hp2 with rfl | hp2
   ·have h4:=h.1;simpa [C5] using h4
   ·exact ih (j+1) h.2 p hp2
 exact h3 ps 0 h2.2.1
theorem Ik {x:ByteArray} {u:Ty} {cut:Nat->Bool} (h:∀ i,cut i=false):∀ {l:List Ty} {j:Nat},Cv x u cut j l=l.map (Ak x u)
 | [],_=>rfl
 | p :: l,j=>by rw[Cv,if_neg (by rw[h j];decide),Ik h,List.map_cons]
theorem Hv {x s:ByteArray} {k n:Int} {ps:List Ty} (h20:k≠20) (h21:k≠21) (i:Nat):C5 k s n ps i x=false:=by
 unfold C5;rw[show (k == 20)=false from beq_eq_false_iff_ne.2 h20,show (k == 21)=false from beq_eq_false_iff_ne.2 h21];rfl
theorem Xb {x:ByteArray} {u:Ty} {k n:Int} {s:ByteArray} {ps:List Ty} (h15:k≠15) (h20:k≠20) (h21:k≠21) (hno:x=s->k≠16):Ak x u (.mk k s n ps [] [])=.mk k s n (ps.map (Ak x u)) [] []:=by
 have h1:¬ (k == 16 && decide (s=x))=true:=fun h=>by
  rw[Bool.and_eq_true,beq_iff_eq,decide_eq_true_eq] at h;exact hno h.2.symm h.1
 rw[Cr,if_neg h1,if_neg (by rw[show (k == 15)=false from beq_eq_false_iff_ne.2 h15];decide),Ik fun i=>by rw[Hv h20 h21];rfl];rfl
theorem Zr {x:ByteArray} {k n:Int} {s:ByteArray} {ps:List Ty} (h20:k≠20) (h21:k≠21) (h:Bl x (.mk k s n ps [] [])=false):∀ p∈ps,Bl x p=false:=by
 rw[Ef,Bool.or_eq_false_iff] at h;have h2:=h.2;simp only[Dq,List.any_nil,Bool.not_false,Bool.true_and,Bool.or_eq_false_iff] at h2;have h3:∀ (l:List Ty) (j:Nat),Em x (fun i=>C5 k s n ps i x) j l=false->∀ p∈l,Bl x p=false:=by
  intro l
  induction l with
  | nil=>intro j _ p h;cases h
  | cons a l ih=>
   intro j h p hp2;rw[Em,Bool.or_eq_false_iff] at h;rcases List.mem_cons.1 hp2 with rfl | hp2
   ·have h4:=h.1;rw[Hv h20 h21] at h4;simpa using h4
   ·exact ih (j+1) h.2 p hp2
 exact h3 ps 0 h2.2.1
theorem Hz {w:World} {g y:Nat} {v0 v1 v2 v3 v4 v5:Value} {p:Addr} (h:p.block≠g\/p.off<y\/y+6<=p.off):(Ei w g y v0 v1 v2 v3 v4 v5).cell? p=w.cell? p:=by
 have hne:∀ i,i<6->(⟨g,y+i,none⟩:Addr)≠p:=fun i hi e=>by
  subst e;rcases h with h | h | h
  ·exact h rfl
  ·have h:y+i<y:=h;omega
  ·have h:y+6<=y+i:=h;omega
 unfold Ei;rw[World.cell?_setCell_other _ _ _ _ (hne 5 (by omega)),World.cell?_setCell_other _ _ _ _ (hne 4 (by omega)),World.cell?_setCell_other _ _ _ _ (hne 3 (by omega)),World.cell?_setCell_other _ _ _ _ (hne 2 (by omega)),World.cell?_setCell_other _ _ _ _ (hne 1 (by omega)),World.cell?_setCell_other _ _ _ _ (show (⟨g,y,none⟩:Addr)≠p from hne 0 (by omega))]
theorem E3 {O:Nat->Prop} {a w:World} {g y:Nat} {v0 v1 v2 v3 v4 v5:Value} (h:ButG O a w) (hg:O g\/a.heap.size<=g):ButG O a (Ei w g y v0 v1 v2 v3 v4 v5):=
 (((((h.set (p:=⟨g,y,none⟩) hg v0).set (p:=⟨g,y+1,none⟩) hg v1).set (p:=⟨g,y+2,none⟩) hg v2).set (p:=⟨g,y+3,none⟩) hg v3).set (p:=⟨g,y+4,none⟩) hg v4).set (p:=⟨g,y+5,none⟩) hg v5
theorem Jm {P:Nat->Prop} {w:World} {g y:Nat} {v0 v1 v2 v3 v4 v5:Value} {t:Ty} {cs:List Value} (hP:∀ x,P x->x≠g) (hr:RepT P w t cs):RepT P (Ei w g y v0 v1 v2 v3 v4 v5) t cs:=
 RepT.keep (fun _ h=>h) (fun b o v hk hc=>by rw[Hz (.inl (hP b hk))];exact hc) t cs hr
structure PlT (P:Nat->Prop) (w:World) (g:Nat) (l:List Ty):Prop where
 lt:g<w.heap.size
 cell:∀ y,y<l.length*6->∃ v,w.cell? ⟨g,y,none⟩=some v
 free:∀ y,w.frozen? ⟨g,y,none⟩=false
 reps:∀ i (h:i<l.length),∃ cs,RepT P w l[i] cs/\∀ j u,cs[j]?=some u->w.cell? ⟨g,i*6+j,none⟩=some u
theorem PlT.weak {P P':Nat->Prop} {w:World} {g:Nat} {l:List Ty} (h:PlT P w g l) (hp:∀ x,P x->P' x):PlT P' w g l:=
 ⟨h.lt,h.cell,h.free,fun i hi=>by obtain⟨cs,h1,h2⟩:=h.reps i hi;exact⟨cs,h1.weak hp,h2⟩⟩
theorem Hf {w w':World} {g y:Nat} (h:w'.heap[g]?=w.heap[g]?) (h0:w.frozen? ⟨g,y,none⟩=false):w'.frozen? ⟨g,y,none⟩=false:=by
 unfold World.frozen? at h0 ⊢;simp only at h0 ⊢;rw[h];exact h0
theorem PlT.but {P O:Nat->Prop} {w w':World} {g:Nat} {l:List Ty} (h:PlT P w g l) (hb:ButG O w w') (hg:¬ O g) (hp:∀ x,P x->¬ O x):PlT P w' g l:=
 ⟨Nat.lt_of_lt_of_le h.lt hb.size,fun y hy=>by obtain⟨v,hv⟩:=h.cell y hy;exact⟨v,hb.cell hg hv⟩,fun y=>Hf (hb.block g h.lt hg) (h.free y),
  fun i hi=>by obtain⟨cs,h1,h2⟩:=h.reps i hi;exact⟨cs,h1.but hb fun x hx=>⟨hp x hx,hx⟩,fun j u hj=>hb.cell hg (h2 j u hj)⟩⟩
theorem PlT.set {P:Nat->Prop} {w:World} {g i:Nat} {l:List Ty} {t:Ty} {v0 v1 v2 v3 v4 v5:Value} (h:PlT P w g l) (hP:∀ x,P x->x≠g) (hi:i<l.length) (ht:RepT P w t [v0,v1,v2,v3,v4,v5]):PlT P (Ei w g (i*6) v0 v1 v2 v3 v4 v5) g (l.set i t):=by
 refine⟨by rw[Ka];exact h.lt,fun y hy=>?_,fun y=>?_,fun k hk=>?_⟩
 ·rw[List.length_set] at hy;exact Bn (Bn (Bn (Bn (Bn (Bn (h.cell y hy))))))
 ·simp only[Ei,World.frozen?_setCell];exact h.free y
 ·rw[List.length_set] at hk;by_cases e:i=k
  ·subst e;refine⟨_,by rw[List.getElem_set_self];exact Jm hP ht,fun j u hj=>Ps (fun x hx=>h.cell _ (by omega)) j u hj⟩
  ·obtain⟨cs,h1,h2⟩:=h.reps k hk;have h6:=h1.six;refine⟨cs,by rw[List.getElem_set_ne e];exact Jm hP h1,fun j u hj=>?_⟩;have hj6:=(List.getElem?_eq_some_iff.1 hj).1;rw[Hz (.inr (by show k*6+j<i*6\/i*6+6<=k*6+j;omega))];exact h2 j u hj
theorem PlT.list {P:Nat->Prop} {w:World} {g c:Nat} {l:List Ty} (h:PlT P w g l) (hc:l.length<=c) (hl:l.length<=1000000000000000):ListT (fun x=>P x\/x=g) w l (some ⟨g,0,none⟩) c:=
 ⟨g,0,⟨hc,hl,(fun h=>by cases h),fun _=>⟨rfl,.inr rfl⟩⟩,fun i hi=>by
  obtain⟨cs,h1,h2⟩:=h.reps i hi;exact⟨cs,fun j u hj=>by rw[Nat.zero_add];exact h2 j u hj,h1.weak fun b hb=>.inl hb⟩⟩
theorem P9 {K:Nat->Prop} {w:World} {l:List Ty} {b o c:Nat} (hL:∀ i (h:i<l.length),AtT K w l[i] b (o+i*6)) (hn:l.length<=1000000) :
  Calls Tryz.prog 66 #[.slice (some ⟨b,o,none⟩) l.length c] w fun e w'=>∃ g c',e=.returned (.slice (some ⟨g,0,none⟩) l.length c')/\w.heap.size<=g/\l.length<=c'/\PlT K w' g l/\Below w.heap.size w w':=by
 obtain⟨news,h1,h2,h3,h4⟩:=Kf hL;refine (L8 ⟨b,o,none⟩ l.length c news w hn h1 h3 fun j u hj=>?_).mono ?_
 ·have e2:((⟨b,o,none⟩:Addr).add j)=⟨b,o+j,none⟩:=by unfold Addr.add;by_cases h0:j=0 <;> simp[h0]
  rw[e2];exact h2 j u hj
 ·rintro e w' ⟨g,c',rfl,hg,hgl,hc,hown,hb⟩;refine⟨g,c',rfl,hg,hc,?_,hb⟩;rcases hown.2 with ⟨hv,hz⟩ | ⟨g',cap,cur,hv,hB,hh,hle,hmax,hsz,htk⟩
  ·cases hv
  ·injection hv with hv _ _
   injection hv with hv
   injection hv with hv
   subst hv;have hcell:∀ y u,news[y]?=some u->w'.cell? ⟨g,y,none⟩=some u:=fun y u hy=>by
    rw[<-htk,List.getElem?_take] at hy
    split at hy
    ·rw[Ch hh];simpa using hy
    ·cases hy
   refine⟨hgl,fun y hy=>?_,fun y=>Lib.frozen_of_heap hh y,fun i hi=>?_⟩
   ·have hy2:y<news.length:=(by omega);exact⟨news[y],hcell y _ (List.getElem?_eq_getElem hy2)⟩
   ·obtain⟨cs,h5,h6⟩:=h4 i hi;exact⟨cs,h5.later hb,fun j u hj=>hcell _ u (h6 j u hj)⟩
theorem U0 {k:Int} (h:k≠14):(Ae k).f=false:=by
 unfold Ae
 repeat' split
 all_goals first | rfl | (exfalso;omega)
theorem Lq {k:Int} (h:k≠13):(Ae k).v=false:=by
 unfold Ae
 repeat' split
 all_goals first | rfl | (exfalso;omega)
theorem Jcm (k:Int) (t:ByteArray) (n:Int) (ps:List Ty) (fs:Bp) (vs:Bm) (hp:∀ p∈ps,Ad p) (hf:∀ f∈fs,Ad f.2.2) (hv:∀ v∈vs,∀ b∈v.2,Ad b) (h14:k≠14) (hnf:0<fs.length):Ad (.mk k t n ps fs vs):=by
 refine At k t n ps fs vs hp hf hv fun K w A c A' c' A'' c'' w1 h=>?_;obtain⟨HXC,KAll,KPl,KNm,KOb,KBi,KOv,HREP,HCN,HBZ,HB,HS1,HX0,HW1,hlp,hlf,hlv⟩:=h;clear hp hf hv;have HVal:Hid (Ab (.mk k t n ps fs vs)=false):=Hd (by
  rw[Am];unfold Aj;rw[U0 h14];have h0:decide (0<fs.length)=true:=decide_eq_true hnf;simp[h0])
 have g1:(k == 14)=false:=by simpa using h14
 have f1:decide ((0:Int)<(fs.length:Int))=true:=decide_eq_true (by omega);have f2:decide (0<fs.length)=true:=decide_eq_true (by omega);clear hnf;go_enter Tryz.func38,Tryz.ntmps38;go_upto_region 1 with fail
 rw[<-HW1.out];obtain⟨x0,x1,x2,x3,x4,x5⟩:=HXC.out _ HB.out;go_wp2_with fail;go_ret
 exact⟨by rw[HVal.out];rfl,HBZ.out.trans (HB.out.mono HBZ.out.size)⟩
theorem Jco (k:Int) (t:ByteArray) (n:Int) (ps:List Ty) (fs:Bp) (vs:Bm) (hp:∀ p∈ps,Ad p) (hf:∀ f∈fs,Ad f.2.2) (hv:∀ v∈vs,∀ b∈v.2,Ad b) (h14:k≠14) (hnf:fs.length=0) (h13:k≠13) (hnv:0<vs.length):Ad (.mk k t n ps fs vs):=by
 refine At k t n ps fs vs hp hf hv fun K w A c A' c' A'' c'' w1 h=>?_;obtain⟨HXC,KAll,KPl,KNm,KOb,KBi,KOv,HREP,HCN,HBZ,HB,HS1,HX0,HW1,hlp,hlf,hlv⟩:=h;clear hp hf hv;have HVal:Hid (Ab (.mk k t n ps fs vs)=false):=Hd (by
  rw[Am];unfold Aj;rw[Lq h13];have h0:decide (0<vs.length)=true:=decide_eq_true hnv;simp[h0])
 have g1:(k == 14)=false:=by simpa using h14
 have f1:decide ((0:Int)<(fs.length:Int))=false:=decide_eq_false (by omega);have f2:decide (0<fs.length)=false:=decide_eq_false (by omega);have g2:(k == 13)=false:=by simpa using h13
 have f3:decide ((0:Int)<(vs.length:Int))=true:=decide_eq_true (by omega);have f4:decide (0<vs.length)=true:=decide_eq_true (by omega);clear hnf hnv;go_enter Tryz.func38,Tryz.ntmps38;go_upto_region 1 with fail
 rw[<-HW1.out];obtain⟨x0,x1,x2,x3,x4,x5⟩:=HXC.out _ HB.out;go_wp2_with fail;go_ret
 exact⟨by rw[HVal.out];rfl,HBZ.out.trans (HB.out.mono HBZ.out.size)⟩
theorem Wd (t:ByteArray) (n:Int) (ps:List Ty) (fs:Bp) (vs:Bm) (hp:∀ p∈ps,Ad p) (hf:∀ f∈fs,Ad f.2.2) (hv:∀ v∈vs,∀ b∈v.2,Ad b) (hnv:0<vs.length):Ad (.mk 14 t n ps fs vs):=by
 refine At 14 t n ps fs vs hp hf hv fun K w A c A' c' A'' c'' w1 h=>?_;obtain⟨HXC,KAll,KPl,KNm,KOb,KBi,KOv,HREP,HCN,HBZ,HB,HS1,HX0,HW1,hlp,hlf,hlv⟩:=h;clear hp hf hv;have HVal:Hid (Ab (.mk 14 t n ps fs vs)=false):=Hd (by
  have h13:(14:Int)≠13:=by decide
  rw[Am];unfold Aj;rw[Lq h13];have h0:decide (0<vs.length)=true:=decide_eq_true hnv;simp[h0])
 have f3:decide ((0:Int)<(vs.length:Int))=true:=decide_eq_true (by omega);have f4:decide (0<vs.length)=true:=decide_eq_true (by omega);clear hnv;go_enter Tryz.func38,Tryz.ntmps38;go_upto_region 1 with fail
 rw[<-HW1.out];obtain⟨x0,x1,x2,x3,x4,x5⟩:=HXC.out _ HB.out;go_wp2_with fail;go_ret
 exact⟨by rw[HVal.out];rfl,HBZ.out.trans (HB.out.mono HBZ.out.size)⟩
theorem Jcp (k:Int) (t:ByteArray) (n:Int) (ps:List Ty) (fs:Bp) (vs:Bm) (hp:∀ p∈ps,Ad p) (hf:∀ f∈fs,Ad f.2.2) (hv:∀ v∈vs,∀ b∈v.2,Ad b) (h14:k≠14) (hnf:fs.length=0) (h13:k≠13) (hnv:vs.length=0) (hpa:ps.all Ab=false):Ad (.mk k t n ps fs vs):=by
 refine At k t n ps fs vs hp hf hv fun K w A c A' c' A'' c'' w1 h=>?_;obtain⟨HXC,KAll,KPl,KNm,KOb,KBi,KOv,HREP,HCN,HBZ,HB,HS1,HX0,HW1,hlp,hlf,hlv⟩:=h;clear hp hf hv;have HVal:Hid (Ab (.mk k t n ps fs vs)=false):=Hd (by
  rw[Am,hpa,Bool.and_false])
 have g1:(k == 14)=false:=by simpa using h14
 have f1:decide ((0:Int)<(fs.length:Int))=false:=decide_eq_false (by omega);have f2:decide (0<fs.length)=false:=decide_eq_false (by omega);have g2:(k == 13)=false:=by simpa using h13
 have f3:decide ((0:Int)<(vs.length:Int))=false:=decide_eq_false (by omega);have f4:decide (0<vs.length)=false:=decide_eq_false (by omega);rw[hpa] at KAll;clear hnf hnv hpa;go_enter Tryz.func38,Tryz.ntmps38;go_upto_region 1 with fail
 rw[<-HW1.out];obtain⟨x0,x1,x2,x3,x4,x5⟩:=HXC.out _ HB.out;go_wp2_with fail;refine (KAll.out _ HB.out).mono ?_;rintro e w2 ⟨rfl,hb⟩;have HB1:=Hd (HB.out.trans (hb.mono HB.out.size));clear hb;clear x0 x1 x2 x3 x4 x5;obtain⟨x0,x1,x2,x3,x4,x5⟩:=HXC.out _ HB1.out;go_wp2_with fail;go_ret
 exact⟨by rw[HVal.out];rfl,HBZ.out.trans (HB1.out.mono HBZ.out.size)⟩
theorem Wf (t:ByteArray) (n:Int) (ps:List Ty) (fs:Bp) (vs:Bm) (hp:∀ p∈ps,Ad p) (hf:∀ f∈fs,Ad f.2.2) (hv:∀ v∈vs,∀ b∈v.2,Ad b) (hnv:vs.length=0) (hpa:ps.all Ab=false):Ad (.mk 14 t n ps fs vs):=by
 refine At 14 t n ps fs vs hp hf hv fun K w A c A' c' A'' c'' w1 h=>?_;obtain⟨HXC,KAll,KPl,KNm,KOb,KBi,KOv,HREP,HCN,HBZ,HB,HS1,HX0,HW1,hlp,hlf,hlv⟩:=h;clear hp hf hv;have HVal:Hid (Ab (.mk 14 t n ps fs vs)=false):=Hd (by
  rw[Am,hpa,Bool.and_false])
 have f3:decide ((0:Int)<(vs.length:Int))=false:=decide_eq_false (by omega);have f4:decide (0<vs.length)=false:=decide_eq_false (by omega);rw[hpa] at KAll;clear hnv hpa;go_enter Tryz.func38,Tryz.ntmps38;go_upto_region 1 with fail
 rw[<-HW1.out];obtain⟨x0,x1,x2,x3,x4,x5⟩:=HXC.out _ HB.out;go_wp2_with fail;refine (KAll.out _ HB.out).mono ?_;rintro e w2 ⟨rfl,hb⟩;have HB1:=Hd (HB.out.trans (hb.mono HB.out.size));clear hb;clear x0 x1 x2 x3 x4 x5;obtain⟨x0,x1,x2,x3,x4,x5⟩:=HXC.out _ HB1.out;go_wp2_with fail;go_ret
 exact⟨by rw[HVal.out];rfl,HBZ.out.trans (HB1.out.mono HBZ.out.size)⟩
theorem We (t:ByteArray) (n:Int) (ps:List Ty) (fs:Bp) (vs:Bm) (hp:∀ p∈ps,Ad p) (hf:∀ f∈fs,Ad f.2.2) (hv:∀ v∈vs,∀ b∈v.2,Ad b) (hnf:fs.length=0) (hpa:ps.all Ab=false):Ad (.mk 13 t n ps fs vs):=by
 refine At 13 t n ps fs vs hp hf hv fun K w A c A' c' A'' c'' w1 h=>?_;obtain⟨HXC,KAll,KPl,KNm,KOb,KBi,KOv,HREP,HCN,HBZ,HB,HS1,HX0,HW1,hlp,hlf,hlv⟩:=h;clear hp hf hv;have HVal:Hid (Ab (.mk 13 t n ps fs vs)=false):=Hd (by
  rw[Am,hpa,Bool.and_false])
 have f1:decide ((0:Int)<(fs.length:Int))=false:=decide_eq_false (by omega);have f2:decide (0<fs.length)=false:=decide_eq_false (by omega);rw[hpa] at KAll;clear hnf hpa;go_enter Tryz.func38,Tryz.ntmps38;go_upto_region 1 with fail
 rw[<-HW1.out];obtain⟨x0,x1,x2,x3,x4,x5⟩:=HXC.out _ HB.out;go_wp2_with fail;refine (KAll.out _ HB.out).mono ?_;rintro e w2 ⟨rfl,hb⟩;have HB1:=Hd (HB.out.trans (hb.mono HB.out.size));clear hb;clear x0 x1 x2 x3 x4 x5;obtain⟨x0,x1,x2,x3,x4,x5⟩:=HXC.out _ HB1.out;go_wp2_with fail;go_ret
 exact⟨by rw[HVal.out];rfl,HBZ.out.trans (HB1.out.mono HBZ.out.size)⟩
theorem Jcn (k:Int) (t:ByteArray) (n:Int) (ps:List Ty) (fs:Bp) (vs:Bm) (hp:∀ p∈ps,Ad p) (hf:∀ f∈fs,Ad f.2.2) (hv:∀ v∈vs,∀ b∈v.2,Ad b) (h1:k≠1) (h2:k≠2) (h3:k≠3) (h4:k≠4) (h5:k≠5) (h6:k≠6) (h7:k≠7) (h8:k≠8) (h9:k≠9) (h10:k≠10) (h11:k≠11) (h12:k≠12) (h13:k≠13) (h14:k≠14) (h15:k≠15) (h16:k≠16) (h17:k≠17) (h18:k≠18) (h19:k≠19) (h20:k≠20) (h21:k≠21) (h22:k≠22) (h23:k≠23) (hnf:fs.length=0) (hnv:vs.length=0) (hpa:ps.all Ab=true):Ad (.mk k t n ps fs vs):=by
 refine At k t n ps fs vs hp hf hv fun K w A c A' c' A'' c'' w1 h=>?_;obtain⟨HXC,KAll,KPl,KNm,KOb,KBi,KOv,HREP,HCN,HBZ,HB,HS1,HX0,HW1,hlp,hlf,hlv⟩:=h;clear hp hf hv;have HVal:Hid (Ab (.mk k t n ps fs vs)=false):=Hd (by
  rw[Am];have hs:(Ae k).known=false:=by
   unfold Ae;rw[if_neg (by omega),if_neg (by omega),if_neg (by omega),if_neg (by omega),if_neg (by omega),if_neg (by omega),if_neg (by omega),if_neg (by omega),if_neg (by omega),if_neg (by omega),if_neg (by omega),if_neg (by omega)]
  rw[hs];simp)
 have g1:(k == 1)=false:=by simpa using h1
 have g2:(k == 2)=false:=by simpa using h2
 have g3:(k == 3)=false:=by simpa using h3
 have g4:(k == 4)=false:=by simpa using h4
 have g5:(k == 5)=false:=by simpa using h5
 have g6:(k == 6)=false:=by simpa using h6
 have g7:(k == 7)=false:=by simpa using h7
 have g8:(k == 8)=false:=by simpa using h8
 have g9:(k == 9)=false:=by simpa using h9
 have g10:(k == 10)=false:=by simpa using h10
 have g11:(k == 11)=false:=by simpa using h11
 have g12:(k == 12)=false:=by simpa using h12
 have g13:(k == 13)=false:=by simpa using h13
 have g14:(k == 14)=false:=by simpa using h14
 have g15:(k == 15)=false:=by simpa using h15
 have g16:(k == 16)=false:=by simpa using h16
 have g17:(k == 17)=false:=by simpa using h17
 have g18:(k == 18)=false:=by simpa using h18
 have g19:(k == 19)=false:=by simpa using h19
 have g20:(k == 20)=false:=by simpa using h20
 have g21:(k == 21)=false:=by simpa using h21
 have g22:(k == 22)=false:=by simpa using h22
 have g23:(k == 23)=false:=by simpa using h23
 obtain⟨f1,f2,f3,f4⟩:=Fw (m:=fs.length) (n:=vs.length) (by omega) (by omega);rw[hpa] at KAll;clear hnf hnv hpa;go_enter Tryz.func38,Tryz.ntmps38;go_upto_region 1 with fail
 rw[<-HW1.out];obtain⟨x0,x1,x2,x3,x4,x5⟩:=HXC.out _ HB.out;go_wp2_with fail;refine (KAll.out _ HB.out).mono ?_;rintro e w2 ⟨rfl,hb⟩;have HB1:=Hd (HB.out.trans (hb.mono HB.out.size));clear hb;clear x0 x1 x2 x3 x4 x5;obtain⟨x0,x1,x2,x3,x4,x5⟩:=HXC.out _ HB1.out;go_wp2_with fail;go_ret
 exact⟨by rw[HVal.out];rfl,HBZ.out.trans (HB1.out.mono HBZ.out.size)⟩
end Go.Proofs.YtlpfpehegddcfaaGreatDoor

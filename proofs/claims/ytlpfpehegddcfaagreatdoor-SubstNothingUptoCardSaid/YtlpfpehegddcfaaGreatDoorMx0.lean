import Derived.ArgAppend
import Derived.Below
import Derived.BigQuiet
import Derived.Deep.CutBlock
import Derived.Deep.Draws
import Derived.Deep.Light
import Derived.Deep.QuietTactic
import Derived.Deep.RegionHeld3
import Derived.Deep.Slices
import Derived.Handy
import Derived.IntWalk
import Derived.KernelRfl
import Derived.Lib.Hide
import Derived.Lib.SliceRun
import Derived.LoopTactic
import Derived.MapKept
import Derived.Maps.AppendAt
import Derived.Maps.OwnSet
import Derived.OpenShut
import Derived.OrdersHeld
import Derived.Outline
import Derived.OwnWalk
import Derived.ProofKit
import Derived.Shelf.SlIter.Nil
import Derived.Shelf.SlSortCmp.NoneTotal
import Derived.Shelf.SlSortCmp.WholeK
import Derived.Shelf.Slices.CompactS
import Derived.Shelf.Sort.Plain
import Derived.Shelf.SortM.Plain
import Derived.Shelf.SortM.SortNone
import Derived.SizedLaws
import Derived.Sort.Grow
import Derived.Sort.Walk0
import Derived.StringKeys
import Derived.Test.YtlpfpehegddcfaaGreatDoorProg
import Derived.WalkKit
import Derived.WalkLawsBesides
import Derived.WalkSmall
import Derived.WalkSpells
namespace Go.Proofs.YtlpfpehegddcfaaGreatDoor
structure Z9 (p:Prop):Prop where
 o:p
theorem Z9.out {p:Prop}(h:Z9 p):p:=h.o
theorem Hd {p:Prop}(h:p):Z9 p:=⟨h⟩
abbrev Z8:=ByteArray
set_option maxRecDepth 100000
set_option maxHeartbeats 64000000
open Go
theorem Ch {w:World}{b:Nat}{cs:Array Value}{T:TypeId}{f:Nat×Nat}(h:w.heap[b]?=some (.cells cs T f)) (i:Nat):w.cell? ⟨b,i,none⟩=cs[i]?:=Lib.cell_of_heap h i
def Ab (_:List Nat) (G:Prop):Prop:=G
theorem Ab.s {G:Prop}(plan:List Nat) (h:Ab plan G):G:=h
theorem Ab.d {G:Prop}(h:G):Ab [] G:=h
theorem Ab.t {P:Program}{md:Region.Mode}{ops:Array Oper}{Q:Exit->Act->World->Prop}{S:World->Prop}{plan:List Nat}{i:Nat}{oi:Oper}{v:Value}{fuel:Nat}{listed:Array Bool}{a:Act}{w:World}(hi:ops[i]?=some oi)
    (hs:Region.noSelect ops=true) (hf:Region.free md ops listed i=true) (hr:(Region.ready md ops listed).contains i=true)
    (hQ:∀c a w,Q (.panic c) (a.put oi.dst v) w->Q (.panic c) a w) (hy:YieldsIf P ops S oi v a) (hS:S w)
    (h:Ab plan (wpAnyH P md ops Q S fuel (listed.setIfInBounds i true) (a.put oi.dst v) w)):Ab (i :: plan) (wpAnyH P md ops Q S (fuel+1) listed a w):=
  wpAnyH_take hi hs hf hr hQ hy hS h
theorem Bd {α:Type}{l:List α}{i:Nat}{a:α}:l.toArray.setIfInBounds i a=(l.set i a).toArray:=List.setIfInBounds_toArray _ _ _
theorem Be {α:Type}{x a:α}{l:List α}:(x :: l).set 0 a=a :: l:=List.set_cons_zero
theorem Bf {α:Type}{x a:α}{l:List α}{i:Nat}:(x :: l).set (i+1) a=x :: l.set i a:=List.set_cons_succ
theorem Ab.k {P:Program}{md:Region.Mode}{ops:Array Oper}{Q:Exit->Act->World->Prop}{S:World->Prop}{plan:List Nat}{i:Nat}{oi:Oper}{v:Value}{fuel:Nat}{listed:Array Bool}{a:Act}{w:World}(hi:ops[i]?=some oi)
    (hS:S w) (h:Ab plan (wpAnyH P md ops Q S fuel (listed.setIfInBounds i true) (a.put oi.dst v) w))
    (hs:Region.noSelect ops=true:=by kernel_rfl) (hf:Region.free md ops listed i=true:=by kernel_rfl) (hr:(Region.ready md ops listed).contains i=true:=by kernel_rfl)
    (hQ:∀c a w,Q (.panic c) (a.put oi.dst v) w->Q (.panic c) a w:=by intro _ _ _ h;exact h) (hy:YieldsIf P ops S oi v a:=by refine Or.inl ⟨by rfl,?_⟩;(intro w' hA;(try dsimp only at hA);go_simp;try with_reducible rfl)) :
    Ab (i :: plan) (wpAnyH P md ops Q S (fuel+1) listed a w):=wpAnyH_take hi hs hf hr hQ hy hS h
theorem so {x:Option Oper}{d o t p f g}(h:x=some { dst:=d,op:=o,type:=t,pos:=p,after:=f,guard:=g }):x=some { dst:=d,op:=o,type:=t,pos:=p,after:=f,guard:=g }:=h
theorem sd {x:Option Oper}(d) {o t p f g}(h:x=some { dst:=d,op:=o,type:=t,pos:=p,after:=f,guard:=g }):x=some { dst:=d,op:=o,type:=t,pos:=p,after:=f,guard:=g }:=h
theorem D4 {W:World}{b:Nat}{T:TypeId}{x0 x1 x2 x3 x4 x5:Value}(h:W.heap[b]?=some (.cells #[x0,x1,x2,x3,x4,x5] T (0,0))):W.cell? ⟨b,0,none⟩=some x0/\W.cell? ⟨b,1,none⟩=some x1/\W.cell? ⟨b,2,none⟩=some x2/\W.cell? ⟨b,3,none⟩=some x3/\W.cell? ⟨b,4,none⟩=some x4/\W.cell? ⟨b,5,none⟩=some x5:=⟨Lib.cell_of_heap h 0,Lib.cell_of_heap h 1,Lib.cell_of_heap h 2,Lib.cell_of_heap h 3,Lib.cell_of_heap h 4,Lib.cell_of_heap h 5⟩
theorem cz8 {W:World}{b:Nat}{T:TypeId}{x0 x1 x2 x3 x4 x5 x6 x7:Value}(h:W.heap[b]?=some (.cells #[x0,x1,x2,x3,x4,x5,x6,x7] T (0,0))):W.cell? ⟨b,0,none⟩=some x0/\W.cell? ⟨b,1,none⟩=some x1/\W.cell? ⟨b,2,none⟩=some x2/\W.cell? ⟨b,3,none⟩=some x3/\W.cell? ⟨b,4,none⟩=some x4/\W.cell? ⟨b,5,none⟩=some x5/\W.cell? ⟨b,6,none⟩=some x6/\W.cell? ⟨b,7,none⟩=some x7:=⟨Lib.cell_of_heap h 0,Lib.cell_of_heap h 1,Lib.cell_of_heap h 2,Lib.cell_of_heap h 3,Lib.cell_of_heap h 4,Lib.cell_of_heap h 5,Lib.cell_of_heap h 6,Lib.cell_of_heap h 7⟩
theorem Je {W:World}{b:Nat}{T:TypeId}{x0 x1 x2 x3 x4 x5:Value}(h:W.heap[b]?=some (.cells #[x0,x1,x2,x3,x4,x5] T (0,0))):W.cell? ⟨b,0,none⟩=some x0/\W.cell? ⟨b,1,none⟩=some x1/\W.cell? ⟨b,2,none⟩=some x2/\W.cell? ⟨b,3,none⟩=some x3/\W.cell? ⟨b,4,none⟩=some x4/\W.cell? ⟨b,5,none⟩=some x5/\W.frozen? ⟨b,0,none⟩=false/\W.frozen? ⟨b,1,none⟩=false/\W.frozen? ⟨b,2,none⟩=false/\W.frozen? ⟨b,3,none⟩=false/\W.frozen? ⟨b,4,none⟩=false/\W.frozen? ⟨b,5,none⟩=false:=⟨Lib.cell_of_heap h 0,Lib.cell_of_heap h 1,Lib.cell_of_heap h 2,Lib.cell_of_heap h 3,Lib.cell_of_heap h 4,Lib.cell_of_heap h 5,Lib.frozen_of_heap h 0,Lib.frozen_of_heap h 1,Lib.frozen_of_heap h 2,Lib.frozen_of_heap h 3,Lib.frozen_of_heap h 4,Lib.frozen_of_heap h 5⟩
theorem F7 {m n:Nat}(h:¬ 0<m) (h':¬ 0<n):decide ((0:Int)<(m:Int))=false/\decide (0<m)=false/\decide ((0:Int)<(n:Int))=false/\decide (0<n)=false:=
  ⟨decide_eq_false (by omega),decide_eq_false h,decide_eq_false (by omega),decide_eq_false h'⟩
inductive Ty where
 | mk (k:Int) (t:Z8) (n:Int) (ps:List Ty) (fs:List (Z8×Int×Ty)) (vs:List (Z8×List Ty))
abbrev Bx:=List (Z8×Int×Ty)
abbrev Bt:=List (Z8×List Ty)
def Ty.k:Ty->Int|.mk k _ _ _ _ _=>k
def Ty.ps:Ty->List Ty|.mk _ _ _ ps _ _=>ps
def Ty.fs:Ty->List (Z8×Int×Ty)|.mk _ _ _ _ fs _=>fs
theorem D2 {k t n ps fs vs}{p:Ty}(h:p∈ps):SizeOf.sizeOf p<SizeOf.sizeOf (Ty.mk k t n ps fs vs):=by
 have:=List.sizeOf_lt_of_mem h;simp;omega
theorem Ei {k t n ps fs vs}{f:Z8×Int×Ty}(h:f∈fs):SizeOf.sizeOf f.2.2<SizeOf.sizeOf (Ty.mk k t n ps fs vs):=by
 have:=List.sizeOf_lt_of_mem h;obtain⟨a,b,c⟩:=f;simp at this ⊢;omega
theorem E2 {k t n ps fs vs}{v:Z8×List Ty}{b:Ty}(h:v∈vs) (h2:b∈v.2):SizeOf.sizeOf b<SizeOf.sizeOf (Ty.mk k t n ps fs vs):=by
 have h1:=List.sizeOf_lt_of_mem h;have h3:=List.sizeOf_lt_of_mem h2;obtain⟨a,c⟩:=v;simp at h1 h3 ⊢;omega
theorem Ty.ind {C:Ty->Prop}(step:∀k t n ps fs vs,(∀p∈ps,C p)->(∀f∈fs,C f.2.2)->(∀v∈vs,∀b∈v.2,C b)->C (.mk k t n ps fs vs)) (t:Ty):C t:=by
 have key:∀s (t:Ty),SizeOf.sizeOf t=s->C t:=by
  intro s
  induction s using Nat.strongRecOn with
  | _ s ih=>
   intro t hs;obtain⟨k,t,n,ps,fs,vs⟩:=t;exact step k t n ps fs vs (fun p hp=>ih _ (hs ▸ D2 hp) p rfl) (fun f hf=>ih _ (hs ▸ Ei hf) _ rfl) (fun v hv b hb=>ih _ (hs ▸ E2 hv hb) b rfl)
 exact key _ t rfl
inductive Dy where
 | i (n:Int)
 | s (b:Z8)
def Dv (a b:Z8):Int:=if a.data.toList<b.data.toList then -1 else if b.data.toList<a.data.toList then 1 else 0
def Dp (a b:Int):Int:=if a<b then -1 else if b<a then 1 else 0
def D8:Dy->Dy->Int
 | .i a,.i b=>Dp a b
 | .s a,.s b=>Dv a b
 | .i _,.s _ => -1
 | .s _,.i _=>1
theorem Nf {a b:List UInt8}(h1:¬ a<b) (h2:¬ b<a):a=b:=List.le_antisymm (List.not_lt.1 h2) (List.not_lt.1 h1)
theorem E7 {a b:Z8}(h:a.data.toList=b.data.toList):a=b:=by
 cases a;cases b
 simp only[ByteArray.mk.injEq];exact Array.ext' h
theorem Nz {a b:Z8}(h:Dv a b=0):a=b:=by
 unfold Dv at h
 split at h
 ·cases h
 ·split at h
  ·cases h
  ·rename_i h1 h2;exact E7 (Nf h1 h2)
theorem Vo (a:Z8):Dv a a=0:=by
 unfold Dv;rw[if_neg (List.lt_irrefl _),if_neg (List.lt_irrefl _)]
theorem Im {a b:Int}(h:Dp a b=0):a=b:=by
 unfold Dp at h
 split at h
 ·cases h
 ·split at h
  ·cases h
  ·omega
theorem Il (a:Int):Dp a a=0:=by unfold Dp;simp
theorem Vq (a b:Int):Dp b a = - Dp a b:=by
 unfold Dp
 split <;> split <;> first|omega|rfl|(split <;> omega)|skip
theorem Ny (a b:Z8):Dv b a = - Dv a b:=by
 unfold Dv;by_cases h1:a.data.toList<b.data.toList
 ·rw[if_pos h1,if_neg (fun h=>List.lt_irrefl _ (List.lt_trans h h1))];simp[h1]
 ·rw[if_neg h1];by_cases h2:b.data.toList<a.data.toList
  ·rw[if_pos h2,if_neg h1,if_pos h2]
  ·rw[if_neg h2,if_neg h1,if_neg h2];rfl
theorem Qk:∀a b,D8 b a = - D8 a b
 | .i a,.i b=>Vq a b
 | .s a,.s b=>Ny a b
 | .i _,.s _=>rfl
 | .s _,.i _=>rfl
theorem F0:∀ {a b},D8 a b=0->a=b
 | .i _,.i _,h=>by rw[Im h]
 | .s _,.s _,h=>by rw[Nz h]
 | .i _,.s _,h=>by cases h
 | .s _,.i _,h=>by cases h
theorem Kv:∀a,D8 a a=0
 | .i a=>Il a
 | .s a=>Vo a
theorem Jbh (a b:Int):Dp a b = -1\/Dp a b=0\/Dp a b=1:=by
 unfold Dp
 split
 ·exact .inl rfl
 ·split
  ·exact .inr (.inr rfl)
  ·exact .inr (.inl rfl)
theorem Jbg (a b:Z8):Dv a b = -1\/Dv a b=0\/Dv a b=1:=by
 unfold Dv
 split
 ·exact .inl rfl
 ·split
  ·exact .inr (.inr rfl)
  ·exact .inr (.inl rfl)
theorem Vp:∀a b,D8 a b = -1\/D8 a b=0\/D8 a b=1
 | .i a,.i b=>Jbh a b
 | .s a,.s b=>Jbg a b
 | .i _,.s _=>.inl rfl
 | .s _,.i _=>.inr (.inr rfl)
theorem Pj {a b:Int}:Dp a b = -1↔a<b:=by
 unfold Dp
 split
 ·simp_all
 ·split <;> simp_all
theorem Ik {a b:Z8}:Dv a b = -1↔a.data.toList<b.data.toList:=by
 unfold Dv
 split
 ·simp_all
 ·split <;> simp_all
theorem Pi:∀ {a b c},D8 a b = -1->D8 b c = -1->D8 a c = -1
 | .i _,.i _,.i _,h1,h2=>Pj.2 (by have:=Pj.1 h1;have:=Pj.1 h2;omega)
 | .s _,.s _,.s _,h1,h2=>Ik.2 (List.lt_trans (Ik.1 h1) (Ik.1 h2))
 | .i _,_,.s _,_,_=>rfl
 | .i _,.s _,.i _,_,h2=>by cases h2
 | .s _,.i _,_,h1,_=>by cases h1
 | .s _,.s _,.i _,_,h2=>by cases h2
def Ca:List Dy->List Dy->Int
 | [],[]=>0
 | [],_ :: _ => -1
 | _ :: _,[]=>1
 | a :: x,b :: y=>if D8 a b≠0 then D8 a b else Ca x y
theorem Ot:∀x,Ca x x=0
 | []=>rfl
 | a :: x=>by rw[Ca,Kv,if_neg (by simp),Ot x]
theorem Ou:∀ {x y},Ca x y=0->x=y
 | [],[],_=>rfl
 | [],_ :: _,h=>by cases h
 | _ :: _,[],h=>by cases h
 | a :: x,b :: y,h=>by
  rw[Ca]at h
  split at h
  ·rename_i h1;exact absurd h h1
  ·rename_i h1;rw[F0 (Classical.byContradiction h1),Ou h]
theorem Oq:∀x y,Ca y x = - Ca x y
 | [],[]=>rfl
 | [],_ :: _=>rfl
 | _ :: _,[]=>rfl
 | a :: x,b :: y=>by
  rw[Ca,Ca,Qk a b,Oq x y];by_cases h:D8 a b=0
  ·rw[h];simp
  ·rw[if_pos (by omega),if_pos h]
theorem Uz:∀x y,Ca x y = -1\/Ca x y=0\/Ca x y=1
 | [],[]=>.inr (.inl rfl)
 | [],_ :: _=>.inl rfl
 | _ :: _,[]=>.inr (.inr rfl)
 | a :: x,b :: y=>by
  rw[Ca]
  split
  ·exact Vp a b
  ·exact Uz x y
theorem Ms:∀ {x y z},Ca x y = -1->Ca y z = -1->Ca x z = -1
 | [],_,_ :: _,_,_=>rfl
 | [],[],[],h,_=>by cases h
 | [],_ :: _,[],_,h=>by cases h
 | _ :: _,[],_,h,_=>by cases h
 | _ :: _,_ :: _,[],_,h=>by cases h
 | a :: x,b :: y,c :: z,h1,h2=>by
  rw[Ca]at h1 h2 ⊢;by_cases e1:D8 a b=0
  ·rw[if_neg (by simpa using e1)]at h1;have:=F0 e1;subst this;by_cases e2:D8 a c=0
   ·rw[if_neg (by simpa using e2)]at h2 ⊢;exact Ms h1 h2
   ·rw[if_pos e2]at h2 ⊢;exact h2
  ·rw[if_pos e1]at h1;by_cases e2:D8 b c=0
   ·have:=F0 e2;subst this;rw[if_pos e1];exact h1
   ·rw[if_pos e2]at h2;have:=Pi h1 h2;rw[if_pos (by rw[this];decide)];exact this
def Bo (x y:List Dy) (c:Int):Prop:=∀r s,Ca (x++r) (y++s)=if c≠0 then c else Ca r s
theorem Bo.nil:Bo [] [] 0:=fun r s=>by simp
theorem Bo.tok (a b:Dy):Bo [a] [b] (D8 a b):=fun r s=>by simp[Ca]
theorem Bo.app {x y x' y':List Dy}{c c':Int}(h:Bo x y c) (h':Bo x' y' c'):Bo (x++x') (y++y') (if c≠0 then c else c'):=fun r s=>by
 rw[List.append_assoc,List.append_assoc,h,h'];by_cases e:c=0
 ·simp[e]
 ·simp[e]
theorem Bo.first {x y x' y':List Dy}{c:Int}(h:Bo x y c) (hc:c≠0):Bo (x++x') (y++y') c:=fun r s=>by
 rw[List.append_assoc,List.append_assoc,h,if_pos hc,if_pos hc]
theorem Bo.val {x y:List Dy}{c:Int}(h:Bo x y c):Ca x y=c:=by
 have:=h [] [];rw[List.append_nil,List.append_nil]at this;rw[this];by_cases e:c=0
 ·simp[e,Ca]
 ·simp[e]
theorem Bo.to {x y:List Dy}{c c':Int}(h:Bo x y c) (e:c=c'):Bo x y c':=e ▸ h
def flat:Ty->List Dy
 | .mk k t n ps fs vs=>[.i k,.s t,.i n]++((.i ps.length :: (ps.attach.map fun ⟨p,_⟩=>flat p).flatten)++((.i fs.length :: (fs.attach.map fun ⟨f,_⟩=>[.s f.1,.i f.2.1]++flat f.2.2).flatten)++(.i vs.length :: (vs.attach.map fun ⟨v,_⟩=>.s v.1 :: .i v.2.length :: (v.2.attach.map fun ⟨b,_⟩=>flat b).flatten).flatten)))
termination_by t=>SizeOf.sizeOf t
decreasing_by
 ·exact D2 ‹_›
 ·exact Ei ‹_›
 ·exact E2 ‹_› ‹_›
def Bw (l:List Ty):List Dy:=.i l.length :: (l.map flat).flatten
def Ee (l:List (Z8×Int×Ty)):List Dy:=.i l.length :: (l.map fun f=>[.s f.1,.i f.2.1]++flat f.2.2).flatten
def Ef (l:List (Z8×List Ty)):List Dy:=.i l.length :: (l.map fun v=>.s v.1 :: Bw v.2).flatten
theorem Is (k t n ps fs vs):flat (.mk k t n ps fs vs)=[.i k,.s t,.i n]++(Bw ps++(Ee fs++Ef vs)):=by
 rw[flat];unfold Bw Ee Ef Bw;simp only[List.map_attach_eq_pmap,List.pmap_eq_map]
def B5 (a b:Ty):Int:=Ca (flat a) (flat b)
theorem Cb {P:Program}{w:World}{o:Oper}{a:Act}{K:Act->World->Prop}{Q:Exit->Act->World->Prop}(s x:Operand) (t:TypeId)
  (ho:o.op=.call { callee:=.builtin .append,args:=#[s,x],argTypes:=#[t,t] })
  (base:Nat) (e:TypeId) (i:TypeInfo) (z:Value) (size bytes:Nat) (ht:P.underlying t=some (.slice e)) (hi:P.info? e=some i) (hz:i.zero=some z)
  (hD:i.size=size) (hG:i.bytes=bytes) (hI:z.cells.size=size) (hH:0<size)
  (v:Value) (n:Nat) (xs:List Value) (hs:a.eval s=v) (hE:w.ownsRow base e size v n xs)
  (ad:Addr) (m c:Nat) (news:List Value) (hx:a.eval x=.slice (some ad) m c) (hl:news.length=m*size) (hC:∀j u,news[j]?=some u->w.cell? (ad.add j)=some u) (h1:∀u∈news,u.oneCell'=true)
  (hF:n+m<=maxLen) (hA:(n+m)*bytes<=140737488355328) (hB:base<=w.heap.size)
  (h:∀v' w',w'.ownsRow base e size v' (n+m) (xs++news)->w.grownBy w' v.ownBlock->(v'=.slice none 0 0↔v=.slice none 0 0/\m=0)->(v'.ownBlock=v.ownBlock\/v'.ownBlock=some w.heap.size)->K (a.put o.dst v') w') :
  Oper.wp P o a w K Q:=by
 obtain⟨v',w',hr,h2,h3,h4,h5⟩:=run_append_own_at (P:=P) w base t o.type e i z size bytes ht hi hz hD hG hI hH v n xs hE ad m c news hl hC h1 hF hA hB;unfold Oper.wp execOp;simp only[ho,resolve,invoke,builtin,Sem.run_bind,Sem.run_pure,Result.andThen_ok,List.map_toArray,List.map_cons,List.map_nil,hs,hx,hr];exact h v' w' h2 h3 h4 h5
end Go.Proofs.YtlpfpehegddcfaaGreatDoor
/-
 Contracts of maps.Keys and slices.Sorted at this dump,in plain declarations.
-/
namespace Go.Proofs.YtlpfpehegddcfaaGreatDoor
open Go.RowKit Go.Maps Go.Sort Go.Shelf
def Mo:Go.Shelf.Ren:=⟨fun|7=>155|10=>189|n=>n,fun|23=>186|26=>9 | 3=>193|28=>191 | 0=>0 | 27=>190 | 33=>44 | 4=>4 | n=>n,fun n=>n⟩
theorem Z3:Go.Proofs.SlLaysZ.n7 Tryz.prog Mo:={
 mixed:=by kernel_rfl
 f7:=⟨ "maps.Keys[map[string]struct{},string,struct{}]",by decide,Tryz.func155.trans (congrArg some (by kernel_rfl))⟩
 f10:=⟨ "maps.Keys[map[string]struct{},string,struct{}]$1",by decide,Tryz.func189.trans (congrArg some (by kernel_rfl))⟩
 t0:=Tryz.underlying0
 a0:=Tryz.isAgg0
 z0:=Tryz.sizeOf0
 v0:=Tryz.zeroValue0
 t4:=Tryz.underlying4
 a4:=Tryz.isAgg4
 z4:=Tryz.sizeOf4
 v4:=Tryz.zeroValue4
 t23:=Tryz.underlying186
 a23:=Tryz.isAgg186
 z23:=Tryz.sizeOf186
 v23:=Tryz.zeroValue186
 t26:=Tryz.underlying9
 a26:=Tryz.isAgg9
 z26:=Tryz.sizeOf9
 v26:=Tryz.zeroValue9
 t27:=Tryz.underlying190
 a27:=Tryz.isAgg190
 z27:=Tryz.sizeOf190
 v27:=Tryz.zeroValue190
 t28:=Tryz.underlying191
 a28:=Tryz.isAgg191
 z28:=Tryz.sizeOf191
 v28:=Tryz.zeroValue191
 t33:=Tryz.underlying44
 a33:=Tryz.isAgg44
 z33:=Tryz.sizeOf44
 v33:=Tryz.zeroValue44
}
def Jt:Go.Shelf.Ren:=⟨fun|6=>154 | 8=>188 | 9=>133 | 11=>211 | 13=>140 | 12=>168 | 23=>177 | 24=>178 | 14=>191 | 15=>192 | 16=>193 | 17=>194 | 18=>195 | 19=>196 | 20=>197 | 21=>198 | 22=>199 | 25=>212 | 26=>201 | 27=>202 | 28=>213 | 29=>214 | 30=>180 | 31=>217 | n=>n,fun|26=>9 | 28=>191 | 24=>46 | 0=>0 | 3=>3 | 37=>171 | 48=>218 | 50=>220 | 4=>4 | 40=>211 | 39=>210 | 45=>215 | 5=>5 | 9=>9 | 51=>235 | 55=>127 | 57=>246 | 58=>247 | 33=>44 | n=>n,fun n=>n⟩
theorem Z5:Go.Proofs.SlLaysZ.n6 Tryz.prog Jt:={
 mixed:=by kernel_rfl
 f6:=⟨ "slices.Sorted[string]",by decide,Tryz.func154.trans (congrArg some (by kernel_rfl))⟩
 f8:=⟨ "slices.Collect[string]",by decide,Tryz.func188.trans (congrArg some (by kernel_rfl))⟩
 f11:=⟨ "slices.AppendSeq[[]string,string]",by decide,Tryz.func211.trans (congrArg some (by kernel_rfl))⟩
 t0:=Tryz.underlying0
 a0:=Tryz.isAgg0
 z0:=Tryz.sizeOf0
 v0:=Tryz.zeroValue0
 t24:=Tryz.underlying46
 a24:=Tryz.isAgg46
 z24:=Tryz.sizeOf46
 v24:=Tryz.zeroValue46
 t26:=Tryz.underlying9
 a26:=Tryz.isAgg9
 z26:=Tryz.sizeOf9
 v26:=Tryz.zeroValue9
 t28:=Tryz.underlying191
 a28:=Tryz.isAgg191
 z28:=Tryz.sizeOf191
 v28:=Tryz.zeroValue191
 i26:=by kernel_rfl
}
def Tg:Go.Shelf.Ren:=⟨fun|6=>133 | 8=>140 | 9=>168 | 19=>177 | 20=>178 | 21=>191 | 22=>192 | 23=>193 | 24=>194 | 25=>195 | 26=>196 | 27=>197 | 28=>198 | 29=>199 | 36=>212 | 31=>201 | 32=>202 | 37=>213 | 38=>214 | 39=>180 | 41=>217 | n=>n,fun|27=>46 | 29=>9 | 3=>3 | 32=>171 | 26=>46 | 0=>0 | 44=>218 | 46=>220 | 4=>4 | 36=>211 | 35=>210 | 41=>215 | 5=>5 | 9=>9 | 53=>235 | 57=>127 | 63=>246 | 64=>247 | n=>n,fun n=>n⟩
theorem Z4:Go.Proofs.SlLaysM.n6 Tryz.prog Tg:={
 mixed:=by kernel_rfl
 f6:=⟨ "slices.Sort[[]string,string]",by decide,Tryz.func133.trans (congrArg some (by kernel_rfl))⟩
 f8:=Tryz.func140.trans (congrArg some (by kernel_rfl))
 f9:=⟨ "slices.pdqsortOrdered[string]",by decide,Tryz.func168.trans (congrArg some (by kernel_rfl))⟩
 f19:=Tryz.func177.trans (congrArg some (by kernel_rfl))
 f20:=Tryz.func178.trans (congrArg some (by kernel_rfl))
 f21:=⟨ "slices.insertionSortOrdered[string]",by decide,Tryz.func191.trans (congrArg some (by kernel_rfl))⟩
 f22:=⟨ "slices.heapSortOrdered[string]",by decide,Tryz.func192.trans (congrArg some (by kernel_rfl))⟩
 f23:=⟨ "slices.breakPatternsOrdered[string]",by decide,Tryz.func193.trans (congrArg some (by kernel_rfl))⟩
 f24:=⟨ "slices.choosePivotOrdered[string]",by decide,Tryz.func194.trans (congrArg some (by kernel_rfl))⟩
 f25:=⟨ "slices.reverseRangeOrdered[string]",by decide,Tryz.func195.trans (congrArg some (by kernel_rfl))⟩
 f26:=⟨ "slices.partialInsertionSortOrdered[string]",by decide,Tryz.func196.trans (congrArg some (by kernel_rfl))⟩
 f27:=⟨ "cmp.Less[string]",by decide,Tryz.func197.trans (congrArg some (by kernel_rfl))⟩
 f28:=⟨ "slices.partitionEqualOrdered[string]",by decide,Tryz.func198.trans (congrArg some (by kernel_rfl))⟩
 f29:=⟨ "slices.partitionOrdered[string]",by decide,Tryz.func199.trans (congrArg some (by kernel_rfl))⟩
 f31:=Tryz.func201.trans (congrArg some (by kernel_rfl))
 f32:=Tryz.func202.trans (congrArg some (by kernel_rfl))
 f36:=⟨ "slices.siftDownOrdered[string]",by decide,Tryz.func212.trans (congrArg some (by kernel_rfl))⟩
 f37:=⟨ "slices.medianAdjacentOrdered[string]",by decide,Tryz.func213.trans (congrArg some (by kernel_rfl))⟩
 f38:=⟨ "slices.medianOrdered[string]",by decide,Tryz.func214.trans (congrArg some (by kernel_rfl))⟩
 f39:=⟨ "cmp.isNaN[string]",by decide,Tryz.func180.trans (congrArg some (by kernel_rfl))⟩
 f41:=⟨ "slices.order2Ordered[string]",by decide,Tryz.func217.trans (congrArg some (by kernel_rfl))⟩
 t0:=Tryz.underlying0
 a0:=Tryz.isAgg0
 z0:=Tryz.sizeOf0
 v0:=Tryz.zeroValue0
 t3:=Tryz.underlying3
 a3:=Tryz.isAgg3
 z3:=Tryz.sizeOf3
 v3:=Tryz.zeroValue3
 t4:=Tryz.underlying4
 a4:=Tryz.isAgg4
 z4:=Tryz.sizeOf4
 v4:=Tryz.zeroValue4
 t5:=Tryz.underlying5
 a5:=Tryz.isAgg5
 z5:=Tryz.sizeOf5
 v5:=Tryz.zeroValue5
 t9:=Tryz.underlying9
 a9:=Tryz.isAgg9
 z9:=Tryz.sizeOf9
 v9:=Tryz.zeroValue9
 t26:=Tryz.underlying46
 a26:=Tryz.isAgg46
 z26:=Tryz.sizeOf46
 v26:=Tryz.zeroValue46
 t27:=Tryz.underlying46
 a27:=Tryz.isAgg46
 z27:=Tryz.sizeOf46
 v27:=Tryz.zeroValue46
 t29:=Tryz.underlying9
 a29:=Tryz.isAgg9
 z29:=Tryz.sizeOf9
 v29:=Tryz.zeroValue9
 t32:=Tryz.underlying171
 a32:=Tryz.isAgg171
 z32:=Tryz.sizeOf171
 v32:=Tryz.zeroValue171
 t35:=Tryz.underlying210
 a35:=Tryz.isAgg210
 z35:=Tryz.sizeOf210
 v35:=Tryz.zeroValue210
 t36:=Tryz.underlying211
 a36:=Tryz.isAgg211
 z36:=Tryz.sizeOf211
 v36:=Tryz.zeroValue211
 t41:=Tryz.underlying215
 a41:=Tryz.isAgg215
 z41:=Tryz.sizeOf215
 v41:=Tryz.zeroValue215
 t44:=Tryz.underlying218
 a44:=Tryz.isAgg218
 z44:=Tryz.sizeOf218
 v44:=Tryz.zeroValue218
 t46:=Tryz.underlying220
 a46:=Tryz.isAgg220
 z46:=Tryz.sizeOf220
 v46:=Tryz.zeroValue220
 t53:=Tryz.underlying235
 a53:=Tryz.isAgg235
 z53:=Tryz.sizeOf235
 v53:=Tryz.zeroValue235
 t57:=Tryz.underlying127
 a57:=Tryz.isAgg127
 z57:=Tryz.sizeOf127
 v57:=Tryz.zeroValue127
 t63:=Tryz.underlying246
 a63:=Tryz.isAgg246
 z63:=Tryz.sizeOf246
 v63:=Tryz.zeroValue246
 t64:=Tryz.underlying247
 a64:=Tryz.isAgg247
 z64:=Tryz.sizeOf247
 v64:=Tryz.zeroValue247
}
theorem Jb7 (m:Nat):AnyZ.SortsIn Tryz.prog Jt Fence.wide m:=
 ⟨fun blk off cap ss W hH hA hB=>callsIn_wide.2 (AnyM.slices_Sort_string Z4 blk off cap ss W hH hA hB),
  fun p cap W=>callsIn_wide.2 (AnyM.slices_Sort_string_none Z4 p cap W)⟩
theorem Jb8 (mb:Option Nat) (W:World):CallsIn Fence.wide 5 Tryz.prog 155 #[.map mb] W fun e w'=>e=.returned (.func (.func 189) #[] #[.pointer (some ⟨W.heap.size,0,none⟩)])/\w'=W.alloc (.cells #[.map mb] 186):=
 AnyZ.keys_in Z3 Fence.wide 5 trivial rfl mb W
theorem Wy {H:Type}(b nn:Nat) (D0:DataW H) (R:Value->Option (DataW H×List MemPlace)) (w:World) (hB:w.ownsMap Tryz.prog 9 R b nn D0) (hC:Maps.size D0<=maxLen) (hA:Maps.size D0*16<=140737488355328) :
  CallsIn Fence.wide 5 Tryz.prog 154 #[.func (.func 189) #[] #[.pointer (some ⟨w.heap.size,0,none⟩)]] (w.alloc (.cells #[.map (some b)] 186)) fun e w'=>∃(v:Value) (ss:List (List UInt8)),e=.returned v/\ss.Perm (strKeys D0) /\
   w'.ownsRow (w.alloc (.cells #[.map (some b)] 186)).heap.size 9 1 v ss.length ((ss.mergeSort (fun x y=>decide (x<=y))).map encStr)/\(v=.slice none 0 0↔ss=[])/\Below (w.alloc (.cells #[.map (some b)] 186)).heap.size (w.alloc (.cells #[.map (some b)] 186)) w':=by
 have hF:=hB.lt;have hE:SeqGives Fence.wide 2 Tryz.prog 189 #[.pointer (some ⟨w.heap.size,0,none⟩)] encStr (fun ss=>ss.Perm (strKeys D0)) (Maps.size D0) (w.alloc (.cells #[.map (some b)] 186)):=
  AnyZ.keys_gives (ρ:=Mo) { Z3 with } Fence.wide _ trivial rfl (by omega) w.heap.size b nn D0 _ (by simp) (by simp) (by
   obtain⟨es,clock,hb,Ft,hs,hD⟩:=hB;exact⟨es,clock,(Below.heap_alloc _ _ b hF).trans hb,Ft,hs,hD⟩)
 exact AnyZ.sorted_in Z5 Fence.wide 5 trivial trivial trivial trivial rfl (by omega) (Jb7 _) (enters_of Tryz.func133 (by kernel_rfl) rfl) 189 #[.pointer (some ⟨w.heap.size,0,none⟩)] trivial (enters_of Tryz.func189 (by kernel_rfl) rfl) _ _ hC hA _ hE
open Go.RowKit Go.Maps Go.ChangeMaps
theorem Rx {a b:Z8}(h:a.data.toList=b.data.toList):a=b:=by
 cases a;cases b
 simp only[ByteArray.mk.injEq];exact Array.ext' h
structure MK (P:Program) (α:Type) where
 T:TypeId
 S:TypeId
 E:TypeId
 val:α->Value
 dat:α->DataW Unit
 zero:α
 R:Value->Option (DataW Unit×List MemPlace)
 hR:∀a,R (val a)=some (dat a,[])
 inv:∀ {v a ps},R v=some (dat a,ps)->v=val a
 hS:P.underlying S=some .string
 hT:P.underlying T=some (.map S E)
 hz:∀W,(zeroValue E).run P W=.ok (val zero) W
def F3 (s:Z8):Lit:=.string s.data.toList
section
variable {P:Program} {α:Type}
theorem MK.key (M:MK P α) (s:Z8) (hs:s.size<=maxLen):keyOf P M.S (.string s)=some (F3 s):=Go.WideMaps.keyOf_string_mk M.hS hs
def Fo (L:List (Z8×α)) (s:Z8):Option α:=(L.find? fun f=>(F3 f.1).sameKey (F3 s)).map (·.2)
def MK.datL (M:MK P α) (L:List (Z8×α)):DataW Unit:=.map (L.map fun f=>(F3 f.1,M.dat f.2))
def Cy (M:MK P α) (W:World) (b n:Nat) (F:Z8->Option α):Prop:=∃L:List (Z8×α),W.ownsMap P M.S M.R b L.length (M.datL L)/\L.length<=n/\∀s,Fo L s=F s
theorem Sd (a b:Z8):(F3 a).sameKey (F3 b)=decide (a=b):=by
 unfold F3 Lit.sameKey;rw[Bool.eq_iff_iff];simp only[beq_iff_eq,decide_eq_true_eq];exact⟨Rx,fun e=>by rw[e]⟩
theorem V7 (s:Z8):Fo ([]:List (Z8×α)) s=none:=rfl
theorem Dm (f:Z8×α) (L:List (Z8×α)) (s:Z8):Fo (f :: L) s=if f.1=s then some f.2 else Fo L s:=by
 unfold Fo;rw[List.find?_cons,Sd];by_cases h:f.1=s <;> simp[h]
theorem Zt (M:MK P α) (L:List (Z8×α)) (s:Z8):has (M.datL L) (F3 s)=(Fo L s).isSome:=by
 unfold MK.datL Fo;rw[has_eq]
 induction L with
 | nil=>rfl
 | cons f L ih=>
  rw[List.map_cons,List.any_cons,List.find?_cons]
  cases h:(F3 f.1).sameKey (F3 s) with
  | true=>simp
  | false=>simpa using ih
theorem Ui (M:MK P α) (L:List (Z8×α)) (s:Z8):(M.datL L).atKey (F3 s) (M.dat M.zero)=M.dat ((Fo L s).getD M.zero):=by
 unfold MK.datL Fo DataW.atKey;simp only
 induction L with
 | nil=>rfl
 | cons f L ih=>
  rw[List.map_cons,List.find?_cons,List.find?_cons]
  cases h:(F3 f.1).sameKey (F3 s) with
  | true=>simp
  | false=>simpa using ih
def K9 (L:List (Z8×α)) (s:Z8):List (Z8×α):=L.filter fun f=>!(F3 f.1).sameKey (F3 s)
theorem Yf (M:MK P α) (L:List (Z8×α)) (s:Z8):(M.datL L).del (F3 s)=M.datL (K9 L s):=by
 unfold MK.datL K9 DataW.del;simp only[DataW.map.injEq]
 induction L with
 | nil=>rfl
 | cons f L ih=>
  rw[List.map_cons,List.filter_cons,List.filter_cons]
  cases h:(!(F3 f.1).sameKey (F3 s)) with
  | true=>simpa using ih
  | false=>simpa using ih
def Pr (f:Z8×α):List (Z8×α)->List (Z8×α)
 | []=>[f]
 | g :: r=>if (F3 f.1).before (F3 g.1) then f :: g :: r else g :: Pr f r
theorem Rq (M:MK P α) (f:Z8×α):∀L:List (Z8×α),DataW.insert (F3 f.1,M.dat f.2) (L.map fun f=>(F3 f.1,M.dat f.2))=(Pr f L).map fun f=>(F3 f.1,M.dat f.2)
 | []=>rfl
 | g :: r=>by
  rw[List.map_cons,DataW.insert,Pr];by_cases h:(F3 f.1).before (F3 g.1)=true
  ·rw[if_pos h,if_pos h];rfl
  ·rw[if_neg h,if_neg h,Rq M f r];rfl
theorem M4 (M:MK P α) (L:List (Z8×α)) (f:Z8×α):(M.datL L).put (F3 f.1) (M.dat f.2)=M.datL (Pr f (K9 L f.1)):=by
 have h:=Yf M L f.1;unfold MK.datL DataW.del at h;simp only[DataW.map.injEq]at h;unfold MK.datL DataW.put;simp only[DataW.map.injEq];rw[h];exact Rq M f _
theorem Gd (L:List (Z8×α)) (k s:Z8):Fo (K9 L k) s=if k=s then none else Fo L s:=by
 induction L with
 | nil=>simp[K9,Fo]
 | cons f L ih=>
  unfold K9 at ih ⊢;rw[List.filter_cons,Sd];by_cases h:f.1=k
  ·simp only[h,decide_true,Bool.not_true,Bool.false_eq_true,if_false];rw[ih,Dm,h]
   split <;> rfl
  ·simp only[h,decide_false,Bool.not_false,if_true];rw[Dm,ih,Dm];by_cases h1:f.1=s
   ·rw[if_pos h1,if_pos h1,if_neg (fun e=>h (h1.trans e.symm))]
   ·rw[if_neg h1,if_neg h1]
theorem Ir (f:Z8×α) (s:Z8):∀L:List (Z8×α),Fo L f.1=none->Fo (Pr f L) s=if f.1=s then some f.2 else Fo L s
 | [],_=>by rw[Pr,Dm]
 | g :: r,h=>by
  rw[Dm]at h;by_cases hg:g.1=f.1
  ·rw[if_pos hg]at h;cases h
  rw[if_neg hg]at h;rw[Pr]
  split
  ·rw[Dm]
  ·rw[Dm,Ir f s r h,Dm];by_cases h1:g.1=s
   ·rw[if_pos h1,if_pos h1,if_neg (fun e=>hg (h1.trans e.symm))]
   ·rw[if_neg h1,if_neg h1]
theorem Js (f:Z8×α):∀L:List (Z8×α),(Pr f L).length=L.length+1
 | []=>rfl
 | g :: r=>by rw[Pr];split <;> simp[Js f r]
theorem Oo (L:List (Z8×α)) (k:Z8):(K9 L k).length<=L.length:=List.length_filter_le _ _
theorem Pv {W:World}{S:TypeId}{R:Value->Option (DataW Unit×List MemPlace)}{b n:Nat}{D:DataW Unit}(h:W.ownsMap P S R b n D):W.ownsMap P S R b (size D) D:=by
 obtain⟨es,clock,hb,F,_,rfl⟩:=h;exact⟨es,clock,hb,F,by simp[size,length_sorted],rfl⟩
theorem Hg (M:MK P α) (L:List (Z8×α)):size (M.datL L)=L.length:=by simp[MK.datL,size]
theorem Cy.look1 {M:MK P α}{W:World}{b n:Nat}{F:Z8->Option α}(h:Cy M W b n F) (s:Z8) (hs:s.size<=maxLen):(Instr.lookup M.T (.map (some b)) (.string s) false).run P W=.ok (M.val ((F s).getD M.zero)) W:=by
 obtain⟨L,h,_,hF⟩:=h;obtain⟨v,ps,hA,hv⟩:=World.ownsMap.lookup h (string_keyed M.hS) M.hT (M.hz W) (zd:=M.dat M.zero) (zp:=[]) (M.hR _) (M.key s hs);rw[Ui]at hv;rw[M.inv hv,hF]at hA;exact hA
theorem Cy.look2 {M:MK P α}{W:World}{b n:Nat}{F:Z8->Option α}(h:Cy M W b n F) (s:Z8) (hs:s.size<=maxLen):(Instr.lookup M.T (.map (some b)) (.string s) true).run P W=.ok (.tuple #[M.val ((F s).getD M.zero),.bool (F s).isSome]) W:=by
 obtain⟨L,h,_,hF⟩:=h;obtain⟨v,ps,hA,hv⟩:=World.ownsMap.look_ok h (string_keyed M.hS) M.hT (M.hz W) (zd:=M.dat M.zero) (zp:=[]) (M.hR _) (M.key s hs);rw[Ui]at hv;rw[M.inv hv,Zt,hF]at hA;exact hA
def Hx (F:Z8->Option α) (s:Z8) (a:α):Z8->Option α:=fun x=>if s=x then some a else F x
theorem Ja1:1000000000<maxLen:=by decide
theorem Cy.put {M:MK P α}{W:World}{b n:Nat}{F:Z8->Option α}(h:Cy M W b n F) (hn:n<=1000000000) (s:Z8) (hs:s.size<=maxLen) (a:α) :
  ∃w',(Instr.mapUpdate M.T (.map (some b)) (.string s) (M.val a)).run P W=.ok () w'/\Cy M w' b (n+1) (Hx F s a)/\W.grownBy w' (some b):=by
 obtain⟨L,h,hL,hF⟩:=h;obtain⟨w',hA,ho,hg⟩:=World.ownsMap.update h (string_keyed M.hS) M.hT (Nat.lt_of_le_of_lt (Nat.le_trans hL hn) Ja1) (M.key s hs) (M.hR a);rw[M4 M L (s,a)]at ho;have hB:=Pv ho;rw[Hg]at hB;refine⟨w',hA,⟨_,hB,?_,fun x=>?_⟩,hg⟩
 ·rw[Js];have:=Oo L s;simp only;omega
 ·rw[Ir (s,a) x _ (by rw[Gd];simp)];unfold Hx;simp only;by_cases e:s=x
  ·rw[if_pos e,if_pos e]
  ·rw[if_neg e,if_neg e,Gd,if_neg e,hF]
theorem Cy.new (M:MK P α) (W:World):Cy M (W.alloc (.map #[] 0)) W.heap.size 0 (fun _=>none):=⟨[],World.ownsMap_made W P M.S M.R,Nat.le_refl _,fun _=>rfl⟩
theorem Cy.lt {M:MK P α}{W:World}{b n:Nat}{F:Z8->Option α}(h:Cy M W b n F):b<W.heap.size:=by
 obtain⟨L,h,_,_⟩:=h;exact World.ownsMap.lt h
theorem Cy.keep {M:MK P α}{W W':World}{b n:Nat}{F:Z8->Option α}(h:Cy M W b n F) (hb:W'.heap[b]?=W.heap[b]?):Cy M W' b n F:=by
 obtain⟨L,⟨es,clock,h1,F',hs,e⟩,hL,hF⟩:=h;exact⟨L,⟨es,clock,hb.trans h1,F',hs,e⟩,hL,hF⟩
theorem Cy.later {M:MK P α}{W W':World}{b n:Nat}{F:Z8->Option α}(h:Cy M W b n F) (hb:Below W.heap.size W W'):Cy M W' b n F:=h.keep (hb.block b h.lt)
theorem MK.nil2 (M:MK P α) (w:World) (s:Z8):(Instr.lookup M.T (.map none) (.string s) true).run P w=.ok (.tuple #[M.val M.zero,.bool false]) w:=by
 have hf:Instr.findNow .string (.string s) ([]:List MapEntry) 0=some none:=rfl;have hc:∀e,(Instr.checkKey e 10000 M.S (.string s)).run P w=.ok () w:=fun e=>MapKept.run_checkKey (k:=.string s) M.hS (by simp[MapKept.IsKey]) e 9999;simp[Instr.lookup,run_underlying M.hT,hc,MapKept.run_findKey M.hS hf,Result.andThen,M.hz]
end
open Go.Shelf
def Xh:Go.Shelf.Ren:=⟨fun|190=>133 | 125=>140 | 258=>168 | 128=>177 | 129=>178 | 302=>191 | 303=>192 | 304=>193 | 305=>194 | 306=>195 | 307=>196 | 308=>197 | 309=>198 | 310=>199 | 333=>212 | 329=>201 | 330=>202 | 334=>213 | 335=>214 | 336=>180 | 344=>217 | n=>n,fun|31=>46 | 9=>9 | 3=>3 | 46=>171 | 0=>0 | 51=>218 | 53=>220 | 4=>4 | 183=>211 | 182=>210 | 131=>215 | 5=>5 | 218=>235 | 222=>127 | 228=>246 | 229=>247 | n=>n,fun|n=>n⟩
theorem Jed:Go.Proofs.Lays.n190 Tryz.prog Xh:={
 mixed:=by kernel_rfl
 f125:=Tryz.func140.trans (congrArg some (by kernel_rfl))
 f128:=Tryz.func177.trans (congrArg some (by kernel_rfl))
 f129:=Tryz.func178.trans (congrArg some (by kernel_rfl))
 f190:=Tryz.func133.trans (congrArg some (by kernel_rfl))
 f258:=Tryz.func168.trans (congrArg some (by kernel_rfl))
 f302:=Tryz.func191.trans (congrArg some (by kernel_rfl))
 f303:=Tryz.func192.trans (congrArg some (by kernel_rfl))
 f304:=Tryz.func193.trans (congrArg some (by kernel_rfl))
 f305:=Tryz.func194.trans (congrArg some (by kernel_rfl))
 f306:=Tryz.func195.trans (congrArg some (by kernel_rfl))
 f307:=Tryz.func196.trans (congrArg some (by kernel_rfl))
 f308:=Tryz.func197.trans (congrArg some (by kernel_rfl))
 f309:=Tryz.func198.trans (congrArg some (by kernel_rfl))
 f310:=Tryz.func199.trans (congrArg some (by kernel_rfl))
 f329:=Tryz.func201.trans (congrArg some (by kernel_rfl))
 f330:=Tryz.func202.trans (congrArg some (by kernel_rfl))
 f333:=Tryz.func212.trans (congrArg some (by kernel_rfl))
 f334:=Tryz.func213.trans (congrArg some (by kernel_rfl))
 f335:=Tryz.func214.trans (congrArg some (by kernel_rfl))
 f336:=Tryz.func180.trans (congrArg some (by kernel_rfl))
 f344:=Tryz.func217.trans (congrArg some (by kernel_rfl))
 t0:=Tryz.underlying0
 a0:=Tryz.isAgg0
 z0:=Tryz.sizeOf0
 v0:=Tryz.zeroValue0
 t3:=Tryz.underlying3
 a3:=Tryz.isAgg3
 z3:=Tryz.sizeOf3
 v3:=Tryz.zeroValue3
 t4:=Tryz.underlying4
 a4:=Tryz.isAgg4
 z4:=Tryz.sizeOf4
 v4:=Tryz.zeroValue4
 t5:=Tryz.underlying5
 a5:=Tryz.isAgg5
 z5:=Tryz.sizeOf5
 v5:=Tryz.zeroValue5
 t9:=Tryz.underlying9
 a9:=Tryz.isAgg9
 z9:=Tryz.sizeOf9
 v9:=Tryz.zeroValue9
 t31:=Tryz.underlying46
 a31:=Tryz.isAgg46
 z31:=Tryz.sizeOf46
 v31:=Tryz.zeroValue46
 t46:=Tryz.underlying171
 a46:=Tryz.isAgg171
 z46:=Tryz.sizeOf171
 v46:=Tryz.zeroValue171
 t51:=Tryz.underlying218
 a51:=Tryz.isAgg218
 z51:=Tryz.sizeOf218
 v51:=Tryz.zeroValue218
 t53:=Tryz.underlying220
 a53:=Tryz.isAgg220
 z53:=Tryz.sizeOf220
 v53:=Tryz.zeroValue220
 t131:=Tryz.underlying215
 a131:=Tryz.isAgg215
 z131:=Tryz.sizeOf215
 v131:=Tryz.zeroValue215
 t182:=Tryz.underlying210
 a182:=Tryz.isAgg210
 z182:=Tryz.sizeOf210
 v182:=Tryz.zeroValue210
 t183:=Tryz.underlying211
 a183:=Tryz.isAgg211
 z183:=Tryz.sizeOf211
 v183:=Tryz.zeroValue211
 t218:=Tryz.underlying235
 a218:=Tryz.isAgg235
 z218:=Tryz.sizeOf235
 v218:=Tryz.zeroValue235
 t222:=Tryz.underlying127
 a222:=Tryz.isAgg127
 z222:=Tryz.sizeOf127
 v222:=Tryz.zeroValue127
 t228:=Tryz.underlying246
 a228:=Tryz.isAgg246
 z228:=Tryz.sizeOf246
 v228:=Tryz.zeroValue246
 t229:=Tryz.underlying247
 a229:=Tryz.isAgg247
 z229:=Tryz.sizeOf247
 v229:=Tryz.zeroValue247 }
def Pk:Go.Shelf.Ren:=⟨fun|194=>134 | n=>n,fun|31=>46 | 9=>9 | 3=>3 | 4=>4 | 0=>0 | n=>n,fun|n=>n⟩
theorem Ye:Go.Proofs.Lays.n194 Tryz.prog Pk:={
 mixed:=by kernel_rfl
 f194:=Tryz.func134.trans (congrArg some (by kernel_rfl))
 t0:=Tryz.underlying0
 a0:=Tryz.isAgg0
 z0:=Tryz.sizeOf0
 v0:=Tryz.zeroValue0
 t3:=Tryz.underlying3
 a3:=Tryz.isAgg3
 z3:=Tryz.sizeOf3
 v3:=Tryz.zeroValue3
 t4:=Tryz.underlying4
 a4:=Tryz.isAgg4
 z4:=Tryz.sizeOf4
 v4:=Tryz.zeroValue4
 t9:=Tryz.underlying9
 a9:=Tryz.isAgg9
 z9:=Tryz.sizeOf9
 v9:=Tryz.zeroValue9
 t31:=Tryz.underlying46
 a31:=Tryz.isAgg46
 z31:=Tryz.sizeOf46
 v31:=Tryz.zeroValue46 }

import Derived.Test.YtlpfpehegddcfaaGreatDoorMn45
import Derived.Test.YtlpfpehegddcfaaGreatDoorMn46
namespace Go.Proofs.YtlpfpehegddcfaaGreatDoor
set_option maxRecDepth 100000
set_option maxHeartbeats 64000000
open Go.RowKit
theorem cfill_all {K':Nat→Prop} {m:Nat} {V:Nat→Value} {h0:V 0=.agg #[.int .i64 0,.string ⟨#[]⟩,.int .i64 0,.slice none 0 0,.slice none 0 0,.slice none 0 0]} {L:List (ByteArray×Ty)} {F:ByteArray→Option Ty} (hF:∀ s u,F s=some u→formT u=true∧cntT u≤4096) (hFL:F=lookD L) (t:Ty) :
  formT t=true→cntT t≤4096→∀ K:Nat→Prop,CIh K K' m V h0 L F t:=by
 refine Ty.ind (C:=fun t=>formT t=true→cntT t≤4096→∀ K:Nat→Prop,CIh K K' m V h0 L F t) (fun k s n ps fs vs hp hf _ hfm hct K=>?_) t
 have hc:=hct
 rw[cntT_mk] at hc
 intro wx bp op n0 ha hbp hK hfil hn0
 have hi1:∀ p∈ps,CIh K K' m V h0 L F p:=fun p hp2=>hp p hp2 (form_ps hfm p hp2) (by have:=cntL_mem hp2;omega) K
 have hi2:∀ f∈fs,CIh K K' m V h0 L F f.2.2:=fun f hf2=>hf f hf2 (form_fs (t:=.mk k s n ps fs vs) hfm f hf2) (by have:=cntF_memT hf2;omega) K
 have hFf:∀ s u,F s=some u→formT u=true:=fun s u h=>(hF s u h).1
 obtain⟨l1,l2,l3,l4⟩:=form_lens hfm
 by_cases hn:4096<n0
 ·exact cfill_z hct ha hbp hK hfil hn0 hn
 have hn':n0≤4096:=Nat.le_of_not_lt hn
 cases hi:infT (.mk k s n ps fs vs) with
 | false=>exact cfill_i hct ha hbp hK hfil hn0 hn' hfm hi
 | true=>
  by_cases h22:k=22
  ·have hlk:=firstN_look L s
   rcases hj:firstN L s with _ | j
   ·rw[hj] at hlk
    exact cfill_f (l4 h22) (l2 (by omega)) (by omega) hct ha hbp hK hfil hn0 hn' hfm hi hFf (fun _=>⟨hj,by rw[hFL,hlk];rfl⟩) hi2
   ·rw[hj] at hlk
    obtain⟨j1,j2⟩:=firstN_le L s j hj
    have hjl:j - 1<L.length:=by omega
    have hFs:F s=some (L[j - 1]'hjl).2:=by rw[hFL,hlk];simp[List.getElem?_eq_getElem hjl]
    exact cfill_f22 hct ha hbp hK hfil hn0 hn' h22 hj hjl j1 hFs (hF _ _ hFs).2 hi
  ·by_cases h14:k=14
   ·exact cfill_f (l3 h14) (l2 (by omega)) (by omega) hct ha hbp hK hfil hn0 hn' hfm hi hFf (fun h=>absurd h h22) hi2
   ·exact cfill_q (l1 h14) hct ha hbp hK hfil hn0 hn' hfm hi hFf (fun h=>absurd h h22) hi1
theorem ListD.low {K:Nat→Prop} {w:World} {l:List (ByteArray×Ty)} {A:Option Addr} {c:Nat} (h:ListD K w l A c):ListD (fun b=>b<w.heap.size) w l A c:=by
 obtain⟨b,o,h1,h2⟩:=h
 refine⟨b,o,⟨h1.le,h1.big,h1.none,fun h0=>⟨(h1.some h0).1,World.block_lt_of_cell? _ _ (h2 0 h0).1⟩⟩,fun i hi=>?_⟩
 obtain⟨h3,h4,cs,h5,h6⟩:=h2 i hi
 exact⟨h3,h4,cs,h5,RepT.low _ _ h6⟩
theorem cFill_ok {K K':Nat→Prop} {w:World} {p:Ty} {cs:List Value} {L:List (ByteArray×Ty)} {AL:Option Addr} {cL:Nat} (hr:RepT K w p cs) (hL:ListD K' w L AL cL) (hlo:∀ x,K x∨K' x→x<w.heap.size) :
  Calls Tryz.prog 10 #[.agg cs.toArray,.slice AL L.length cL] w (ResA w (ansF (lookD L) p L) (errF (lookD L) p L)):=by
 unfold ansF errF
 cases hp:formedT p with
 | false=>
  rw[if_neg (fun h=>by cases h.1),if_neg (fun h=>by cases h.1)]
  exact (cfill_bad hr hp).mono fun e w' h=>h.res
 | true=>
  have h:=cfill_any (F:=lookD L) hr hL hlo hp fun hal wx m V h0 hx hm hat hfil=>by
   have hF:∀ s u,lookD L s=some u→formT u=true∧cntT u≤4096:=fun s u h=>by
    obtain⟨f,hf,rfl⟩:=lookD_mem h
    exact formedT_iff (List.all_eq_true.1 hal f hf)
   have hmw:m+1<wx.heap.size:=(Array.getElem?_eq_some_iff.1 hfil.box).1
   refine (cfill_all (K':=K') (m:=m) (V:=V) (h0:=h0) hF rfl p (formedT_iff hp).1 (formedT_iff hp).2 K wx w.heap.size 0 0 hat (by omega) (fun x h=>by have h1:=hlo x h;exact⟨by omega,by omega⟩) hfil (by omega)).mono ?_
   rintro e w' ⟨rs,u,n1,he,hr2,h⟩
   exact⟨rs,u,n1,he,hr2.weak fun x hx=>hx.imp id fun h=>by omega,h⟩
  cases ha:L.all (fun f=>formedT f.2) with
  | false=>
   rw[ha,if_neg (by decide)] at h
   rw[if_neg (fun h=>by cases h.2.1),if_neg (fun h=>by cases h.2)]
   exact h.mono fun e w' h=>h.res
  | true=>
   rw[ha,if_pos rfl] at h
   by_cases hn:fillN (lookD L) p≤4096
   ·rw[if_pos hn] at h
    rw[if_pos ⟨rfl,rfl,hn⟩,if_pos ⟨rfl,rfl⟩,if_pos hn]
    exact h.mono fun e w' h=>h.res
   ·rw[if_neg hn] at h
    rw[if_neg (fun h=>hn h.2.2),if_pos ⟨rfl,rfl⟩,if_neg hn]
    exact h.mono fun e w' h=>h.res
theorem fills_all {K K':Nat→Prop} {w:World} {p:Ty} {cs:List Value} {L:List (ByteArray×Ty)} {AL:Option Addr} {cL:Nat} (hr:RepT K w p cs) (hL:ListD K' w L AL cL) :
  Calls Tryz.prog 3 #[.agg cs.toArray,.slice AL L.length cL] w (fun e w'=>e=.returned (.bool true)∧Below w.heap.size w w'):=
 fills_walk (RepT.low _ _ hr) hL.low ⟨ansF (lookD L) p L,errF (lookD L) p L,fun wx hx=>cFill_ok ((RepT.low _ _ hr).later hx) (hL.low.later hx) (fun x h=>Nat.lt_of_lt_of_le (h.elim id id) hx.size),fun wx A' c' hx hL'=>rFill_ok ((RepT.low _ _ hr).later hx) hL' (fun x h=>h.elim (fun h=>Nat.lt_of_lt_of_le h hx.size) id)⟩
end Go.Proofs.YtlpfpehegddcfaaGreatDoor

import Derived.Test.YtlpfpehegddcfaaGreatDoorMn34
import Derived.KernelRfl
namespace Go.Proofs.YtlpfpehegddcfaaGreatDoor
set_option maxRecDepth 100000
set_option maxHeartbeats 64000000
open Go.RowKit
structure PlF (P:Nat→Prop) (w:World) (g:Nat) (l:FsT):Prop where
 lt:g<w.heap.size
 cell:∀ y,y<l.length*8→∃ v,w.cell? ⟨g,y,none⟩=some v
 free:∀ y,w.frozen? ⟨g,y,none⟩=false
 reps:∀ i (h:i<l.length),w.cell? ⟨g,i*8,none⟩=some (.string l[i].1)∧w.cell? ⟨g,i*8+1,none⟩=some (.int .i64 l[i].2.1)∧l[i].1.size≤1000000000000000∧∃ cs,RepT P w l[i].2.2 cs∧∀ j u,cs[j]?=some u→w.cell? ⟨g,i*8+2+j,none⟩=some u
theorem PlF.weak {P P':Nat→Prop} {w:World} {g:Nat} {l:FsT} (h:PlF P w g l) (hp:∀ x,P x→P' x):PlF P' w g l:=
 ⟨h.lt,h.cell,h.free,fun i hi=>by obtain⟨h1,h2,h3,cs,h4,h5⟩:=h.reps i hi;exact⟨h1,h2,h3,cs,h4.weak hp,h5⟩⟩
theorem PlF.but {P O:Nat→Prop} {w w':World} {g:Nat} {l:FsT} (h:PlF P w g l) (hb:ButG O w w') (hg:¬ O g) (hp:∀ x,P x→¬ O x):PlF P w' g l:=
 ⟨Nat.lt_of_lt_of_le h.lt hb.size,fun y hy=>by obtain⟨v,hv⟩:=h.cell y hy;exact⟨v,hb.cell hg hv⟩,fun y=>frozen_block (hb.block g h.lt hg) (h.free y),
  fun i hi=>by obtain⟨h1,h2,h3,cs,h4,h5⟩:=h.reps i hi;exact⟨hb.cell hg h1,hb.cell hg h2,h3,cs,h4.but hb fun x hx=>⟨hp x hx,hx⟩,fun j u hj=>hb.cell hg (h5 j u hj)⟩⟩
theorem PlF.set {P:Nat→Prop} {w:World} {g i:Nat} {l:FsT} {t:Ty} {v0 v1 v2 v3 v4 v5:Value} (h:PlF P w g l) (hP:∀ x,P x→x≠g) (hi:i<l.length) (ht:RepT P w t [v0,v1,v2,v3,v4,v5]):PlF P (put6 w g (i*8+2) v0 v1 v2 v3 v4 v5) g (l.set i ((l[i]'hi).1,(l[i]'hi).2.1,t)):=by
 refine⟨by rw[put6_size];exact h.lt,fun y hy=>?_,fun y=>?_,fun k hk=>?_⟩
 ·rw[List.length_set] at hy
  exact some_set (some_set (some_set (some_set (some_set (some_set (h.cell y hy))))))
 ·simp only[put6,World.frozen?_setCell]
  exact h.free y
 ·rw[List.length_set] at hk
  obtain⟨h1,h2,h3,cs,h4,h5⟩:=h.reps k hk
  have h6:=h4.six
  have f1:(put6 w g (i*8+2) v0 v1 v2 v3 v4 v5).cell? ⟨g,k*8,none⟩=w.cell? ⟨g,k*8,none⟩:=put6_far (.inr (by show k*8<i*8+2∨i*8+2+6≤k*8;omega))
  have f2:(put6 w g (i*8+2) v0 v1 v2 v3 v4 v5).cell? ⟨g,k*8+1,none⟩=w.cell? ⟨g,k*8+1,none⟩:=put6_far (.inr (by show k*8+1<i*8+2∨i*8+2+6≤k*8+1;omega))
  by_cases e:i=k
  ·subst e
   rw[f1,f2]
   simp only[List.getElem_set_self]
   exact⟨h1,h2,h3,_,rep_put6 hP ht,fun j u hj=>put6_at (fun x hx=>h.cell _ (by omega)) j u hj⟩
  ·rw[f1,f2]
   simp only[List.getElem_set_ne e]
   refine⟨h1,h2,h3,cs,rep_put6 hP h4,fun j u hj=>?_⟩
   have hj6:=(List.getElem?_eq_some_iff.1 hj).1
   rw[put6_far (.inr (by show k*8+2+j<i*8+2∨i*8+2+6≤k*8+2+j;omega))]
   exact h5 j u hj
theorem PlF.list {P:Nat→Prop} {w:World} {g c:Nat} {l:FsT} (h:PlF P w g l) (hc:l.length≤c) (hl:l.length≤1000000000000000):ListF (fun x=>P x∨x=g) w l (some ⟨g,0,none⟩) c:=
 ⟨g,0,⟨hc,hl,(fun h=>by cases h),fun _=>⟨rfl,.inr rfl⟩⟩,fun i hi=>by
  obtain⟨h1,h2,h3,cs,h4,h5⟩:=h.reps i hi
  refine⟨by rw[Nat.zero_add];exact h1,by rw[Nat.zero_add];exact h2,h3,cs,fun j u hj=>by rw[Nat.zero_add];exact h5 j u hj,h4.weak fun b hb=>.inl hb⟩⟩
theorem field_cells {K:Nat→Prop} {w:World} {b o:Nat}:∀ {l:FsT} (_:∀ i (h:i<l.length),w.cell? ⟨b,o+i*8,none⟩=some (.string l[i].1)∧w.cell? ⟨b,o+i*8+1,none⟩=some (.int .i64 l[i].2.1)∧l[i].1.size≤1000000000000000∧AtT K w l[i].2.2 b (o+i*8+2)) (n:Nat),n≤l.length →
  ∃ news:List Value,news.length=n*8∧(∀ j u,news[j]?=some u→w.cell? ⟨b,o+j,none⟩=some u)∧(∀ u∈news,u.oneCell'=true)∧∀ i (h:i<l.length),i<n→news[i*8]?=some (.string l[i].1)∧news[i*8+1]?=some (.int .i64 l[i].2.1)∧∃ cs,RepT K w l[i].2.2 cs∧∀ j u,cs[j]?=some u→news[i*8+2+j]?=some u:=by
 intro l h n
 induction n with
 | zero=>intro _;exact⟨[],rfl,fun j u h=>by simp at h,fun u h=>by simp at h,fun i _ h=>absurd h (by omega)⟩
 | succ n ih=>
  intro hn
  obtain⟨news,h1,h2,h3,h4⟩:=ih (by omega)
  obtain⟨hs,hi,-,cs,h5,h6⟩:=h n (by omega)
  have h7:=h6.six
  refine⟨news++(.string (l[n]'(by omega)).1 :: .int .i64 (l[n]'(by omega)).2.1 :: cs),by rw[List.length_append,List.length_cons,List.length_cons];omega,fun j u hj=>?_,fun u hu=>?_,fun i hi2 hin=>?_⟩
  ·by_cases hlt:j<news.length
   ·rw[List.getElem?_append_left hlt] at hj;exact h2 j u hj
   ·rw[List.getElem?_append_right (by omega)] at hj
    obtain⟨q,hq⟩:∃ q,q=j - news.length:=⟨_,rfl⟩
    rw[←hq] at hj
    rcases q with _ | _ | q
    ·obtain rfl:Value.string _=u:=by simpa using hj
     rw[←hs];congr 2;omega
    ·obtain rfl:Value.int .i64 _=u:=by simpa using hj
     rw[←hi];congr 2;omega
    ·rw[List.getElem?_cons_succ,List.getElem?_cons_succ] at hj
     have:=h5 _ _ hj
     rw[←this];congr 2;omega
  ·rcases List.mem_append.1 hu with hu | hu
   ·exact h3 u hu
   ·rcases List.mem_cons.1 hu with rfl | hu
    ·rfl
    ·rcases List.mem_cons.1 hu with rfl | hu
     ·rfl
     ·exact one_cells h6 u hu
  ·by_cases hlt:i<n
   ·obtain⟨e1,e2,cs',h8,h9⟩:=h4 i hi2 hlt
    have lift:∀ j u,news[j]?=some u→(news++(.string (l[n]'(by omega)).1 :: .int .i64 (l[n]'(by omega)).2.1 :: cs))[j]?=some u:=fun j u hj=>by
     rw[List.getElem?_append_left (List.getElem?_eq_some_iff.1 hj).1];exact hj
    exact⟨lift _ _ e1,lift _ _ e2,cs',h8,fun j u hj=>lift _ _ (h9 j u hj)⟩
   ·obtain rfl:i=n:=by omega
    refine⟨?_,?_,cs,h6,fun j u hj=>?_⟩
    ·rw[List.getElem?_append_right (by omega),show i*8 - news.length=0 from by omega];rfl
    ·rw[List.getElem?_append_right (by omega),show i*8+1 - news.length=1 from by omega];rfl
    ·rw[List.getElem?_append_right (by omega),show i*8+2+j - news.length=j+2 from by omega,List.getElem?_cons_succ,List.getElem?_cons_succ];exact hj
theorem clone_fields {K:Nat→Prop} {w:World} {l:FsT} {b o c:Nat} (hL:∀ i (h:i<l.length),w.cell? ⟨b,o+i*8,none⟩=some (.string l[i].1)∧w.cell? ⟨b,o+i*8+1,none⟩=some (.int .i64 l[i].2.1)∧l[i].1.size≤1000000000000000∧AtT K w l[i].2.2 b (o+i*8+2)) (hn:l.length≤1000000) :
  Calls Tryz.prog 67 #[.slice (some ⟨b,o,none⟩) l.length c] w fun e w'=>∃ g c',e=.returned (.slice (some ⟨g,0,none⟩) l.length c')∧w.heap.size≤g∧l.length≤c'∧PlF K w' g l∧Below w.heap.size w w':=by
 obtain⟨news,h1,h2,h3,h4⟩:=field_cells hL l.length (Nat.le_refl _)
 refine (clone_fl ⟨b,o,none⟩ l.length c news w hn h1 h3 fun j u hj=>?_).mono ?_
 ·have e2:((⟨b,o,none⟩:Addr).add j)=⟨b,o+j,none⟩:=by unfold Addr.add;by_cases h0:j=0 <;> simp[h0]
  rw[e2];exact h2 j u hj
 ·rintro e w' ⟨g,c',rfl,hg,hgl,hc,hown,hb⟩
  refine⟨g,c',rfl,hg,hc,?_,hb⟩
  rcases hown.2 with ⟨hv,hz⟩ | ⟨g',cap,cur,hv,hB,hh,hle,hmax,hsz,htk⟩
  ·cases hv
  ·injection hv with hv _ _
   injection hv with hv
   injection hv with hv
   subst hv
   have hcell:∀ y u,news[y]?=some u→w'.cell? ⟨g,y,none⟩=some u:=fun y u hy=>by
    rw[←htk,List.getElem?_take] at hy
    split at hy
    ·rw[Ch hh];simpa using hy
    ·cases hy
   refine⟨hgl,fun y hy=>?_,fun y=>Lib.frozen_of_heap hh y,fun i hi=>?_⟩
   ·have hy2:y<news.length:=by omega
    exact⟨news[y],hcell y _ (List.getElem?_eq_getElem hy2)⟩
   ·obtain⟨e1,e2,cs,h5,h6⟩:=h4 i hi hi
    exact⟨hcell _ _ e1,hcell _ _ e2,(hL i hi).2.2.1,cs,h5.later hb,fun j u hj=>hcell _ u (h6 j u hj)⟩
theorem own_free {w:World} {B n c z g:Nat} {T:TypeId} {xs:List Value} (h:w.ownsRow B T z (.slice (some ⟨g,0,none⟩) n c) n xs):∀ y,w.frozen? ⟨g,y,none⟩=false:=fun y=>by
 rcases h.2 with ⟨hv,hz⟩ | ⟨g',cap,cur,hv,hB,hh,r⟩
 ·cases hv
 ·injection hv with hv _ _
  injection hv with hv
  injection hv with hv
  subst hv
  exact Lib.frozen_of_heap hh y
theorem clone_parts {K:Nat→Prop} {w:World} {l:List Ty} {A:Option Addr} {c:Nat} (hL:ListT K w l A c) (hn:l.length≤1000000) :
  Calls Tryz.prog 66 #[.slice A l.length c] w fun e w'=>∃ A' c',e=.returned (.slice A' l.length c')∧Below w.heap.size w w'∧((l=[]∧A'=none∧c'=0)∨∃ g,A'=some ⟨g,0,none⟩∧w.heap.size≤g∧l.length≤c'∧PlT K w' g l):=by
 by_cases h0:0<l.length
 ·obtain⟨b,o,rfl,-,hat⟩:=hL.at h0
  refine (clone_types hat hn).mono ?_
  rintro e w' ⟨g,c',rfl,h1,h2,h3,h4⟩
  exact⟨_,c',rfl,h4,.inr ⟨g,rfl,h1,h2,h3⟩⟩
 ·have hl:l=[]:=List.eq_nil_of_length_eq_zero (by omega)
  subst hl
  obtain⟨b,o,hrow,-⟩:=hL
  rcases A with _ | ad
  ·obtain rfl:=hrow.none rfl
   refine (clone_ty_nil w).mono ?_
   rintro e w' ⟨rfl,rfl⟩
   exact⟨none,0,rfl,Below.refl _ _,.inl ⟨rfl,rfl,rfl⟩⟩
  ·refine (clone_ty ad 0 c [] w (by omega) rfl (fun u hu=>by cases hu) fun j u hj=>by simp at hj).mono ?_
   rintro e w' ⟨g,c',rfl,hg,hgl,hc,hown,hb⟩
   exact⟨_,c',rfl,hb,.inr ⟨g,rfl,hg,hc,⟨hgl,fun y hy=>absurd hy (by simp),own_free hown,fun i hi=>absurd hi (by simp)⟩⟩⟩
theorem clone_fieldsO {K:Nat→Prop} {w:World} {l:FsT} {A:Option Addr} {c:Nat} (hL:ListF K w l A c) (hn:l.length≤1000000) :
  Calls Tryz.prog 67 #[.slice A l.length c] w fun e w'=>∃ A' c',e=.returned (.slice A' l.length c')∧Below w.heap.size w w'∧((l=[]∧A'=none∧c'=0)∨∃ g,A'=some ⟨g,0,none⟩∧w.heap.size≤g∧l.length≤c'∧PlF K w' g l):=by
 by_cases h0:0<l.length
 ·obtain⟨b,o,rfl,-,hat⟩:=hL.at h0
  refine (clone_fields hat hn).mono ?_
  rintro e w' ⟨g,c',rfl,h1,h2,h3,h4⟩
  exact⟨_,c',rfl,h4,.inr ⟨g,rfl,h1,h2,h3⟩⟩
 ·have hl:l=[]:=List.eq_nil_of_length_eq_zero (by omega)
  subst hl
  obtain⟨b,o,hrow,-⟩:=hL
  rcases A with _ | ad
  ·obtain rfl:=hrow.none rfl
   refine (clone_fl_nil w).mono ?_
   rintro e w' ⟨rfl,rfl⟩
   exact⟨none,0,rfl,Below.refl _ _,.inl ⟨rfl,rfl,rfl⟩⟩
  ·refine (clone_fl ad 0 c [] w (by omega) rfl (fun u hu=>by cases hu) fun j u hj=>by simp at hj).mono ?_
   rintro e w' ⟨g,c',rfl,hg,hgl,hc,hown,hb⟩
   exact⟨_,c',rfl,hb,.inr ⟨g,rfl,hg,hc,⟨hgl,fun y hy=>absurd hy (by simp),own_free hown,fun i hi=>absurd hi (by simp)⟩⟩⟩
theorem of14 (k:Int) (w:World):Calls Tryz.prog 33 #[.int .i64 k] w fun e w'=>e=.returned (.agg #[.int .i64 k,.string ⟨#[]⟩,.int .i64 0,.slice none 0 0,.slice none 0 0,.slice none 0 0])∧Below w.heap.size w w':=by
 go_enter Tryz.func33,Tryz.ntmps33
 go_wp2_with fail
 exact bodyPost_ret (v:=.agg #[.int .i64 k,.string ⟨#[]⟩,.int .i64 0,.slice none 0 0,.slice none 0 0,.slice none 0 0]) (by simp[results,Tryz.results33,go_sem]) rfl ⟨rfl,(Below.refl _ _).alloc (Nat.le_refl _) _⟩
theorem infer14 (s:ByteArray) (w:World):Calls Tryz.prog 34 #[.string s] w fun e w'=>e=.returned (.agg #[.int .i64 22,.string s,.int .i64 0,.slice none 0 0,.slice none 0 0,.slice none 0 0])∧Below w.heap.size w w':=by
 go_enter Tryz.func34,Tryz.ntmps34
 go_wp2_with fail
 exact bodyPost_ret (v:=.agg #[.int .i64 22,.string s,.int .i64 0,.slice none 0 0,.slice none 0 0,.slice none 0 0]) (by simp[results,Tryz.results34,go_sem]) rfl ⟨rfl,(Below.refl _ _).alloc (Nat.le_refl _) _⟩
theorem same14 {K K':Nat→Prop} {w:World} {t q:Ty} {cs ds:List Value} (hr:RepT K w t cs) (hp:RepT K' w q ds) :
  Calls Tryz.prog 12 #[.agg cs.toArray,.agg ds.toArray] w fun e w'=>e=.returned (.bool (ordT t q == 0))∧Below w.heap.size w w':=by
 have KO:=Hd fun wx (hx:Below w.heap.size w wx)=>order_ref t K K' q wx cs ds (hr.later hx) (hp.later hx)
 generalize ordT t q=z at KO
 obtain⟨k,s,n,ps,fs,vs⟩:=t
 obtain⟨A,c,A',c',A'',c'',rfl,-⟩:=hr.inv
 obtain⟨k3,s3,n3,ps3,fs3,vs3⟩:=q
 obtain⟨A3,c3,B3,d3,C3,e3,rfl,-⟩:=hp.inv
 simp only[cells6T] at KO ⊢
 obtain⟨w1,hw1⟩:∃ x,x=(w.alloc (.cells #[.int .i64 k,.string s,.int .i64 n,.slice A ps.length c,.slice A' fs.length c',.slice A'' vs.length c''] 26)).alloc (.cells #[.int .i64 k3,.string s3,.int .i64 n3,.slice A3 ps3.length c3,.slice B3 fs3.length d3,.slice C3 vs3.length e3] 26):=⟨_,rfl⟩
 have hb1:Below w.heap.size w w1:=by rw[hw1];exact ((Below.refl _ _).alloc (Nat.le_refl _) _).alloc (by simp) _
 have hx0:w1.heap[w.heap.size]?=some (.cells #[.int .i64 k,.string s,.int .i64 n,.slice A ps.length c,.slice A' fs.length c',.slice A'' vs.length c''] 26 (0,0)):=by rw[hw1,Below.heap_alloc _ _ _ (by simp)];exact heap_alloc_new w _
 have hy0:w1.heap[w.heap.size+1]?=some (.cells #[.int .i64 k3,.string s3,.int .i64 n3,.slice A3 ps3.length c3,.slice B3 fs3.length d3,.slice C3 vs3.length e3] 26 (0,0)):=by
  rw[hw1]
  have h:=heap_alloc_new (w.alloc (.cells #[.int .i64 k,.string s,.int .i64 n,.slice A ps.length c,.slice A' fs.length c',.slice A'' vs.length c''] 26)) (.cells #[.int .i64 k3,.string s3,.int .i64 n3,.slice A3 ps3.length c3,.slice B3 fs3.length d3,.slice C3 vs3.length e3] 26)
  rw[World.size_alloc] at h
  exact h
 have HB1:=Hd hb1
 have HX0:=Hd hx0
 have HY0:=Hd hy0
 have HW1:=Hd hw1
 clear hr hp hb1 hx0 hy0 hw1
 go_enter Tryz.func12,Tryz.ntmps12
 go_upto_region 1 with fail
 rw[←HW1.out]
 obtain⟨x0,x1,x2,x3,x4,x5⟩:=cz6 HX0.out
 obtain⟨y0,y1,y2,y3,y4,y5⟩:=cz6 HY0.out
 go_wp2_with fail
 refine (KO.out _ HB1.out).mono ?_
 rintro e w2 ⟨rfl,hg⟩
 have HB2:=Hd (HB1.out.trans (hg.below.mono HB1.out.size))
 clear hg KO x0 x1 x2 x3 x4 x5 y0 y1 y2 y3 y4 y5
 go_wp2_with fail
 go_ret
 exact⟨rfl,HB2.out⟩
theorem nilF4 (K:Nat→Prop) (w:World):ListF K w [] none 0:=⟨⟨0,0,⟨by simp,by decide,fun _=>rfl,fun h=>absurd h (by simp)⟩,fun i h=>absurd h (by simp)⟩⟩
theorem nilV4 (K:Nat→Prop) (w:World):ListV K w [] none 0:=⟨⟨0,0,⟨by simp,by decide,fun _=>rfl,fun h=>absurd h (by simp)⟩,fun i h=>absurd h (by simp)⟩⟩
theorem nilT4 (K:Nat→Prop) (w:World):ListT K w [] none 0:=⟨⟨0,0,⟨by simp,by decide,fun _=>rfl,fun h=>absurd h (by simp)⟩,fun i h=>absurd h (by simp)⟩⟩
theorem rep_arr {K:Nat→Prop} {w:World} {q:Ty} {cs:List Value} {g:Nat} (hq:RepT K w q cs) (hlo:∀ b,K b→b<w.heap.size) (hh:w.heap[g]?=some (.cells cs.toArray 26 (0,0))) :
  RepT (fun b=>b<w.heap.size) w (arrT q) [.int .i64 11,.string ⟨#[]⟩,.int .i64 0,.slice (some ⟨g,0,none⟩) 1 1,.slice none 0 0,.slice none 0 0]:=
 RepT.of (by decide) ((list_lit hq (Below.refl _ _) hlo hh).weak fun b hb=>hb.elim (hlo b) fun e=>e ▸ (Array.getElem?_eq_some_iff.1 hh).1) (nilF4 _ w) (nilV4 _ w)
theorem rep_inf (K:Nat→Prop) (w:World) (s:ByteArray) (hs:s.size≤1000000000000000):RepT K w (infV s) [.int .i64 22,.string s,.int .i64 0,.slice none 0 0,.slice none 0 0,.slice none 0 0]:=
 RepT.of hs (nilT4 K w) (nilF4 K w) (nilV4 K w)
def vB:ByteArray:=⟨#[86]⟩
theorem name_v:nameT vB=true:=by kernel_rfl
theorem formed_of {t:Ty} (h:formT t=true) (hc:cntT t≤4096):formedT t=true:=by unfold formedT;rw[h,decide_eq_true hc];rfl
theorem std_one {t:Ty} (h:formT t=true):stdT [t]=t:=by unfold stdT;rw[if_neg (by simp)];exact union_self h
theorem flat_gat (s:ByteArray) (G:List (ByteArray×Ty)) {n:Nat} (h:cntL (G.map (·.2))≤n) (hn:n≤1099511627776):(flatU (gatN s G)).length≤1099511627776:=by
 have h1:=(flatU_cnt (gatN s G)).1
 have h2:=cnt_gatN s G
 omega
theorem cg_arr {K K':Nat→Prop} {w:World} {q:Ty} {cs ds:List Value} (hr:RepT K w (arrT q) cs) (hp:RepT K' w (arrT (infV vB)) ds) (hlo:∀ b,K b→b<w.heap.size) (hlo':∀ b,K' b→b<w.heap.size) (hq:formT q=true) (hc:cntT q≤4000) :
  Calls Tryz.prog 32 #[.agg cs.toArray,.agg ds.toArray] w (CgP w [vB] [(vB,q)]):=by
 have h:=cgather_few hr hp hlo hlo' (formed_of (form_arrT hq) (by rw[cnt_arrT];omega)) (formed_of (form_arrT (form_infV name_v)) (by rw[cnt_arrT,cnt_infV];omega)) (hold_arr vB q) (by rw[cnt_arrT,cnt_arrT,cnt_infV];omega) (by rw[gath_arr];simp) (by rw[names_arrT,names_infV];simp) (by rw[names_arrT,names_infV];intro x hx;rw[List.mem_singleton.1 hx];decide) (fun s=>flat_gat s _ (n:=4000) (by rw[gath_arr,List.map_cons,List.map_nil,cntL_cons,cntL_nil];omega) (by omega))
 rw[names_arrT,names_infV,gath_arr] at h
 exact h
theorem awake14 (w:World):Calls Tryz.prog 9 #[] w fun e w'=>e=.returned (.bool true)∧Below w.heap.size w w':=by
 go_enter Tryz.func9,Tryz.ntmps9
 go_wp2_with fail
 refine (of14 7 _).mono ?_
 rintro e w1 ⟨rfl,hb1⟩
 have HB1:=Hd hb1
 clear hb1
 go_wp2_with fail
 refine (infer14 _ _).mono ?_
 rintro e w3 ⟨rfl,hb3⟩
 have hx:w3.heap[w1.heap.size]?=some (.cells #[.int .i64 7,.string ⟨#[]⟩,.int .i64 0,.slice none 0 0,.slice none 0 0,.slice none 0 0] 26 (0,0)):=box_up hb3 (by simp) (heap_alloc_new w1 _)
 have HX:=Hd hx
 have HB3:=Hd (HB1.out.trans ((((Below.refl w1.heap.size w1).alloc (Nat.le_refl _) _).trans (hb3.mono (by simp))).mono HB1.out.size))
 clear hx hb3
 go_wp2_with fail
 obtain⟨w4,hw4⟩:∃ x,x=w3.alloc (.cells #[.int .i64 22,.string ⟨#[86]⟩,.int .i64 0,.slice none 0 0,.slice none 0 0,.slice none 0 0] 26):=⟨_,rfl⟩
 have hb4:Below w3.heap.size w3 w4:=by rw[hw4];exact (Below.refl _ _).alloc (Nat.le_refl _) _
 have hr:=rep_arr (rep_k (fun _=>False) w4 7) (fun _ h=>h.elim) (box_up hb4 (Array.getElem?_eq_some_iff.1 HX.out).1 HX.out)
 have hp:=rep_arr (rep_inf (fun _=>False) w4 vB (by decide)) (fun _ h=>h.elim) (g:=w3.heap.size) (by rw[hw4];exact heap_alloc_new w3 _)
 have HB4:=Hd (HB3.out.trans (hb4.mono HB3.out.size))
 have KG:=Hd (cg_arr hr hp (fun _ h=>h) (fun _ h=>h) (form_tyK (by decide) (by decide)) (by rw[cnt_kind];decide))
 rw[←hw4]
 clear hr hp hb4 hw4
 refine KG.out.mono ?_
 rintro e w5 ⟨hb5,hres⟩
 rcases hres with ⟨h,_⟩ | ⟨s,g,c,rs,hs,rfl,hc,hrr⟩
 ·cases h
 ·obtain rfl:vB=s:=(List.cons.inj hs).1
  rw[gatN_one,if_pos rfl,std_one (form_tyK (by decide) (by decide))] at hrr
  obtain⟨A7,c7,B7,d7,C7,e7,rfl,-⟩:=RepT.inv (k:=7) (t:=emptyB) (n:=0) (ps:=[]) (fs:=[]) (vs:=[]) hrr
  have z0:w5.cell? ⟨g,0,none⟩=some (.string ⟨#[86]⟩):=hc 0 _ rfl
  have z1:w5.cell? ⟨g,1,none⟩=some (.int .i64 7):=hc 1 _ rfl
  have HB5:=Hd (HB4.out.trans (hb5.mono HB4.out.size))
  clear hb5 hc hrr hs KG HX
  go_wp2_with fail
  go_ret
  exact⟨rfl,HB5.out⟩
theorem cfill_bad {K:Nat→Prop} {w:World} {p:Ty} {cs:List Value} {v:Value} (hr:RepT K w p cs) (hft:formedT p=false) :
  Calls Tryz.prog 10 #[.agg cs.toArray,v] w (ErrPost w 4):=by
 have KF0:=fun wx (hx:Below w.heap.size w wx)=>Formed_any (hr.later hx)
 rw[hft] at KF0
 unfold ErrPost
 obtain⟨k,s,n,ps,fs,vs⟩:=p
 refine one_res hr fun A c B d C e w1 g h hcs=>?_
 subst hcs
 obtain⟨HX,HY,HB1,HS1,HG,HW1,-⟩:=h
 have KF:=Hd (KF0 w1 HB1.out)
 clear hr hft KF0
 go_enter Tryz.func10,Tryz.ntmps10
 go_upto_region 1 with fail
 rw[←HW1.out,←HG.out]
 obtain⟨x0,x1,x2,x3,x4,x5⟩:=HX.out _ (Below.refl _ _)
 go_wp2_with fail
 refine KF.out.mono ?_
 rintro e w2 ⟨rfl,hb2⟩
 have HB12:=Hd hb2
 clear hb2 KF x0 x1 x2 x3 x4 x5
 have rb:=box_up HB12.out (by have:=HS1.out;omega) HY.out
 obtain⟨q0,q1,q2,q3,q4,q5,z0,z1,z2,z3,z4,z5⟩:=qz6 rb
 have RBX:=Hd rb
 clear rb
 go_wp2_with fail
 obtain⟨r0,r1,r2,r3,r4,r5⟩:=cz6 (six_set RBX.out (.int .i64 0) (.string ⟨#[]⟩) (.int .i64 0) (.slice none 0 0) (.slice none 0 0) (.slice none 0 0))
 clear q0 q1 q2 q3 q4 q5 z0 z1 z2 z3 z4 z5 RBX
 refine bodyPost_ret (v:=.tuple #[.agg #[.int .i64 0,.string ⟨#[]⟩,.int .i64 0,.slice none 0 0,.slice none 0 0,.slice none 0 0],.int .i64 4]) (by simp[results,Tryz.results10,go_sem,r0,r1,r2,r3,r4,r5]) rfl ?_
 clear r0 r1 r2 r3 r4 r5
 exact⟨rfl,set_six_below (HB1.out.trans (HB12.out.mono HB1.out.size)) (by have:=HG.out;omega) _ _ _ _ _ _⟩
theorem ListD.vals {K:Nat→Prop} {w:World} {L:List (ByteArray×Ty)} {A:Option Addr} {c:Nat} (h:ListD K w L A c):∃ V:Nat→Value,V 0=.agg #[.int .i64 0,.string ⟨#[]⟩,.int .i64 0,.slice none 0 0,.slice none 0 0,.slice none 0 0]∧∃ b o,(0<L.length→A=some ⟨b,o,none⟩∧K b)∧∀ i (hi:i<L.length),w.cell? ⟨b,o+i*7,none⟩=some (.string L[i].1)∧L[i].1.size≤1000000000000000∧∃ cs:List Value,V (i+1)=.agg cs.toArray∧RepT K w L[i].2 cs∧∀ j u,cs[j]?=some u→w.cell? ⟨b,o+i*7+1+j,none⟩=some u:=by
 obtain⟨b,o,h1,h2⟩:=h
 have hch:∀ i:Nat,∃ v:Value,∀ hi:i<L.length,∃ cs:List Value,v=.agg cs.toArray∧RepT K w L[i].2 cs∧∀ j u,cs[j]?=some u→w.cell? ⟨b,o+i*7+1+j,none⟩=some u:=fun i=>by
  by_cases hi:i<L.length
  ·obtain⟨_,_,cs,h5,h6⟩:=h2 i hi
   exact⟨.agg cs.toArray,fun _=>⟨cs,rfl,h6,h5⟩⟩
  ·exact⟨.agg #[],fun h=>absurd h hi⟩
 refine⟨fun i=>match i with
  | 0=>.agg #[.int .i64 0,.string ⟨#[]⟩,.int .i64 0,.slice none 0 0,.slice none 0 0,.slice none 0 0]
  | i+1=>Classical.choose (hch i),rfl,b,o,h1.some,fun i hi=>?_⟩
 obtain⟨h3,h4,-⟩:=h2 i hi
 exact⟨h3,h4,Classical.choose_spec (hch i) hi⟩
end Go.Proofs.YtlpfpehegddcfaaGreatDoor

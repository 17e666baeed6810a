import Derived.Test.YtlpfpehegddcfaaGreatDoorMn43
namespace Go.Proofs.YtlpfpehegddcfaaGreatDoor
set_option maxRecDepth 100000
set_option maxHeartbeats 64000000
open Go.RowKit
theorem ListT.void {K K':Nat→Prop} {w w':World} {l:List Ty} {A:Option Addr} {c:Nat} (h:ListT K w l A c) (h0:l.length=0):ListT K' w' l A c:=by
 obtain⟨b,o,h1,-⟩:=h
 exact⟨b,o,⟨h1.le,h1.big,h1.none,fun h=>absurd h (by omega)⟩,fun i hi=>absurd hi (by omega)⟩
theorem ListF.void {K K':Nat→Prop} {w w':World} {l:FsT} {A:Option Addr} {c:Nat} (h:ListF K w l A c) (h0:l.length=0):ListF K' w' l A c:=by
 obtain⟨b,o,h1,-⟩:=h
 exact⟨b,o,⟨h1.le,h1.big,h1.none,fun h=>absurd h (by omega)⟩,fun i hi=>absurd hi (by omega)⟩
theorem Exact.stp {α β:Type} {n M m n1:Nat} {S L:α} {u x:β} {f:α→β→α} (h:Exact n M S L) (h2:Exact n1 (n+m) u x):Exact n1 (M+m) (f S u) (f L x):=by
 refine⟨fun h'=>?_,fun h'=>?_⟩
 ·obtain⟨e1,e2⟩:=h.1 (by omega)
  subst e1
  obtain⟨h3,h4⟩:=h2.1 h'
  exact⟨h3,by rw[e2,h4]⟩
 ·by_cases hM:M≤4096
  ·obtain⟨e1,-⟩:=h.1 hM
   subst e1
   exact h2.2 h'
  ·have:=h.2 (by omega)
   exact h2.2 (by omega)
theorem FilM.to {K:Nat→Prop} {w w':World} {m n n1:Nat} {V:Nat→Value} {h0:V 0=.agg #[.int .i64 0,.string ⟨#[]⟩,.int .i64 0,.slice none 0 0,.slice none 0 0,.slice none 0 0]} {L:List (ByteArray×Ty)} (h:FilM K w m n V h0 L) (hb:ButG (fun x=>x=m+1) w w') (hx:w'.heap[m+1]?=some (.cells #[.map (some m),.int .i64 n1] 69 (0,0))) (hk:∀ x,K x→x≠m+1):FilM K w' m n1 V h0 L:=
 ⟨hx,h.map.keep (hb.block m h.map.lt (by omega)),fun i hi=>by obtain⟨cs,h3,h4⟩:=h.val i hi;exact⟨cs,h3,h4.but hb fun x hx=>⟨hk x hx,hx⟩⟩⟩
def RowP (P:Nat→Prop) (w:World) (q:Nat) (A:Option Addr) (c:Nat) (S:List Ty):Prop:=(S=[]∧A=none∧c=0)∨∃ g,A=some ⟨g,0,none⟩∧q<g∧S.length≤c∧PlT P w g S
theorem RowP.but {P O:Nat→Prop} {w w':World} {q c:Nat} {A:Option Addr} {S:List Ty} (h:RowP P w q A c S) (hb:ButG O w w') (hg:∀ g,q<g→A=some ⟨g,0,none⟩→¬ O g) (hp:∀ x,P x→¬ O x):RowP P w' q A c S:=
 h.imp id fun ⟨g,e,h1,h2,h3⟩=>⟨g,e,h1,h2,h3.but hb (hg g h1 e) hp⟩
theorem RowP.list {P:Nat→Prop} {w:World} {q c:Nat} {A:Option Addr} {S:List Ty} (h:RowP P w q A c S) (hl:S.length≤1000000000000000):ListT (fun x=>P x∨(q<x∧A=some ⟨x,0,none⟩)) w S A c:=by
 rcases h with ⟨rfl,rfl,rfl⟩ | ⟨g,rfl,h1,h2,h3⟩
 ·exact⟨0,0,⟨Nat.le_refl _,Nat.zero_le _,fun _=>rfl,fun h=>absurd h (by simp)⟩,fun i hi=>absurd hi (by simp)⟩
 ·exact (h3.list h2 hl).weak fun x hx=>hx.imp id fun e=>by rw[e];exact⟨h1,rfl⟩
theorem RowP.get {P:Nat→Prop} {w:World} {q c:Nat} {A:Option Addr} {S:List Ty} (h:RowP P w q A c S) (h0:0<S.length):∃ g,A=some ⟨g,0,none⟩∧q<g∧S.length≤c∧PlT P w g S:=by
 rcases h with ⟨rfl,_⟩ | h
 ·exact absurd h0 (by simp)
 ·exact h
def RowQ (P:Nat→Prop) (w:World) (q:Nat) (A:Option Addr) (c:Nat) (S:FsT):Prop:=(S=[]∧A=none∧c=0)∨∃ g,A=some ⟨g,0,none⟩∧q<g∧S.length≤c∧PlF P w g S
theorem RowQ.but {P O:Nat→Prop} {w w':World} {q c:Nat} {A:Option Addr} {S:FsT} (h:RowQ P w q A c S) (hb:ButG O w w') (hg:∀ g,q<g→A=some ⟨g,0,none⟩→¬ O g) (hp:∀ x,P x→¬ O x):RowQ P w' q A c S:=
 h.imp id fun ⟨g,e,h1,h2,h3⟩=>⟨g,e,h1,h2,h3.but hb (hg g h1 e) hp⟩
theorem RowQ.list {P:Nat→Prop} {w:World} {q c:Nat} {A:Option Addr} {S:FsT} (h:RowQ P w q A c S) (hl:S.length≤1000000000000000):ListF (fun x=>P x∨(q<x∧A=some ⟨x,0,none⟩)) w S A c:=by
 rcases h with ⟨rfl,rfl,rfl⟩ | ⟨g,rfl,h1,h2,h3⟩
 ·exact⟨0,0,⟨Nat.le_refl _,Nat.zero_le _,fun _=>rfl,fun h=>absurd h (by simp)⟩,fun i hi=>absurd hi (by simp)⟩
 ·exact (h3.list h2 hl).but (ButG.refl (fun _=>False) w) fun x hx=>⟨id,hx.imp id fun e=>by rw[e];exact⟨h1,rfl⟩⟩
theorem RowQ.get {P:Nat→Prop} {w:World} {q c:Nat} {A:Option Addr} {S:FsT} (h:RowQ P w q A c S) (h0:0<S.length):∃ g,A=some ⟨g,0,none⟩∧q<g∧S.length≤c∧PlF P w g S:=by
 rcases h with ⟨rfl,_⟩ | h
 ·exact absurd h0 (by simp)
 ·exact h
theorem turn_next {α:Type} {S l:List α} {i:Nat} (hi:i<l.length) (hl:S.length=l.length) (hd:S.drop i=l.drop i) (u:α):S.take (i+1)=S.take i++[l[i]]∧S.drop (i+1)=l.drop (i+1)∧(S.set i u).length=l.length∧(S.set i u).drop (i+1)=l.drop (i+1)∧(S.set i u).take (i+1)=S.take i++[u]:=by
 have hS:i<S.length:=by omega
 rw[List.drop_eq_getElem_cons hi,List.drop_eq_getElem_cons hS] at hd
 injection hd with h1 h2
 refine⟨?_,h2,by rw[List.length_set,hl],?_,?_⟩
 ·rw[List.take_succ_eq_append_getElem hS,h1]
 ·rw[List.drop_set_of_lt (by omega)];exact h2
 ·rw[List.take_succ_eq_append_getElem (by rw[List.length_set];exact hS),List.getElem_set_self,List.take_set_of_le (Nat.le_refl _)]
theorem turn_get {α:Type} {S l:List α} {i:Nat} (hi:i<l.length) (hl:S.length=l.length) (hd:S.drop i=l.drop i):S[i]'(by omega)=l[i]:=by
 have hS:i<S.length:=by omega
 rw[List.drop_eq_getElem_cons hi,List.drop_eq_getElem_cons hS] at hd
 injection hd with h1 h2
theorem fill_parts (F:ByteArray→Option Ty) (k:Int) (n0:Nat) (ps:List Ty):∃ (LF:Nat→List Ty) (MF:Nat→Nat),LF 0=[]∧MF 0=n0+1∧(∀ i (h:i<ps.length),LF (i+1)=LF i++[if k=21∧i=1 then ps[i]'h else fillT F (ps[i]'h)]∧MF (i+1)=MF i+(if k=21∧i=1 then cntT (ps[i]'h) else fillN F (ps[i]'h)))∧LF ps.length=fillPs F k 0 ps∧MF ps.length=n0+1+fillNs F k 0 ps:=by
 refine⟨fun i=>fillPs F k 0 (ps.take i),fun i=>n0+1+fillNs F k 0 (ps.take i),by simp only[List.take_zero];rw[fillPs],by simp only[List.take_zero];rw[fillNs],fun i h=>⟨fillPs_next k ps i h,?_⟩,by simp only[List.take_length],by simp only[List.take_length]⟩
 have:=fillNs_next (F:=F) k ps 0 i h
 rw[Nat.zero_add] at this
 simp only[this];omega
theorem fill_fields (F:ByteArray→Option Ty) (M:Nat) (fs:FsT):∃ (LG:Nat→FsT) (MG:Nat→Nat),LG 0=[]∧MG 0=M∧(∀ i (h:i<fs.length),LG (i+1)=LG i++[((fs[i]'h).1,(fs[i]'h).2.1,fillT F (fs[i]'h).2.2)]∧MG (i+1)=MG i+fillN F (fs[i]'h).2.2)∧LG fs.length=fillFs F fs∧MG fs.length=M+fillNf F fs:=by
 refine⟨fun i=>fillFs F (fs.take i),fun i=>M+fillNf F (fs.take i),by simp only[List.take_zero];rw[fillFs],by simp only[List.take_zero];rw[fillNf_nil];rfl,fun i h=>⟨fillFs_next fs i h,?_⟩,by simp only[List.take_length],by simp only[List.take_length]⟩
 have:=fillNf_next (F:=F) fs i h
 simp only[this];omega
theorem fill_else {F:ByteArray→Option Ty} {k:Int} {s:ByteArray} {n:Int} {ps:List Ty} {fs:FsT} {vs:VsT} (h:k=22→F s=none):fillN F (.mk k s n ps fs vs)=1+(fillNs F k 0 ps+(fillNf F fs+cntV vs))∧fillT F (.mk k s n ps fs vs)=if k=15 then unionT (fillPs F k 0 ps) else .mk k s n (fillPs F k 0 ps) (fillFs F fs) vs:=by
 have hn:¬ (k=22∧(F s).isSome=true):=fun h'=>by rw[h h'.1] at h';cases h'.2
 rw[fillN,fillT,if_neg hn,if_neg hn]
 exact⟨rfl,rfl⟩
theorem cap_exact {α:Type} {n c:Nat} (x:α):Exact (n+capN c) (n+c) x x:=by
 unfold capN
 exact⟨fun h=>⟨by omega,rfl⟩,fun h=>by omega⟩
structure LoA (P:Nat→Prop) (m q:Nat) (k:Int) (s:ByteArray) (n:Int) (v3 v4 v5:Value) (A:Option Addr) (c:Nat) (w1 wr:World) (nn:Nat) (S:List Ty):Prop where
 cnt:wr.heap[m+1]?=some (.cells #[.map (some m),.int .i64 nn] 69 (0,0))
 out:wr.heap[q]?=some (.cells #[.int .i64 k,.string s,.int .i64 n,v3,v4,v5] 26 (0,0))
 row:RowP P wr q A c S
 but:ButG (fun x=>x=m+1) w1 wr
structure LoB (P:Nat→Prop) (m q:Nat) (k:Int) (s:ByteArray) (n:Int) (v3 v4 v5:Value) (A:Option Addr) (c:Nat) (w1 wr:World) (nn:Nat) (S:FsT):Prop where
 cnt:wr.heap[m+1]?=some (.cells #[.map (some m),.int .i64 nn] 69 (0,0))
 out:wr.heap[q]?=some (.cells #[.int .i64 k,.string s,.int .i64 n,v3,v4,v5] 26 (0,0))
 row:RowQ P wr q A c S
 but:ButG (fun x=>x=m+1) w1 wr
theorem PlT.six {P:Nat→Prop} {w:World} {g i:Nat} {l:List Ty} (h:PlT P w g l) (hi:i<l.length):(∃ v,w.cell? ⟨g,i*6,none⟩=some v)∧(∃ v,w.cell? ⟨g,i*6+1,none⟩=some v)∧(∃ v,w.cell? ⟨g,i*6+2,none⟩=some v)∧(∃ v,w.cell? ⟨g,i*6+3,none⟩=some v)∧(∃ v,w.cell? ⟨g,i*6+4,none⟩=some v)∧∃ v,w.cell? ⟨g,i*6+5,none⟩=some v:=
 ⟨h.cell _ (by omega),h.cell _ (by omega),h.cell _ (by omega),h.cell _ (by omega),h.cell _ (by omega),h.cell _ (by omega)⟩
theorem PlF.six {P:Nat→Prop} {w:World} {g i:Nat} {l:FsT} (h:PlF P w g l) (hi:i<l.length):(∃ v,w.cell? ⟨g,i*8+2,none⟩=some v)∧(∃ v,w.cell? ⟨g,i*8+3,none⟩=some v)∧(∃ v,w.cell? ⟨g,i*8+4,none⟩=some v)∧(∃ v,w.cell? ⟨g,i*8+5,none⟩=some v)∧(∃ v,w.cell? ⟨g,i*8+6,none⟩=some v)∧∃ v,w.cell? ⟨g,i*8+7,none⟩=some v:=
 ⟨h.cell _ (by omega),h.cell _ (by omega),h.cell _ (by omega),h.cell _ (by omega),h.cell _ (by omega),h.cell _ (by omega)⟩
theorem jc_a {a p u:Nat} (h:a≤p*4097):a+u*4097≤(p+u)*4097:=by rw[Nat.add_mul];omega
theorem jc_b {n0 nn p u n1:Nat} (h:nn≤n0+1+p*4097) (h1:n1≤nn+u*4097):n1≤n0+1+(p+u)*4097:=by rw[Nat.add_mul];omega
theorem jc_c {n0 nn p u n1:Nat} (h:nn≤n0+1+p*4097) (h1:n1≤nn+u):n1≤n0+1+(p+u)*4097:=by rw[Nat.add_mul];omega
theorem jc_d {n0 nn p c:Nat} (h:nn≤n0+1+p*4097) (hp:p≤c) (hc:1+c≤4096) (hn:n0≤4096):nn≤20000000:=by
 have:p*4097≤4096*4097:=Nat.mul_le_mul_right _ (by omega)
 omega
theorem jc_e {n0 nn p f v q:Nat} (h:nn≤n0+1+q*4097) (hq:q≤p+(f+v)):nn≤n0+(1+(p+(f+v)))*4097:=by
 have:q*4097≤(p+(f+v))*4097:=Nat.mul_le_mul_right _ hq
 rw[Nat.add_mul];omega
theorem jc_f {a p f v u:Nat} (h:a≤p*4097) (hu:u≤a+1):u≤(1+(p+(f+v)))*4097:=by
 rw[Nat.add_mul,Nat.add_mul];omega
theorem jc_g {a c p f v:Nat} (h:a≤p*4097) (h2:c≤f*4097):1+(a+(c+v))≤(1+(p+(f+v)))*4097:=by
 rw[Nat.add_mul,Nat.add_mul,Nat.add_mul];omega
end Go.Proofs.YtlpfpehegddcfaaGreatDoor

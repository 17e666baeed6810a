import Derived.Test.YtjcaeoacgoklmaaDoorGrO
import Derived.Test.YtjcaeoacgoklmaaDoorBg
namespace Go.Proofs.YtjcaeoacgoklmaaDoor
open Go.RowKit
theorem nxt_first {r : Rule} (hk : r.kind ≠ 1) : nxt itoaG r [] = .ask 0 := by
  rw [nxt_nil]
  unfold nxtOk
  rw [if_neg hk]
theorem nxt_bad {r : Rule} {os : List Out} {o : Out} (h : o.e ≠ 0) : nxt itoaG r (os ++ [o]) = .done o := by rw [nxt_snoc, if_pos h]
theorem nxt_bad1 {r : Rule} {o : Out} (h : o.e ≠ 0) : nxt itoaG r [o] = .done o := nxt_bad (os := []) h
theorem nxt_bad2 {r : Rule} {a o : Out} (h : o.e ≠ 0) : nxt itoaG r [a, o] = .done o := nxt_bad (os := [a]) h
theorem nxt_one {r : Rule} (hk : r.kind ≠ 1) {o : Out} (h : o.e = 0) : nxt itoaG r [o] = if r.kind = 2 then .ask (if o.t.size ≠ 0 then 1 else 2) else if r.kind = 3 then .done ⟨itoaG o.t.size, 0⟩ else .ask 1 := by
  have := nxt_snoc itoaG r [] o
  rw [List.nil_append] at this
  rw [this, if_neg (by simpa using h)]
  unfold nxtOk
  rw [if_neg hk]
theorem nxt_two {r : Rule} (hk : r.kind ≠ 1) {a o : Out} (h : o.e = 0) : nxt itoaG r [a, o] = if r.kind = 2 then .done o else if a.t = o.t then .done ⟨r.text, 0⟩ else .done ⟨noneB, 0⟩ := by
  have := nxt_snoc itoaG r [a] o
  rw [show [a] ++ [o] = [a, o] from rfl] at this
  rw [this, if_neg (by simpa using h)]
  unfold nxtOk
  rw [if_neg hk]
theorem size_zero {b : ByteArray} : b.size = 0 ↔ b.toList.isEmpty = true := by
  rw [ByteArray.toList_eq, List.isEmpty_iff]
  constructor
  · intro h
    exact List.eq_nil_of_length_eq_zero (by rw [Array.length_toList]; exact h)
  · intro h
    have := congrArg List.length h
    rw [Array.length_toList] at this
    exact this
set_option maxRecDepth 100000 in
set_option maxHeartbeats 8000000 in
theorem come_join {f : Nat} (hA : AskC f) {L : Lay} {E : Env} {s : St} {av : Nat → Value} {B : List Nat} {W : World} (h : Pre L E s av B f W) {i : Nat} (hi : i < E.rules.length) (hb : (s.nd i).busy = true) (hk : (ruleN E i).kind = 1) (hl : (s.nd i).asked = [])
    (o : Out) (s1 : St) (hq : comeM itoaG (askM itoaG E f) (ruleN E i) i (steps (ruleN E i)) [] s = (o, s1)) :
    Calls Tryd.prog 25 #[.pointer (some ⟨L.G, 0, none⟩), .pointer (some ⟨L.nb i, 0, none⟩)] W (OutPost L E (fun k => k ∈ B ∧ k ≠ i) av W o s1) := by
  have c1 : (W.alloc (.cells #[.string ⟨#[]⟩, .int .i64 0] 53)).cell? ⟨L.nb i, 1, none⟩ = some (.int .i64 1) := by
    have := cell_alloc_of (.cells #[.string ⟨#[]⟩, .int .i64 0] 53) (h.mem.cell hi 1)
    rw [this]
    show some (Value.int .i64 (ruleN E i).kind) = _
    rw [hk]
  have HP := Lib.hid h
  have KJ := Lib.hid (joined_any hA (h.later ((Below.refl _ _).alloc (Nat.le_refl _) (.cells #[.string ⟨#[]⟩, .int .i64 0] 53))) hi hb hk hl o s1 hq)
  clear h hk hl hq
  go_enter Tryd.func25, Tryd.ntmps25
  go_wp2_with fail
  refine KJ.out.mono ?_
  rintro e W3 ⟨av3, rfl, hM3, hF3, hz3⟩
  have HZ3 := Lib.hid hz3
  clear hz3
  have HM3 := Lib.hid hM3
  have HF3 := Lib.hid hF3
  clear hM3 hF3
  obtain ⟨rb, nf, ns⟩ := res_box HP.out.mem (HF3.out)
  have q0 := Lib.cell_of_heap rb 0
  have q1 := Lib.cell_of_heap rb 1
  have z0 := Lib.frozen_of_heap rb 0
  have z1 := Lib.frozen_of_heap rb 1
  have HF := Lib.hid ((FK.below ((Below.refl _ _).alloc (Nat.le_refl _) _)).trans (HF3.out))
  clear rb
  obtain ⟨r0, r1⟩ := two_set (W := W3) q0 q1 (.string o.t) (.int .i64 o.e)
  go_wp2_with fail
  exact bodyPost_ret (v := .agg #[.string o.t, .int .i64 o.e]) (by simp [results, Tryd.results25, go_sem, r0, r1]) rfl ⟨_, rfl, (HM3.out.box nf ns _).box nf ns _, (HF.out.box (Nat.le_refl _) _).box (Nat.le_refl _) _, HZ3.out⟩
set_option maxRecDepth 100000 in
set_option maxHeartbeats 8000000 in
theorem come_pick {f : Nat} (hA : AskC f) {L : Lay} {E : Env} {s : St} {av : Nat → Value} {B : List Nat} {W : World} (h : Pre L E s av B f W) {i : Nat} (hi : i < E.rules.length) (hb : (s.nd i).busy = true) (hk : (ruleN E i).kind = 2) (hl : (s.nd i).asked = [])
    (o : Out) (s1 : St) (hq : comeM itoaG (askM itoaG E f) (ruleN E i) i (steps (ruleN E i)) [] s = (o, s1)) :
    Calls Tryd.prog 25 #[.pointer (some ⟨L.G, 0, none⟩), .pointer (some ⟨L.nb i, 0, none⟩)] W (OutPost L E (fun k => k ∈ B ∧ k ≠ i) av W o s1) := by
  have c1 : (W.alloc (.cells #[.string ⟨#[]⟩, .int .i64 0] 53)).cell? ⟨L.nb i, 1, none⟩ = some (.int .i64 2) := by
    have := cell_alloc_of (.cells #[.string ⟨#[]⟩, .int .i64 0] 53) (h.mem.cell hi 1)
    rw [this]
    show some (Value.int .i64 (ruleN E i).kind) = _
    rw [hk]
  have hro := ruleN_ok h.ok i hi
  have hrl : 3 ≤ (ruleN E i).refs.length := by have := hro.ok; unfold okR at this; omega
  have hk1 : (ruleN E i).kind ≠ 1 := by rw [hk]; decide
  have HP := Lib.hid h
  have hp1 := h.later ((Below.refl _ _).alloc (Nat.le_refl _) (.cells #[.string ⟨#[]⟩, .int .i64 0] 53))
  have HP1 := Lib.hid hp1
  obtain ⟨q, hqq⟩ : ∃ q, askM itoaG E f s ((ruleN E i).refs.getD 0 noneB) = q := ⟨_, rfl⟩
  obtain ⟨o2, s2⟩ := q
  have KN := Lib.hid (need_any hA hp1 hi hb (show 0 < _ by omega) (by rw [hl]; decide) o2 s2 hqq)
  have hs1 : steps (ruleN E i) = ((ruleN E i).refs.length + 2) + 1 := rfl
  rw [hs1, come_ask (nxt_first hk1) hqq, List.nil_append] at hq
  have HQ := Lib.hid hq
  have HQ2 := Lib.hid hqq
  have HK := Lib.hid hk
  have HK1 := Lib.hid hk1
  have HL := Lib.hid hl
  have htext := hro.text
  clear h hk hk1 hl hq hqq hp1 hs1 hro
  go_enter Tryd.func25, Tryd.ntmps25
  go_wp2_with fail
  refine KN.out.mono ?_
  rintro e W3 ⟨av3, rfl, hM3, hF3, hz3⟩
  have HZ3 := Lib.hid hz3
  clear hz3
  have hn := HP1.out.next hi hb HQ2.out (by rw [HL.out]; decide) hM3
  have HM3 := Lib.hid (hM3.later ((Below.refl W3.heap.size W3).alloc (Nat.le_refl _) (.cells #[.string o2.t, .int .i64 o2.e] 53)))
  have HM3o := Lib.hid hM3
  have HF3 := Lib.hid (hF3.trans (FK.below ((Below.refl W3.heap.size W3).alloc (Nat.le_refl _) (.cells #[.string o2.t, .int .i64 o2.e] 53))))
  have HN := Lib.hid hn
  clear hM3 hF3 hn c1
  by_cases he : o2.e = 0
  case neg =>
    have te : (o2.e != 0) = true := by simpa using he
    have hcm := HQ.out
    rw [show (ruleN E i).refs.length + 2 = ((ruleN E i).refs.length + 1) + 1 from rfl, come_done (nxt_bad1 he)] at hcm
    injection hcm with e1 e2
    subst e1 e2
    clear he
    obtain ⟨rb, nf, ns⟩ := res_box HP.out.mem (HF3.out)
    have q0 := Lib.cell_of_heap rb 0
    have q1 := Lib.cell_of_heap rb 1
    have z0 := Lib.frozen_of_heap rb 0
    have z1 := Lib.frozen_of_heap rb 1
    have HF := Lib.hid ((FK.below ((Below.refl _ _).alloc (Nat.le_refl _) _)).trans (HF3.out))
    clear rb
    obtain ⟨r0, r1⟩ := two_set (W := W3.alloc (.cells #[.string o2.t, .int .i64 o2.e] 53)) q0 q1 (.string o2.t) (.int .i64 o2.e)
    go_wp2_with fail
    exact bodyPost_ret (v := .agg #[.string o2.t, .int .i64 o2.e]) (by simp [results, Tryd.results25, go_sem, r0, r1]) rfl ⟨_, rfl, (HM3.out.box nf ns _).box nf ns _, (HF.out.box (Nat.le_refl _) _).box (Nat.le_refl _) _, HZ3.out⟩
  have te : (o2.e != 0) = false := by simpa using he
  have hone := nxt_one HK1.out he
  rw [HK.out] at hone
  have c1b : (W3.alloc (.cells #[.string o2.t, .int .i64 o2.e] 53)).cell? ⟨L.nb i, 1, none⟩ = some (.int .i64 2) := by
    have := HM3.out.cell hi 1
    rw [this]
    show some (Value.int .i64 (ruleN E i).kind) = _
    rw [HK.out]
  have ho2 := HN.out.2.2
  clear he
  rw [if_pos rfl] at hone
  by_cases hz : o2.t.size = 0
  · have ts := size_zero.1 hz
    rw [if_neg (by simpa using hz)] at hone
    clear hz
    obtain ⟨q, hqq⟩ : ∃ q, askM itoaG E f (s2.put i { s2.nd i with asked := (s2.nd i).asked ++ [((ruleN E i).refs.getD 0 noneB, o2)] }) ((ruleN E i).refs.getD 2 noneB) = q := ⟨_, rfl⟩
    obtain ⟨o3, s3⟩ := q
    have hb2 : ((s2.put i { s2.nd i with asked := (s2.nd i).asked ++ [((ruleN E i).refs.getD 0 noneB, o2)] }).nd i).busy = true := by rw [St.put_same, HN.out.2.1]; exact hb
    have hl2 : ((s2.put i { s2.nd i with asked := (s2.nd i).asked ++ [((ruleN E i).refs.getD 0 noneB, o2)] }).nd i).asked.length < 200000 := by rw [St.put_same, HN.out.2.1, HL.out]; simp
    have hp2 := HN.out.1.later ((Below.refl W3.heap.size W3).alloc (Nat.le_refl _) (.cells #[.string o2.t, .int .i64 o2.e] 53))
    have KN2 := Lib.hid (need_any hA hp2 hi hb2 (show 2 < _ by omega) hl2 o3 s3 hqq)
    have hcm := HQ.out
    rw [show (ruleN E i).refs.length + 2 = ((ruleN E i).refs.length + 1) + 1 from rfl, come_ask hone hqq] at hcm
    have HCm := Lib.hid hcm
    have HQ3 := Lib.hid hqq
    have HB2 := Lib.hid hb2
    have HL2 := Lib.hid hl2
    have HP2 := Lib.hid hp2
    clear hcm hqq hone hb2 hl2 hp2
    go_wp2_with fail
    refine KN2.out.mono ?_
    rintro e W5 ⟨av5, rfl, hM5, hF5, hz5⟩
    have HZ5 := Lib.hid (fun k hk => (hz5 k hk).trans (HZ3.out k hk))
    clear hz5
    have HM5 := Lib.hid hM5
    have HF5 := Lib.hid (HF3.out.trans hF5)
    clear hM5 hF5
    have hcm := HCm.out
    have hd : nxt itoaG (ruleN E i) [o2, o3] = .done o3 := by
      by_cases he3 : o3.e = 0
      · rw [nxt_two HK1.out he3, if_pos HK.out]
      · exact nxt_bad2 he3
    rw [show [o2] ++ [o3] = [o2, o3] from rfl, come_done hd] at hcm
    injection hcm with e1 e2
    subst e1 e2
    clear hd
    obtain ⟨rb, nf, ns⟩ := res_box HP.out.mem (HF5.out)
    have q0 := Lib.cell_of_heap rb 0
    have q1 := Lib.cell_of_heap rb 1
    have z0 := Lib.frozen_of_heap rb 0
    have z1 := Lib.frozen_of_heap rb 1
    have HF := Lib.hid ((FK.below ((Below.refl _ _).alloc (Nat.le_refl _) _)).trans (HF5.out))
    clear rb
    obtain ⟨r0, r1⟩ := two_set (W := W5) q0 q1 (.string o3.t) (.int .i64 o3.e)
    go_wp2_with fail
    exact bodyPost_ret (v := .agg #[.string o3.t, .int .i64 o3.e]) (by simp [results, Tryd.results25, go_sem, r0, r1]) rfl ⟨_, rfl, (HM5.out.box nf ns _).box nf ns _, (HF.out.box (Nat.le_refl _) _).box (Nat.le_refl _) _, HZ5.out⟩
  · have ts : o2.t.toList.isEmpty = false := by rw [Bool.eq_false_iff]; exact fun h => hz (size_zero.2 h)
    rw [if_pos hz] at hone
    clear hz
    obtain ⟨q, hqq⟩ : ∃ q, askM itoaG E f (s2.put i { s2.nd i with asked := (s2.nd i).asked ++ [((ruleN E i).refs.getD 0 noneB, o2)] }) ((ruleN E i).refs.getD 1 noneB) = q := ⟨_, rfl⟩
    obtain ⟨o3, s3⟩ := q
    have hb2 : ((s2.put i { s2.nd i with asked := (s2.nd i).asked ++ [((ruleN E i).refs.getD 0 noneB, o2)] }).nd i).busy = true := by rw [St.put_same, HN.out.2.1]; exact hb
    have hl2 : ((s2.put i { s2.nd i with asked := (s2.nd i).asked ++ [((ruleN E i).refs.getD 0 noneB, o2)] }).nd i).asked.length < 200000 := by rw [St.put_same, HN.out.2.1, HL.out]; simp
    have hp2 := HN.out.1.later ((Below.refl W3.heap.size W3).alloc (Nat.le_refl _) (.cells #[.string o2.t, .int .i64 o2.e] 53))
    have KN2 := Lib.hid (need_any hA hp2 hi hb2 (show 1 < _ by omega) hl2 o3 s3 hqq)
    have hcm := HQ.out
    rw [show (ruleN E i).refs.length + 2 = ((ruleN E i).refs.length + 1) + 1 from rfl, come_ask hone hqq] at hcm
    have HCm := Lib.hid hcm
    have HQ3 := Lib.hid hqq
    have HB2 := Lib.hid hb2
    have HL2 := Lib.hid hl2
    have HP2 := Lib.hid hp2
    clear hcm hqq hone hb2 hl2 hp2
    go_wp2_with fail
    refine KN2.out.mono ?_
    rintro e W5 ⟨av5, rfl, hM5, hF5, hz5⟩
    have HZ5 := Lib.hid (fun k hk => (hz5 k hk).trans (HZ3.out k hk))
    clear hz5
    have HM5 := Lib.hid hM5
    have HF5 := Lib.hid (HF3.out.trans hF5)
    clear hM5 hF5
    have hcm := HCm.out
    have hd : nxt itoaG (ruleN E i) [o2, o3] = .done o3 := by
      by_cases he3 : o3.e = 0
      · rw [nxt_two HK1.out he3, if_pos HK.out]
      · exact nxt_bad2 he3
    rw [show [o2] ++ [o3] = [o2, o3] from rfl, come_done hd] at hcm
    injection hcm with e1 e2
    subst e1 e2
    clear hd
    obtain ⟨rb, nf, ns⟩ := res_box HP.out.mem (HF5.out)
    have q0 := Lib.cell_of_heap rb 0
    have q1 := Lib.cell_of_heap rb 1
    have z0 := Lib.frozen_of_heap rb 0
    have z1 := Lib.frozen_of_heap rb 1
    have HF := Lib.hid ((FK.below ((Below.refl _ _).alloc (Nat.le_refl _) _)).trans (HF5.out))
    clear rb
    obtain ⟨r0, r1⟩ := two_set (W := W5) q0 q1 (.string o3.t) (.int .i64 o3.e)
    go_wp2_with fail
    exact bodyPost_ret (v := .agg #[.string o3.t, .int .i64 o3.e]) (by simp [results, Tryd.results25, go_sem, r0, r1]) rfl ⟨_, rfl, (HM5.out.box nf ns _).box nf ns _, (HF.out.box (Nat.le_refl _) _).box (Nat.le_refl _) _, HZ5.out⟩
set_option maxRecDepth 100000 in
set_option maxHeartbeats 8000000 in
theorem come_size {f : Nat} (hA : AskC f) {L : Lay} {E : Env} {s : St} {av : Nat → Value} {B : List Nat} {W : World} (h : Pre L E s av B f W) {i : Nat} (hi : i < E.rules.length) (hb : (s.nd i).busy = true) (hk : (ruleN E i).kind = 3) (hl : (s.nd i).asked = [])
    (o : Out) (s1 : St) (hq : comeM itoaG (askM itoaG E f) (ruleN E i) i (steps (ruleN E i)) [] s = (o, s1)) :
    Calls Tryd.prog 25 #[.pointer (some ⟨L.G, 0, none⟩), .pointer (some ⟨L.nb i, 0, none⟩)] W (OutPost L E (fun k => k ∈ B ∧ k ≠ i) av W o s1) := by
  have c1 : (W.alloc (.cells #[.string ⟨#[]⟩, .int .i64 0] 53)).cell? ⟨L.nb i, 1, none⟩ = some (.int .i64 3) := by
    have := cell_alloc_of (.cells #[.string ⟨#[]⟩, .int .i64 0] 53) (h.mem.cell hi 1)
    rw [this]
    show some (Value.int .i64 (ruleN E i).kind) = _
    rw [hk]
  have hro := ruleN_ok h.ok i hi
  have hrl : 1 ≤ (ruleN E i).refs.length := by have := hro.ok; unfold okR at this; omega
  have hk1 : (ruleN E i).kind ≠ 1 := by rw [hk]; decide
  have HP := Lib.hid h
  have hp1 := h.later ((Below.refl _ _).alloc (Nat.le_refl _) (.cells #[.string ⟨#[]⟩, .int .i64 0] 53))
  have HP1 := Lib.hid hp1
  obtain ⟨q, hqq⟩ : ∃ q, askM itoaG E f s ((ruleN E i).refs.getD 0 noneB) = q := ⟨_, rfl⟩
  obtain ⟨o2, s2⟩ := q
  have KN := Lib.hid (need_any hA hp1 hi hb (show 0 < _ by omega) (by rw [hl]; decide) o2 s2 hqq)
  have hs1 : steps (ruleN E i) = ((ruleN E i).refs.length + 2) + 1 := rfl
  rw [hs1, come_ask (nxt_first hk1) hqq, List.nil_append] at hq
  have HQ := Lib.hid hq
  have HQ2 := Lib.hid hqq
  have HK := Lib.hid hk
  have HK1 := Lib.hid hk1
  have HL := Lib.hid hl
  have htext := hro.text
  clear h hk hk1 hl hq hqq hp1 hs1 hro
  go_enter Tryd.func25, Tryd.ntmps25
  go_wp2_with fail
  refine KN.out.mono ?_
  rintro e W3 ⟨av3, rfl, hM3, hF3, hz3⟩
  have HZ3 := Lib.hid hz3
  clear hz3
  have hn := HP1.out.next hi hb HQ2.out (by rw [HL.out]; decide) hM3
  have HM3 := Lib.hid (hM3.later ((Below.refl W3.heap.size W3).alloc (Nat.le_refl _) (.cells #[.string o2.t, .int .i64 o2.e] 53)))
  have HM3o := Lib.hid hM3
  have HF3 := Lib.hid (hF3.trans (FK.below ((Below.refl W3.heap.size W3).alloc (Nat.le_refl _) (.cells #[.string o2.t, .int .i64 o2.e] 53))))
  have HN := Lib.hid hn
  clear hM3 hF3 hn c1
  by_cases he : o2.e = 0
  case neg =>
    have te : (o2.e != 0) = true := by simpa using he
    have hcm := HQ.out
    rw [show (ruleN E i).refs.length + 2 = ((ruleN E i).refs.length + 1) + 1 from rfl, come_done (nxt_bad1 he)] at hcm
    injection hcm with e1 e2
    subst e1 e2
    clear he
    obtain ⟨rb, nf, ns⟩ := res_box HP.out.mem (HF3.out)
    have q0 := Lib.cell_of_heap rb 0
    have q1 := Lib.cell_of_heap rb 1
    have z0 := Lib.frozen_of_heap rb 0
    have z1 := Lib.frozen_of_heap rb 1
    have HF := Lib.hid ((FK.below ((Below.refl _ _).alloc (Nat.le_refl _) _)).trans (HF3.out))
    clear rb
    obtain ⟨r0, r1⟩ := two_set (W := W3.alloc (.cells #[.string o2.t, .int .i64 o2.e] 53)) q0 q1 (.string o2.t) (.int .i64 o2.e)
    go_wp2_with fail
    exact bodyPost_ret (v := .agg #[.string o2.t, .int .i64 o2.e]) (by simp [results, Tryd.results25, go_sem, r0, r1]) rfl ⟨_, rfl, (HM3.out.box nf ns _).box nf ns _, (HF.out.box (Nat.le_refl _) _).box (Nat.le_refl _) _, HZ3.out⟩
  have te : (o2.e != 0) = false := by simpa using he
  have hone := nxt_one HK1.out he
  rw [HK.out] at hone
  have c1b : (W3.alloc (.cells #[.string o2.t, .int .i64 o2.e] 53)).cell? ⟨L.nb i, 1, none⟩ = some (.int .i64 3) := by
    have := HM3.out.cell hi 1
    rw [this]
    show some (Value.int .i64 (ruleN E i).kind) = _
    rw [HK.out]
  have ho2 := HN.out.2.2
  clear he
  rw [if_neg (by decide), if_pos rfl] at hone
  have hcm := HQ.out
  rw [show (ruleN E i).refs.length + 2 = ((ruleN E i).refs.length + 1) + 1 from rfl, come_done hone] at hcm
  injection hcm with e1 e2
  subst e1 e2
  have KI := Lib.hid (itoa_step o2.t.size (by omega) _ (W3.alloc (.cells #[.string o2.t, .int .i64 o2.e] 53)) HM3.out.tab (Below.refl _ _))
  clear hone
  go_wp2_with fail
  refine KI.out.mono ?_
  rintro e W5 ⟨rfl, hb5⟩
  have HM5 := Lib.hid (HM3.out.later hb5)
  have HF5 := Lib.hid (HF3.out.trans (FK.below hb5))
  clear hb5
  obtain ⟨rb, nf, ns⟩ := res_box HP.out.mem (HF5.out)
  have q0 := Lib.cell_of_heap rb 0
  have q1 := Lib.cell_of_heap rb 1
  have z0 := Lib.frozen_of_heap rb 0
  have z1 := Lib.frozen_of_heap rb 1
  have HF := Lib.hid ((FK.below ((Below.refl _ _).alloc (Nat.le_refl _) _)).trans (HF5.out))
  clear rb
  obtain ⟨r0, r1⟩ := two_set (W := W5) q0 q1 (.string ⟨(Lib.itoa (o2.t.size : Int)).toArray⟩) (.int .i64 0)
  go_wp2_with fail
  exact bodyPost_ret (v := .agg #[.string ⟨(Lib.itoa (o2.t.size : Int)).toArray⟩, .int .i64 0]) (by simp [results, Tryd.results25, go_sem, r0, r1]) rfl ⟨_, rfl, (HM5.out.box nf ns _).box nf ns _, (HF.out.box (Nat.le_refl _) _).box (Nat.le_refl _) _, HZ3.out⟩
set_option maxRecDepth 100000 in
set_option maxHeartbeats 8000000 in
theorem come_same {f : Nat} (hA : AskC f) {L : Lay} {E : Env} {s : St} {av : Nat → Value} {B : List Nat} {W : World} (h : Pre L E s av B f W) {i : Nat} (hi : i < E.rules.length) (hb : (s.nd i).busy = true) (hk : (ruleN E i).kind = 4) (hl : (s.nd i).asked = [])
    (o : Out) (s1 : St) (hq : comeM itoaG (askM itoaG E f) (ruleN E i) i (steps (ruleN E i)) [] s = (o, s1)) :
    Calls Tryd.prog 25 #[.pointer (some ⟨L.G, 0, none⟩), .pointer (some ⟨L.nb i, 0, none⟩)] W (OutPost L E (fun k => k ∈ B ∧ k ≠ i) av W o s1) := by
  have c1 : (W.alloc (.cells #[.string ⟨#[]⟩, .int .i64 0] 53)).cell? ⟨L.nb i, 1, none⟩ = some (.int .i64 4) := by
    have := cell_alloc_of (.cells #[.string ⟨#[]⟩, .int .i64 0] 53) (h.mem.cell hi 1)
    rw [this]
    show some (Value.int .i64 (ruleN E i).kind) = _
    rw [hk]
  have hro := ruleN_ok h.ok i hi
  have hrl : 2 ≤ (ruleN E i).refs.length := by have := hro.ok; unfold okR at this; omega
  have hk1 : (ruleN E i).kind ≠ 1 := by rw [hk]; decide
  have HP := Lib.hid h
  have hp1 := h.later ((Below.refl _ _).alloc (Nat.le_refl _) (.cells #[.string ⟨#[]⟩, .int .i64 0] 53))
  have HP1 := Lib.hid hp1
  obtain ⟨q, hqq⟩ : ∃ q, askM itoaG E f s ((ruleN E i).refs.getD 0 noneB) = q := ⟨_, rfl⟩
  obtain ⟨o2, s2⟩ := q
  have KN := Lib.hid (need_any hA hp1 hi hb (show 0 < _ by omega) (by rw [hl]; decide) o2 s2 hqq)
  have hs1 : steps (ruleN E i) = ((ruleN E i).refs.length + 2) + 1 := rfl
  rw [hs1, come_ask (nxt_first hk1) hqq, List.nil_append] at hq
  have HQ := Lib.hid hq
  have HQ2 := Lib.hid hqq
  have HK := Lib.hid hk
  have HK1 := Lib.hid hk1
  have HL := Lib.hid hl
  have htext := hro.text
  clear h hk hk1 hl hq hqq hp1 hs1 hro
  go_enter Tryd.func25, Tryd.ntmps25
  go_wp2_with fail
  refine KN.out.mono ?_
  rintro e W3 ⟨av3, rfl, hM3, hF3, hz3⟩
  have HZ3 := Lib.hid hz3
  clear hz3
  have hn := HP1.out.next hi hb HQ2.out (by rw [HL.out]; decide) hM3
  have HM3 := Lib.hid (hM3.later ((Below.refl W3.heap.size W3).alloc (Nat.le_refl _) (.cells #[.string o2.t, .int .i64 o2.e] 53)))
  have HM3o := Lib.hid hM3
  have HF3 := Lib.hid (hF3.trans (FK.below ((Below.refl W3.heap.size W3).alloc (Nat.le_refl _) (.cells #[.string o2.t, .int .i64 o2.e] 53))))
  have HN := Lib.hid hn
  clear hM3 hF3 hn c1
  by_cases he : o2.e = 0
  case neg =>
    have te : (o2.e != 0) = true := by simpa using he
    have hcm := HQ.out
    rw [show (ruleN E i).refs.length + 2 = ((ruleN E i).refs.length + 1) + 1 from rfl, come_done (nxt_bad1 he)] at hcm
    injection hcm with e1 e2
    subst e1 e2
    clear he
    obtain ⟨rb, nf, ns⟩ := res_box HP.out.mem (HF3.out)
    have q0 := Lib.cell_of_heap rb 0
    have q1 := Lib.cell_of_heap rb 1
    have z0 := Lib.frozen_of_heap rb 0
    have z1 := Lib.frozen_of_heap rb 1
    have HF := Lib.hid ((FK.below ((Below.refl _ _).alloc (Nat.le_refl _) _)).trans (HF3.out))
    clear rb
    obtain ⟨r0, r1⟩ := two_set (W := W3.alloc (.cells #[.string o2.t, .int .i64 o2.e] 53)) q0 q1 (.string o2.t) (.int .i64 o2.e)
    go_wp2_with fail
    exact bodyPost_ret (v := .agg #[.string o2.t, .int .i64 o2.e]) (by simp [results, Tryd.results25, go_sem, r0, r1]) rfl ⟨_, rfl, (HM3.out.box nf ns _).box nf ns _, (HF.out.box (Nat.le_refl _) _).box (Nat.le_refl _) _, HZ3.out⟩
  have te : (o2.e != 0) = false := by simpa using he
  have hone := nxt_one HK1.out he
  rw [HK.out] at hone
  have c1b : (W3.alloc (.cells #[.string o2.t, .int .i64 o2.e] 53)).cell? ⟨L.nb i, 1, none⟩ = some (.int .i64 4) := by
    have := HM3.out.cell hi 1
    rw [this]
    show some (Value.int .i64 (ruleN E i).kind) = _
    rw [HK.out]
  have ho2 := HN.out.2.2
  clear he
  rw [if_neg (by decide), if_neg (by decide)] at hone
  obtain ⟨q, hqq⟩ : ∃ q, askM itoaG E f (s2.put i { s2.nd i with asked := (s2.nd i).asked ++ [((ruleN E i).refs.getD 0 noneB, o2)] }) ((ruleN E i).refs.getD 1 noneB) = q := ⟨_, rfl⟩
  obtain ⟨o3, s3⟩ := q
  have hb2 : ((s2.put i { s2.nd i with asked := (s2.nd i).asked ++ [((ruleN E i).refs.getD 0 noneB, o2)] }).nd i).busy = true := by rw [St.put_same, HN.out.2.1]; exact hb
  have hl2 : ((s2.put i { s2.nd i with asked := (s2.nd i).asked ++ [((ruleN E i).refs.getD 0 noneB, o2)] }).nd i).asked.length < 200000 := by rw [St.put_same, HN.out.2.1, HL.out]; simp
  have hp2 := HN.out.1.later ((Below.refl W3.heap.size W3).alloc (Nat.le_refl _) (.cells #[.string o2.t, .int .i64 o2.e] 53))
  have KN2 := Lib.hid (need_any hA hp2 hi hb2 (show 1 < _ by omega) hl2 o3 s3 hqq)
  have hcm := HQ.out
  rw [show (ruleN E i).refs.length + 2 = ((ruleN E i).refs.length + 1) + 1 from rfl, come_ask hone hqq] at hcm
  have HCm := Lib.hid hcm
  have HQ3 := Lib.hid hqq
  have HB2 := Lib.hid hb2
  have HL2 := Lib.hid hl2
  have HP2 := Lib.hid hp2
  clear hcm hqq hone hb2 hl2 hp2
  go_wp2_with fail
  refine KN2.out.mono ?_
  rintro e W5 ⟨av5, rfl, hM5, hF5, hz5⟩
  have HZ5 := Lib.hid (fun k hk => (hz5 k hk).trans (HZ3.out k hk))
  clear hz5
  have hb1 := (res_box HM3o.out hF5).1
  have HM5 := Lib.hid (hM5.later ((Below.refl W5.heap.size W5).alloc (Nat.le_refl _) (.cells #[.string o3.t, .int .i64 o3.e] 53)))
  have HF5 := Lib.hid ((HF3.out.trans hF5).trans (FK.below ((Below.refl W5.heap.size W5).alloc (Nat.le_refl _) (.cells #[.string o3.t, .int .i64 o3.e] 53))))
  have x0 : (W5.alloc (.cells #[.string o3.t, .int .i64 o3.e] 53)).cell? ⟨W3.heap.size, 0, none⟩ = some (.string o2.t) := cell_alloc_of _ (Lib.cell_of_heap hb1 0)
  clear hM5 hF5 hb1
  by_cases he3 : o3.e = 0
  case neg =>
    have te3 : (o3.e != 0) = true := by simpa using he3
    have hcm := HCm.out
    rw [show [o2] ++ [o3] = [o2, o3] from rfl, come_done (nxt_bad2 he3)] at hcm
    injection hcm with e1 e2
    subst e1 e2
    clear he3
    obtain ⟨rb, nf, ns⟩ := res_box HP.out.mem (HF5.out)
    have q0 := Lib.cell_of_heap rb 0
    have q1 := Lib.cell_of_heap rb 1
    have z0 := Lib.frozen_of_heap rb 0
    have z1 := Lib.frozen_of_heap rb 1
    have HF := Lib.hid ((FK.below ((Below.refl _ _).alloc (Nat.le_refl _) _)).trans (HF5.out))
    clear rb
    obtain ⟨r0, r1⟩ := two_set (W := W5.alloc (.cells #[.string o3.t, .int .i64 o3.e] 53)) q0 q1 (.string o3.t) (.int .i64 o3.e)
    go_wp2_with fail
    exact bodyPost_ret (v := .agg #[.string o3.t, .int .i64 o3.e]) (by simp [results, Tryd.results25, go_sem, r0, r1]) rfl ⟨_, rfl, (HM5.out.box nf ns _).box nf ns _, (HF.out.box (Nat.le_refl _) _).box (Nat.le_refl _) _, HZ5.out⟩
  have te3 : (o3.e != 0) = false := by simpa using he3
  have htwo := nxt_two HK1.out he3 (a := o2)
  rw [HK.out, if_neg (by decide)] at htwo
  have c3 : (W5.alloc (.cells #[.string o3.t, .int .i64 o3.e] 53)).cell? ⟨L.nb i, 3, none⟩ = some (.string (ruleN E i).text) := HM5.out.cell hi 3
  have hcm := HCm.out
  clear he3
  by_cases hx : o2.t = o3.t
  · have tx : (o2.t.toList == o3.t.toList) = true := by simp [hx]
    have tx2 : (o2.t.toList != o3.t.toList) = false := by simp [hx]
    rw [if_pos hx] at htwo
    rw [show [o2] ++ [o3] = [o2, o3] from rfl, come_done htwo] at hcm
    injection hcm with e1 e2
    subst e1 e2
    clear hx htwo
    obtain ⟨rb, nf, ns⟩ := res_box HP.out.mem (HF5.out)
    have q0 := Lib.cell_of_heap rb 0
    have q1 := Lib.cell_of_heap rb 1
    have z0 := Lib.frozen_of_heap rb 0
    have z1 := Lib.frozen_of_heap rb 1
    have HF := Lib.hid ((FK.below ((Below.refl _ _).alloc (Nat.le_refl _) _)).trans (HF5.out))
    clear rb
    obtain ⟨r0, r1⟩ := two_set (W := W5.alloc (.cells #[.string o3.t, .int .i64 o3.e] 53)) q0 q1 (.string (ruleN E i).text) (.int .i64 0)
    go_wp2_with fail
    exact bodyPost_ret (v := .agg #[.string (ruleN E i).text, .int .i64 0]) (by simp [results, Tryd.results25, go_sem, r0, r1]) rfl ⟨_, rfl, (HM5.out.box nf ns _).box nf ns _, (HF.out.box (Nat.le_refl _) _).box (Nat.le_refl _) _, HZ5.out⟩
  · have tx : (o2.t.toList == o3.t.toList) = false := by
      rw [Bool.eq_false_iff]
      intro h
      apply hx
      have h2 := (beq_iff_eq.1 h)
      rw [ByteArray.toList_eq, ByteArray.toList_eq] at h2
      exact list_inj h2
    have tx2 : (o2.t.toList != o3.t.toList) = true := by simp [bne, tx]
    rw [if_neg hx] at htwo
    rw [show [o2] ++ [o3] = [o2, o3] from rfl, come_done htwo] at hcm
    injection hcm with e1 e2
    subst e1 e2
    clear hx htwo
    obtain ⟨rb, nf, ns⟩ := res_box HP.out.mem (HF5.out)
    have q0 := Lib.cell_of_heap rb 0
    have q1 := Lib.cell_of_heap rb 1
    have z0 := Lib.frozen_of_heap rb 0
    have z1 := Lib.frozen_of_heap rb 1
    have HF := Lib.hid ((FK.below ((Below.refl _ _).alloc (Nat.le_refl _) _)).trans (HF5.out))
    clear rb
    obtain ⟨r0, r1⟩ := two_set (W := W5.alloc (.cells #[.string o3.t, .int .i64 o3.e] 53)) q0 q1 (.string ⟨#[]⟩) (.int .i64 0)
    go_wp2_with fail
    exact bodyPost_ret (v := .agg #[.string ⟨#[]⟩, .int .i64 0]) (by simp [results, Tryd.results25, go_sem, r0, r1]) rfl ⟨_, rfl, (HM5.out.box nf ns _).box nf ns _, (HF.out.box (Nat.le_refl _) _).box (Nat.le_refl _) _, HZ5.out⟩
theorem come_any {f : Nat} (hA : AskC f) {L : Lay} {E : Env} {s : St} {av : Nat → Value} {B : List Nat} {W : World} (h : Pre L E s av B f W) {i : Nat} (hi : i < E.rules.length) (hb : (s.nd i).busy = true) (hl : (s.nd i).asked = [])
    (o : Out) (s1 : St) (hq : comeM itoaG (askM itoaG E f) (ruleN E i) i (steps (ruleN E i)) [] s = (o, s1)) :
    Calls Tryd.prog 25 #[.pointer (some ⟨L.G, 0, none⟩), .pointer (some ⟨L.nb i, 0, none⟩)] W (OutPost L E (fun k => k ∈ B ∧ k ≠ i) av W o s1) := by
  have hro := (ruleN_ok h.ok i hi).ok
  unfold okR at hro
  rcases hro with hk | ⟨hk, _⟩ | ⟨hk, _⟩ | ⟨hk, _⟩
  · exact come_join hA h hi hb hk hl o s1 hq
  · exact come_pick hA h hi hb hk hl o s1 hq
  · exact come_size hA h hi hb hk hl o s1 hq
  · exact come_same hA h hi hb hk hl o s1 hq
end Go.Proofs.YtjcaeoacgoklmaaDoor

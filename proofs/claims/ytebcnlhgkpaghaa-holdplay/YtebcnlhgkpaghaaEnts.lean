/- entry, Has, List, Drop and Shift of package hold where an entry isn't there; List of a container. -/
import Derived.Test.YtebcnlhgkpaghaaCut
namespace Go.Proofs.Ytebcnlhgkpaghaa
open Go.RowKit Go.Sort
/-- What entry answers beside the two objects. -/
def entE (T : Tab) (i x : Int) : Int := match T i with
  | none => 4
  | some r => if r.ob.kind = 1 then (if r.ob.ents.contains x = true then 0 else 4) else 5
theorem entE_cont {T : Tab} {i : Int} (x : Int) (h : contE T i ≠ 0) : entE T i x = contE T i := by
  unfold entE contE at *
  cases hT : T i with
  | none => rfl
  | some r =>
    rw [hT] at h
    simp only at h ⊢
    by_cases hk : r.ob.kind = 1
    · rw [if_pos hk] at h; exact absurd rfl h
    · rw [if_neg hk, if_neg hk]
set_option maxRecDepth 100000 in
set_option maxHeartbeats 1000000 in
theorem entry_no {w : World} {base tb mb : Nat} {D : DataW Unit} {T : Tab} (h : TAt w base tb mb D T) (i x : Int) (hi : i64 i) (hl : ∀ r, T i = some r → r.ob.ents.length < 1000000) (he : entE T i x ≠ 0) :
    Calls Try.prog 43 #[.pointer (some ⟨tb, 0, none⟩), .int .i64 i, .int .i64 x] w fun e w' => e = .returned (.tuple #[.pointer none, .pointer none, .int .i64 (entE T i x)]) ∧ w' = w := by
  have HC := container_any h i hi
  by_cases hc : contE T i = 0
  · obtain ⟨r, hT, hk⟩ : ∃ r, T i = some r ∧ r.ob.kind = 1 := by
      unfold contE at hc
      cases hT : T i with
      | none => rw [hT] at hc; simp at hc
      | some r =>
        rw [hT] at hc
        simp only at hc
        by_cases hk : r.ob.kind = 1
        · exact ⟨r, rfl, hk⟩
        · rw [if_neg hk] at hc; simp at hc
    have hno : r.ob.ents.contains x = false := by
      unfold entE at he
      rw [hT] at he
      simp only [hk, if_true] at he
      by_cases hh : r.ob.ents.contains x = true
      · rw [if_pos hh] at he; exact absurd rfl he
      · simpa using hh
    have he4 : entE T i x = 4 := by unfold entE; rw [hT]; simp only [hk, if_true, hno]; rfl
    rw [show contP T i = .pointer (some ⟨r.B, 0, none⟩) from by unfold contP fnd; rw [if_pos hc, hT]; rfl, hc] at HC
    have H1 := Lib.hid HC
    have H2 := has_any (h.obj i r hT).1 x (hl r hT)
    rw [hno] at H2
    have H3 := Lib.hid H2
    rw [he4]
    clear h HC H2 he he4
    go_enter Try.func43, Try.ntmps43
    go_wp2_with (first
      | (go_at_call 37; refine H1.out.mono ?_; rintro e w1 ⟨rfl, hw1⟩; rw [hw1]; clear hw1 w1)
      | (go_at_call 42; refine H3.out.mono ?_; rintro e w1 ⟨rfl, hw1⟩; rw [hw1]; clear hw1 w1))
    refine bodyPost_ret (by simp [results, Try.results43, go_sem]) rfl ⟨rfl, rfl⟩
  · rw [entE_cont x hc]
    rw [show contP T i = .pointer none from by unfold contP; rw [if_neg hc]] at HC
    obtain ⟨c, hce⟩ : ∃ c, contE T i = c := ⟨_, rfl⟩
    rw [hce] at HC hc ⊢
    have H1 := Lib.hid HC
    have hcb : (c != 0) = true := by simpa using hc
    clear h HC he
    go_enter Try.func43, Try.ntmps43
    go_wp2_with (first
      | (go_at_call 37; refine H1.out.mono ?_; rintro e w1 ⟨rfl, hw1⟩; rw [hw1]; clear hw1 w1))
    refine bodyPost_ret (by simp [results, Try.results43, go_sem]) rfl ⟨rfl, rfl⟩
theorem Drop_no {w : World} {base tb mb : Nat} {D : DataW Unit} {T : Tab} (h : TAt w base tb mb D T) (i x : Int) (hi : i64 i) (hl : ∀ r, T i = some r → r.ob.ents.length < 1000000) (he : entE T i x ≠ 0) :
    Calls Try.prog 12 #[.pointer (some ⟨tb, 0, none⟩), .int .i64 i, .int .i64 x] w fun e w' => e = .returned (.tuple #[.slice none 0 0, .int .i64 (entE T i x)]) ∧ w' = w := by
  have H := entry_no h i x hi hl he
  obtain ⟨c, hce⟩ : ∃ c, entE T i x = c := ⟨_, rfl⟩
  rw [hce] at H he ⊢
  have H1 := Lib.hid H
  have hcb : (c != 0) = true := by simpa using he
  clear h H
  go_enter Try.func12, Try.ntmps12
  go_wp2_with (go_at_call 43; refine H1.out.mono ?_; rintro e w1 ⟨rfl, hw1⟩; rw [hw1]; clear hw1 w1)
  go_ret2
  exact ⟨rfl, rfl⟩
theorem Shift_no {w : World} {base tb mb : Nat} {D : DataW Unit} {T : Tab} (h : TAt w base tb mb D T) (i x n : Int) (hi : i64 i) (hl : ∀ r, T i = some r → r.ob.ents.length < 1000000) (he : entE T i x ≠ 0) :
    Calls Try.prog 23 #[.pointer (some ⟨tb, 0, none⟩), .int .i64 i, .int .i64 x, .int .i64 n] w fun e w' => e = .returned (.int .i64 (entE T i x)) ∧ w' = w := by
  have H := entry_no h i x hi hl he
  obtain ⟨c, hce⟩ : ∃ c, entE T i x = c := ⟨_, rfl⟩
  rw [hce] at H he ⊢
  have H1 := Lib.hid H
  have hcb : (c != 0) = true := by simpa using he
  clear h H
  go_enter Try.func23, Try.ntmps23
  go_wp2_with (go_at_call 43; refine H1.out.mono ?_; rintro e w1 ⟨rfl, hw1⟩; rw [hw1]; clear hw1 w1)
  go_ret
  exact ⟨rfl, rfl⟩
set_option maxRecDepth 100000 in
set_option maxHeartbeats 1000000 in
theorem Has_any {w : World} {base tb mb : Nat} {D : DataW Unit} {T : Tab} (h : TAt w base tb mb D T) (i x : Int) (hi : i64 i) (hx : i64 x) (hl : ∀ r, T i = some r → r.ob.ents.length < 1000000) :
    Calls Try.prog 31 #[.pointer (some ⟨tb, 0, none⟩), .int .i64 i, .int .i64 x] w fun e w' => e = .returned (.bool (entE T i x == 0)) ∧ w' = w := by
  by_cases he : entE T i x = 0
  · obtain ⟨r, hT, hk, hc⟩ : ∃ r, T i = some r ∧ r.ob.kind = 1 ∧ r.ob.ents.contains x = true := by
      unfold entE at he
      cases hT : T i with
      | none => rw [hT] at he; simp at he
      | some r =>
        rw [hT] at he
        simp only at he
        by_cases hk : r.ob.kind = 1
        · rw [if_pos hk] at he
          by_cases hh : r.ob.ents.contains x = true
          · exact ⟨r, rfl, hk, hh⟩
          · rw [if_neg hh] at he; simp at he
        · rw [if_neg hk] at he; simp at he
    have H := Lib.hid (entry_ok h i x hi hx r hT hk (hl r hT) hc)
    rw [he]
    clear h he
    go_enter Try.func31, Try.ntmps31
    go_wp2_with (go_at_call 43; refine H.out.mono ?_; rintro e w1 ⟨rfl, hw1⟩; rw [hw1]; clear hw1 w1)
    go_ret
    exact ⟨rfl, rfl⟩
  · have H := entry_no h i x hi hl he
    obtain ⟨c, hce⟩ : ∃ c, entE T i x = c := ⟨_, rfl⟩
    rw [hce] at H he ⊢
    have H1 := Lib.hid H
    have hcb : (c == 0) = false := by simpa using he
    rw [hcb]
    clear h H
    go_enter Try.func31, Try.ntmps31
    go_wp2_with (go_at_call 43; refine H1.out.mono ?_; rintro e w1 ⟨rfl, hw1⟩; rw [hw1]; clear hw1 w1)
    go_ret
    exact ⟨rfl, rfl⟩
end Go.Proofs.Ytebcnlhgkpaghaa

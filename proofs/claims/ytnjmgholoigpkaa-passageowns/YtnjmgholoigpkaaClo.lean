/- The closures of package passage: the greatest level of some labels. -/
import Derived.Test.YtnjmgholoigpkaaOps
namespace Go.Proofs.Ytnjmgholoigpkaa
open Go.RowKit Go.Sort
def gr (ls : List ML) (c : Int) : Int := ls.foldl (fun m l => max m (aM l c)) 0
theorem max_if (a b : Int) : (if a < b then b else a) = max a b := by
  rw [Int.max_def]; split <;> split <;> omega
theorem gr_snoc (ls : List ML) (c : Int) (k : Nat) (h : k < ls.length) : gr (ls.take (k + 1)) c = max (gr (ls.take k) c) (aM ls[k] c) := by
  unfold gr; rw [List.take_succ_eq_append_getElem h, List.foldl_append]; rfl
set_option maxRecDepth 100000 in
set_option maxHeartbeats 1000000 in
theorem greatest1_any (ls : List ML) (c : Int) (B : Nat) (u : Value) (w : World) (hc : w.cell? ⟨B, 0, none⟩ = some u) (hu : LsV ls u w) (hn : ls.length ≤ 16) :
    Calls Try.prog 81 #[.int .i64 c, .pointer (some ⟨B, 0, none⟩)] w fun e w' => e = .returned (.int .i64 (gr ls c)) ∧ Below w.heap.size w w' := by
  obtain ⟨b, rfl, hb0, hL⟩ := hu
  go_enter Try.func81, Try.ntmps81
  go_wp2_with fail
  go_loopw [4, 9] (fun m i wr => ∃ k : Nat, k ≤ ls.length ∧ i = .int .i64 k ∧ m = .int .i64 (gr (ls.take k) c) ∧ Below w.heap.size w wr) (fun _ i _ => ls.length - (intOf i).toNat)
  case atStart => exact ⟨0, Nat.zero_le _, rfl, rfl, Below.refl _ _⟩
  case round =>
    obtain ⟨k, hk, rfl, rfl, hb⟩ := hrel
    by_cases hlt : k < ls.length
    · obtain ⟨p, cap, _, e0, e1, hcat, hcap, h16⟩ := (hL k hlt).below hb
      have HS : Hid (gr (ls.take (k + 1)) c = max (gr (ls.take k) c) (aM ls[k] c)) := gr_snoc ls c k hlt
      have hbw : b < wr.heap.size := Nat.lt_of_lt_of_le hb0 hb.size
      have hbA : Below w.heap.size w (wr.alloc (.cells #[.int .i64 ls[k].1, .slice p ls[k].2.length cap] 24)) := hb.alloc hb.size _
      have hbA' : Below wr.heap.size wr (wr.alloc (.cells #[.int .i64 ls[k].1, .slice p ls[k].2.length cap] 24)) := by go_grown
      have HA := Lib.hid (At_any ls[k].1 c p cap ls[k].2 _ (by unfold maxLen; omega) (hcat.below hbA'))
      have hki : (k : Int) < (ls.length : Int) := by omega
      have hl16 : (ls.length : Int) ≤ 16 := by omega
      clear hL hcat hc hcap
      go_wp2_with (go_at_call 82; refine HA.out.mono ?_; rintro e w2 ⟨rfl, hb2⟩)
      go_roundw
      case rel => exact ⟨k + 1, by omega, by go_num, by rw [HS.out, ← max_if]; rfl, hbA.trans (hb2.mono hbA.size)⟩
      case measure => simp [intOf]; omega
    · obtain rfl : k = ls.length := by omega
      rw [List.take_length]
      have hkk : ¬ (ls.length : Int) < (ls.length : Int) := by omega
      go_wp2
      go_ret
      exact ⟨rfl, hb⟩
/-- A function of a category, as a value: whatever calls it, later too, is told F. -/
def Lev (F : Int → Int) (v : Value) (W : World) : Prop := ∃ f cap, v = .func (.func f) #[] cap ∧ Enters f ∧ ∀ W', Below W.heap.size W W' → ∀ c, Calls Try.prog f (#[.int .i64 c] ++ cap) W' fun e W'' => e = .returned (.int .i64 (F c)) ∧ Below W'.heap.size W' W''
theorem Lev.below {F : Int → Int} {v : Value} {W W' : World} (h : Lev F v W) (hb : Below W.heap.size W W') : Lev F v W' := by
  obtain ⟨f, cap, h1, h2, h3⟩ := h
  exact ⟨f, cap, h1, h2, fun W'' hb' c => h3 W'' (hb.trans (hb'.mono hb.size)) c⟩
theorem ent_greatest1 : Enters 81 := fun args W => by go_simp
theorem ent_floor1 : Enters 68 := fun args W => by go_simp
theorem greatest_c {ls : List ML} {v : Value} {W : World} (h : LsV ls v W) (hn : ls.length ≤ 16) : Calls Try.prog 54 #[v] W fun e W' => ∃ v', e = .returned v' ∧ Below W.heap.size W W' ∧ Lev (gr ls) v' W' := by
  have h' := h
  obtain ⟨b, rfl, hb, hL⟩ := h'
  have hA : Below W.heap.size W (W.alloc (.cells #[.slice (some ⟨b, 0, none⟩) ls.length ls.length] 45)) := by go_grown
  have h2 := h.below hA
  have hcell : (W.alloc (.cells #[.slice (some ⟨b, 0, none⟩) ls.length ls.length] 45)).cell? ⟨W.heap.size, 0, none⟩ = some (.slice (some ⟨b, 0, none⟩) ls.length ls.length) := by simp [go_sem]
  have hz : W.heap.size < (W.alloc (.cells #[.slice (some ⟨b, 0, none⟩) ls.length ls.length] 45)).heap.size := by simp
  have HL : Hid (Lev (gr ls) (.func (.func 81) #[] #[.pointer (some ⟨W.heap.size, 0, none⟩)]) (W.alloc (.cells #[.slice (some ⟨b, 0, none⟩) ls.length ls.length] 45))) :=
    ⟨_, _, rfl, ent_greatest1, fun W' hb' c => greatest1_any ls c W.heap.size _ W' ((hb'.cell (p := ⟨W.heap.size, 0, none⟩) hz).trans hcell) (h2.below hb') hn⟩
  clear h h2 hL hcell hz
  go_enter Try.func54, Try.ntmps54
  go_wp2_with fail
  go_ret
  exact ⟨_, rfl, hA, HL.out⟩
def flo (x : Int) : Int := if x = 5 then 0 else x
def fl (t g : ML) (c : Int) : Int := flo (gr [upM t, upM g] c)
set_option maxRecDepth 100000 in
theorem floor1_any (F : Int → Int) (c : Int) (B : Nat) (u : Value) (w : World) (hc : w.cell? ⟨B, 0, none⟩ = some u) (hu : Lev F u w) :
    Calls Try.prog 68 #[.int .i64 c, .pointer (some ⟨B, 0, none⟩)] w fun e w' => e = .returned (.int .i64 (flo (F c))) ∧ Below w.heap.size w w' := by
  obtain ⟨f, cap, rfl, he, hF⟩ := hu
  have hC := hF w (Below.refl _ _) c
  have he' := fun args W => he args W
  obtain ⟨x, hx⟩ : ∃ x, F c = x := ⟨_, rfl⟩
  rw [hx] at hC
  have HX := Lib.hid hx
  clear hF he hx
  go_enter Try.func68, Try.ntmps68
  go_wp2_with fail
  refine hC.mono ?_
  rintro e w1 ⟨rfl, hb⟩
  clear hC
  by_cases h5 : x = 5
  · subst h5
    go_wp2
    go_ret
    exact ⟨by rw [HX.out]; rfl, hb⟩
  · have h5' : (x == 5) = false := by simp [h5]
    have HV := Lib.hid (show flo x = x from if_neg h5)
    clear h5
    go_wp2
    go_ret
    exact ⟨by rw [HX.out, HV.out]; rfl, hb⟩
end Go.Proofs.Ytnjmgholoigpkaa

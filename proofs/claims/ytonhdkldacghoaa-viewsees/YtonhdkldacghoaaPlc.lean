/- Where in a dump each number stands first: places of package view. -/
import Derived.Test.YtonhdkldacghoaaMap11
import Derived.Deep.QuietTactic
namespace Go.Proofs.Ytonhdkldacghoaa
open Go.RowKit Go.Sort

def firstAt (d : List Ob) (x : Int) : Option Nat := d.findIdx? fun o => o.id == x
def lk (d : List Ob) (x : Int) : Option Ob := d.find? fun o => o.id == x
theorem firstAt_snoc (d : List Ob) (k : Nat) (h : k < d.length) (x : Int) : firstAt (d.take (k + 1)) x = (firstAt (d.take k) x).or (if d[k].id = x then some k else none) := by
  unfold firstAt
  rw [List.take_succ_eq_append_getElem h, List.findIdx?_append]
  congr 1
  by_cases hx : d[k].id = x
  · simp [hx]; omega
  · simp [hx]
theorem firstAt_lk {d : List Ob} {x : Int} {k : Nat} (h : firstAt d x = some k) : ∃ hk : k < d.length, lk d x = some d[k] ∧ d[k].id = x := by
  unfold firstAt at h
  obtain ⟨hk, h1, h2⟩ := List.findIdx?_eq_some_iff_getElem.1 h
  refine ⟨hk, ?_, by simpa using h1⟩
  unfold lk
  rw [List.find?_eq_some_iff_getElem]
  exact ⟨h1, k, hk, rfl, fun j hj => by simpa using h2 j hj⟩
theorem firstAt_none {d : List Ob} {x : Int} : firstAt d x = none ↔ lk d x = none := by
  unfold firstAt lk
  rw [List.findIdx?_eq_none_iff, List.find?_eq_none]
  simp
theorem firstAt_take {d : List Ob} {k : Nat} (h : k < d.length) (x : Int) (f : Int → Option Nat) (hf : ∀ y, f y = firstAt (d.take k) y) : (∀ i, firstAt (d.take k) d[k].id = some i → f x = firstAt (d.take (k + 1)) x) ∧ (firstAt (d.take k) d[k].id = none → updI f d[k].id (some k) x = firstAt (d.take (k + 1)) x) := by
  constructor
  · intro i hi
    rw [hf, firstAt_snoc d k h]
    by_cases hx : d[k].id = x
    · rw [hx] at hi; rw [hi]; rfl
    · rw [if_neg hx]; cases firstAt (d.take k) x <;> rfl
  · intro hn
    rw [firstAt_snoc d k h]
    unfold updI
    by_cases hx : x = d[k].id
    · rw [if_pos hx, if_pos hx.symm, hx, hn]; rfl
    · rw [if_neg hx, if_neg (fun e => hx e.symm), hf]; cases firstAt (d.take k) x <;> rfl

theorem run_makeHint (n : Int) (w : World) : (Instr.makeMap 68 (some (.int .i64 n))).run Try.prog w = .ok (.map (some w.heap.size)) (w.alloc (.map #[] 0)) := by
  simp [Instr.makeMap, run_underlying um, asInt, asIntOf, Result.andThen]
set_option maxRecDepth 100000 in
set_option maxHeartbeats 1000000 in
theorem places_any (p : Option Addr) (cap : Nat) (d : List Ob) (w : World) (hd : d.length ≤ 1000) (h : ObsAt w p d) :
    Calls Try.prog 43 #[.slice p d.length cap] w fun e w' => e = .returned (.map (some w.heap.size)) ∧ (∃ n, n ≤ d.length ∧ MI w' w.heap.size n (firstAt d)) ∧ Below w.heap.size w w' := by
  have hmm := run_makeHint d.length w
  go_enter Try.func43, Try.ntmps43
  go_wp2
  go_loopw [12] (fun i wr => ∃ k : Nat, k ≤ d.length ∧ i = .int .i64 k ∧ (∃ n f, n ≤ k ∧ MI wr w.heap.size n f ∧ ∀ x, f x = firstAt (d.take k) x) ∧ Below w.heap.size w wr) (fun i _ => d.length - (intOf i).toNat)
  case atStart => exact ⟨0, Nat.zero_le _, rfl, ⟨0, _, Nat.le_refl _, MI.made w, fun x => by simp [firstAt]⟩, by go_grown⟩
  case round =>
    obtain ⟨k, hk, rfl, ⟨n, f, hn, hM, hf⟩, hB⟩ := hrel
    have hmlt := hM.lt
    by_cases hlt : k < d.length
    · obtain ⟨b, off, rfl, hbl, hc, ho⟩ := h k hlt
      have c0 : wr.cell? ⟨b, off + k * 38, none⟩ = some (.int .i64 d[k].id) := (hB.cell (p := ⟨b, off + k * 38, none⟩) hbl).trans (hc 0 _ (by rw [Ob.head _ _ (by decide)]; rfl))
      have hlk := hM.look ho.idr
      have hbw : b < wr.heap.size := by have := hB.size; omega
      have HF := Lib.hid hf
      have HM := Lib.hid hM
      have hidr := ho.idr
      clear hf hM h hc ho
      obtain ⟨idk, hidk⟩ : ∃ i, d[k].id = i := ⟨_, rfl⟩
      rw [hidk] at c0 hlk hidr
      cases hfi : f idk with
      | some i =>
        rw [hfi] at hlk
        simp only [Option.getD_some, Option.isSome_some] at hlk
        go_wp2
        go_roundw
        case rel => exact ⟨k + 1, by omega, by go_num, ⟨n, f, by omega, HM.out, fun x => (firstAt_take hlt x f HF.out).1 i (by rw [hidk, ← HF.out]; exact hfi)⟩, hB⟩
        case measure => simp [intOf]; omega
      | none =>
        rw [hfi] at hlk
        simp only [Option.getD_none, Option.isSome_none] at hlk
        obtain ⟨w', hput, hM', hg', hs'⟩ := HM.out.put (by omega) hidr k (by omega)
        have HM' := Lib.hid hM'
        have HG' := Lib.hid hg'
        clear hM' hg'
        go_wp2
        go_roundw
        case rel => 
          have hB' : Below w.heap.size w w' := Below.grown hB HG'.out hB.size (fun j hj => by simp at hj; omega)
          exact ⟨k + 1, by omega, by go_num, ⟨n + 1, _, by omega, by have := HM'.out; rw [hfi] at this; exact this, fun x => by rw [← hidk]; exact (firstAt_take hlt x f HF.out).2 (by rw [hidk, ← HF.out]; exact hfi)⟩, hB'⟩
        case measure => simp [intOf]; omega
    · go_wp2
      go_ret
      refine ⟨rfl, ⟨n, by omega, hM.congr (fun x => ?_)⟩, hB⟩
      rw [hf, List.take_of_length_le (by omega)]
end Go.Proofs.Ytonhdkldacghoaa

/- What Cut of the reference answers; and, of two labels mixed level by level, plain facts. -/
import Derived.Test.YtnjmgholoigpkaaLooks
namespace Go.Proofs.Ytnjmgholoigpkaa
open Go.RowKit Go.Sort

def fitD (d : Int) (zs : List (Int × Int)) : Int := if zs.length ≤ 16 then d else 0
def fitL (zs : List (Int × Int)) : List (Int × Int) := if zs.length ≤ 16 then zs else []
def fitE (zs : List (Int × Int)) : Int := if zs.length ≤ 16 then 0 else 7

set_option maxHeartbeats 400000 in
theorem Cut_any (B : Nat) (d : Int) (v : Value) (zs : List (Int × Int)) (w : World) (hR : Rw B w v zs) :
    Calls Try.prog 67 #[.agg #[.int .i64 d, v]] w fun e w' => ∃ v', e = .returned (.tuple #[.agg #[.int .i64 (fitD d zs), v'], .int .i64 (fitE zs)]) ∧ Rw B w' v' (fitL zs) ∧ Below w.heap.size w w' := by
  obtain ⟨p, cap, rfl, hc, hcap⟩ := hR.out
  clear hc
  by_cases hl : zs.length ≤ 16
  · have HD : Hid (fitD d zs = d ∧ fitL zs = zs ∧ fitE zs = 0) := by simp [Hid, fitD, fitL, fitE, hl]
    have hl' : ¬ (16 : Int) < (zs.length : Int) := by omega
    go_enter Try.func67, Try.ntmps67
    go_wp2
    refine bodyPost_ret (by simp [results, Try.results67, go_sem]; rfl) rfl ⟨.slice p zs.length cap, ?_, ?_, ?_⟩
    · rw [HD.out.1, HD.out.2.2]
    · rw [HD.out.2.1]; exact hR.below (by go_grown)
    · go_grown
  · have HD : Hid (fitD d zs = 0 ∧ fitL zs = [] ∧ fitE zs = 7) := by simp [Hid, fitD, fitL, fitE, hl]
    have hl' : (16 : Int) < (zs.length : Int) := by omega
    go_enter Try.func67, Try.ntmps67
    go_wp2
    refine bodyPost_ret (by simp [results, Try.results67, go_sem]; rfl) rfl ⟨.slice none 0 0, ?_, ?_, ?_⟩
    · rw [HD.out.1, HD.out.2.2]
    · rw [HD.out.2.1]; exact .inl ⟨rfl, rfl⟩
    · go_grown

/- A row of categories, with a level each. -/
def rowS (f : Int → Int) (cs : List Int) : List (Int × Int) := cs.map fun c => (c, f c)
theorem row_put (d : Int) (f : Int → Int) (cs : List Int) (k : Nat) (h : k < cs.length) : shortS d (rowS f (cs.take (k + 1))) = putS d (shortS d (rowS f (cs.take k))) cs[k] (f cs[k]) := by
  unfold rowS
  rw [List.take_succ_eq_append_getElem h, List.map_append]
  unfold shortS putS
  rw [List.filter_append]
  by_cases h : (f cs[k] != d) = true <;> simp [h]
theorem row_len (f : Int → Int) (cs : List Int) : (rowS f cs).length = cs.length := List.length_map ..
end Go.Proofs.Ytnjmgholoigpkaa

/- Plain words of labels, and what the reference's small functions of labels answer, for every label. -/
import Derived.Test.YtebcnlhgkpaghaaProg
import Derived.WalkKit
import Derived.WalkSpells
import Derived.WalkLawsBesides
import Derived.Handy
import Derived.BigQuiet
import Derived.Lib.Hide
import Derived.Shelf.SlSortCmp.QuietGrown
namespace Go.Proofs.Ytebcnlhgkpaghaa
open Go.RowKit Go.Sort
def lev (n : Int) : Bool := decide (0 ≤ n) && decide (n ≤ 5)
def isCt (n : Int) : Bool := decide (1 ≤ n) && decide (n ≤ 2305843009213693951)
theorem Level_any (n : Int) (w : World) : Calls Try.prog 74 #[.int .i64 n] w fun e w' => e = .returned (.bool (lev n)) ∧ w' = w := by
  by_cases h1 : 0 ≤ n <;> by_cases h2 : n ≤ 5 <;>
  · go_enter Try.func74, Try.ntmps74
    go_wp2
    go_ret
    exact ⟨by simp [lev, h1, h2], rfl⟩
theorem Cat_any (n : Int) (w : World) : Calls Try.prog 17 #[.int .i64 n] w fun e w' => e = .returned (.bool (isCt n)) ∧ w' = w := by
  by_cases h1 : 1 ≤ n <;> by_cases h2 : n ≤ 2305843009213693951 <;>
  · go_enter Try.func17, Try.ntmps17
    go_wp2
    go_ret
    exact ⟨by simp [isCt, h1, h2], rfl⟩
def can (x : Int × Int) : Bool := isCt x.1 && lev x.2
/-- A world with blocks laid behind it, whatever was drawn: the worlds that are 'Below' of w. -/
def gx (w : World) (n : Nat) (os : Array Obj) : World := { w with heap := w.heap ++ os, drawn := n }
theorem gx_below (w : World) (n : Nat) (os : Array Obj) : Below w.heap.size w (gx w n os) :=
  ⟨rfl, rfl, rfl, by simp [gx], fun k hk => by simp [gx, Array.getElem?_append, hk]⟩
theorem below_gx {w w' : World} (h : Below w.heap.size w w') : ∃ p : GrownBy, w' = gx w p.n p.os := by
  refine ⟨⟨w'.drawn, w'.heap.extract w.heap.size w'.heap.size⟩, ?_⟩
  obtain ⟨hp, t, n, os, out⟩ := w
  obtain ⟨hp', t', n', os', out'⟩ := w'
  obtain ⟨h1, h2, h3, h4, h5⟩ := h
  simp only at h1 h2 h3 h4 h5
  subst h1 h2 h3
  simp only [gx, World.mk.injEq, and_true]
  apply Array.ext_getElem?
  intro k
  rw [Array.getElem?_append]
  by_cases hk : k < hp.size
  · simp [hk, h5 k hk]
  · simp only [hk, if_false]
    by_cases hk2 : k < hp'.size
    · rw [Array.getElem?_extract_of_lt (by omega), Array.getElem?_eq_getElem hk2]
      simp only [show hp.size + (k - hp.size) = k from by omega]
    · rw [Array.getElem?_eq_none (by omega), Array.getElem?_eq_none (by simp; omega)]
theorem cell_gx {w : World} {a : Addr} {v : Value} (hb : a.block < w.heap.size) (h : w.cell? a = some v) (n : Nat) (os : Array Obj) : (gx w n os).cell? a = some v :=
  ((gx_below w n os).cell (p := a) hb).trans h
theorem wp_region_quiet_gx {P : Program} {id : Nat} {Q : Exit → Act → World → Prop} {a : Act} {w : World} {l : List Oper} (hm : P.follows .mixedOrders = true) (hB : Region.lexB .any l.toArray = true)
    (h : wpQuiet P l.toArray (fun w' => ∃ p : GrownBy, w' = gx w p.n p.os) (fun a' => ∀ w', (∃ p : GrownBy, w' = gx w p.n p.os) → Q .normal a' w') l a) : (Code.region id l.toArray true).wp P Q a w :=
  wp_region_quiet (C := fun w' => ∃ p : GrownBy, w' = gx w p.n p.os) hm hB ⟨⟨w.drawn + 1, #[]⟩, by simp [gx]⟩ (by simpa using h)
theorem calls_gx {P : Program} {f : FuncId} {args : Array Value} {w : World} {n : Nat} {os : Array Obj} {v : Value}
    (h : Calls P f args (gx w n os) fun e w' => e = .returned v ∧ Below (gx w n os).heap.size (gx w n os) w') : Calls P f args (gx w n os) fun e w'' => e = .returned v ∧ ∃ p : GrownBy, w'' = gx w p.n p.os :=
  h.mono fun _ _ ⟨he, hb⟩ => ⟨he, below_gx ((gx_below w n os).trans (hb.mono (gx_below w n os).size))⟩
/-- The entries of a slice of entries, as they lie in memory. -/
def CatsAt (w : World) (p : Option Addr) (xs : List (Int × Int)) : Prop :=
  ∀ j, (h : j < xs.length) → ∃ b off, p = some ⟨b, off, none⟩ ∧ b < w.heap.size ∧ w.cell? ⟨b, off + j * 2, none⟩ = some (.int .i64 xs[j].1) ∧ w.cell? ⟨b, off + j * 2 + 1, none⟩ = some (.int .i64 xs[j].2)
def rOk (d : Int) : Int → List (Int × Int) → Bool
  | _, [] => true
  | last, x :: xs => can x && !(x.2 == d) && !(decide (x.1 ≤ last)) && rOk d x.1 xs
def rightS (d : Int) (xs : List (Int × Int)) : Bool := lev d && decide (xs.length ≤ 16) && rOk d 0 xs
def lastAt (xs : List (Int × Int)) (k : Nat) : Int := if k = 0 then 0 else (xs.getD (k - 1) (0, 0)).1
theorem rOk_step (d last : Int) (xs : List (Int × Int)) (k : Nat) (h : k < xs.length) :
    rOk d last (xs.drop k) = (can xs[k] && !(xs[k].2 == d) && !(decide (xs[k].1 ≤ last)) && rOk d xs[k].1 (xs.drop (k + 1))) := by
  rw [List.drop_eq_getElem_cons h]; rfl
theorem lastAt_succ (xs : List (Int × Int)) (k : Nat) (h : k < xs.length) : lastAt xs (k + 1) = xs[k].1 := by
  simp [lastAt, h]
theorem ret_bool {a b : Bool} (h : a = b) : Ending.returned (.bool a) = .returned (.bool b) := by rw [h]
theorem CatsAt.get {w : World} {p : Option Addr} {xs : List (Int × Int)} (h : CatsAt w p xs) {B : Nat} {w1 wr : World} (hb : Below B w1 wr) (h1 : Below w.heap.size w w1) (hB : w.heap.size ≤ B) (k : Nat) (hk : k < xs.length) :
    ∃ b off, p = some ⟨b, off, none⟩ ∧ b < w.heap.size ∧ wr.cell? ⟨b, off + k * 2, none⟩ = some (.int .i64 xs[k].1) ∧ wr.cell? ⟨b, off + k * 2 + 1, none⟩ = some (.int .i64 xs[k].2) := by
  obtain ⟨b, off, hp, hbl, c0, c1⟩ := h k hk
  exact ⟨b, off, hp, hbl, ((hb.cell (p := ⟨b, off + k * 2, none⟩) (by simp; omega)).trans (h1.cell (p := ⟨b, off + k * 2, none⟩) hbl)).trans c0, ((hb.cell (p := ⟨b, off + k * 2 + 1, none⟩) (by simp; omega)).trans (h1.cell (p := ⟨b, off + k * 2 + 1, none⟩) hbl)).trans c1⟩
theorem bdn {B : Nat} {w w' : World} (h : Below B w w') (n : Nat) : Below B w (w'.drewN n) := ⟨h.os, h.tape, h.output, h.size, h.block⟩
theorem can_eq (x : Int × Int) : can x = (isCt x.1 && lev x.2) := rfl
theorem getD_last (xs : List (Int × Int)) (m : Nat) (h : m < xs.length) : lastAt xs (m + 1) = xs[m].1 := lastAt_succ xs m h
set_option maxHeartbeats 400000 in
theorem refRight_any (d : Int) (p : Option Addr) (cap : Nat) (xs : List (Int × Int)) (w : World) (hm : xs.length ≤ maxLen) (hc : CatsAt w p xs) :
    Calls Try.prog 67 #[.agg #[.int .i64 d, .slice p xs.length cap]] w fun e w' => e = .returned (.bool (rightS d xs)) ∧ Below w.heap.size w w' := by
  unfold maxLen at hm
  by_cases h1 : lev d = true
  · by_cases h2 : xs.length ≤ 16
    · have h2' : ¬ (16 : Int) < (xs.length : Int) := by omega
      have hW1 : Below w.heap.size w (w.alloc (.cells #[.int .i64 d, .slice p xs.length cap] 24)) := (Below.refl _ _).alloc (Nat.le_refl _) _
      go_enter Try.func67, Try.ntmps67
      go_wp2_with (first | (go_at_call 74; refine (Level_any _ _).mono ?_; rintro e w' ⟨rfl, rfl⟩))
      go_loopw [18] (fun i wr => ∃ k : Nat, k ≤ xs.length ∧ i = .int .i64 k ∧ rOk d 0 xs = rOk d (lastAt xs k) (xs.drop k) ∧ Below (w.heap.size + 1) (w.alloc (.cells #[.int .i64 d, .slice p xs.length cap] 24)) wr) (fun i _ => xs.length - (intOf i).toNat)
      case atStart => exact ⟨0, Nat.zero_le _, rfl, by simp [lastAt], Below.refl _ _⟩
      case round =>
        obtain ⟨k, hk, rfl, hr, hb⟩ := hrel
        have HR : Hid (rOk d 0 xs = rOk d (lastAt xs k) (xs.drop k)) := hr; clear hr
        by_cases hlt : k < xs.length
        · have b0 : wr.cell? ⟨w.heap.size, 0, none⟩ = some (.int .i64 d) := (hb.cell (p := ⟨w.heap.size, 0, none⟩) (by simp)).trans (by simp [go_sem])
          have b1 : wr.cell? ⟨w.heap.size, 1, none⟩ = some (.slice p xs.length cap) := (hb.cell (p := ⟨w.heap.size, 1, none⟩) (by simp)).trans (by simp [go_sem])
          have hz : w.heap.size < wr.heap.size := by have := hb.size; simp at this; omega
          have hB : Below w.heap.size w wr := hW1.trans (hb.mono (by omega))
          have hsz : w.heap.size ≤ wr.heap.size := hB.size
          have HS : Hid (rOk d (lastAt xs k) (xs.drop k) = (can xs[k] && !(xs[k].2 == d) && !(decide (xs[k].1 ≤ lastAt xs k)) && rOk d xs[k].1 (xs.drop (k + 1)))) := rOk_step d _ xs k hlt
          have HL : Hid (lastAt xs (k + 1) = xs[k].1) := lastAt_succ xs k hlt
          by_cases h3 : isCt xs[k].1 = true
          · by_cases h4 : lev xs[k].2 = true
            · by_cases h5 : (xs[k].2 == d) = true
              · obtain ⟨b, off, rfl, hbl, c0, c1⟩ := hc.get hb hW1 (by omega) k hlt
                clear hc
                go_wp2
                go_quiet ((first | (go_at_call 17; exact Calls.quiet_of_same (Cat_any _ _)) | (go_at_call 74; exact Calls.quiet_of_same (Level_any _ _))))
                go_wp2
                go_ret
                exact ⟨ret_bool (by unfold rightS; rw [HR.out, HS.out]; simp [h5]), bdn (by go_grown) _⟩
              · have h5' : (xs[k].2 == d) = false := by simpa using h5
                by_cases h0 : k = 0
                · have h0' : decide (0 < k) = false := by simp; omega
                  have h6 : lastAt xs k < xs[k].1 := by subst h0; simp [lastAt]; simp [isCt] at h3; omega
                  clear h0
                  obtain ⟨b, off, rfl, hbl, c0, c1⟩ := hc.get hb hW1 (by omega) k hlt
                  clear hc
                  go_wp2
                  go_quiet ((first | (go_at_call 17; exact Calls.quiet_of_same (Cat_any _ _)) | (go_at_call 74; exact Calls.quiet_of_same (Level_any _ _))))
                  go_wp2
                  go_roundw
                  case rel => exact ⟨k + 1, by omega, by go_num, by rw [HR.out, HS.out, HL.out]; simp [can, h3, h4, h5', h6], bdn (by go_grown) _⟩
                  case measure => simp [intOf]; omega
                · obtain ⟨m, rfl⟩ : ∃ m, k = m + 1 := ⟨k - 1, by omega⟩
                  have HM : Hid (lastAt xs (m + 1) = xs[m].1) := lastAt_succ xs m (by omega)
                  obtain ⟨b, off, rfl, hbl, c0, c1⟩ := hc.get hb hW1 (by omega) (m + 1) hlt
                  obtain ⟨b2, off2, he, _, c2, _⟩ := hc.get hb hW1 (by omega) m (by omega)
                  simp only [Option.some.injEq, Addr.mk.injEq, and_true] at he
                  obtain ⟨rfl, rfl⟩ := he
                  clear hc
                  have hwm : IntKind.i64.wrap (m : Int) = (m : Int) := IntWalk.i64_in _ (by omega)
                  have hmi : (m : Int) < (xs.length : Int) := by omega
                  have hbz : b < wr.heap.size := by omega
                  by_cases h6 : xs[m + 1].1 ≤ xs[m].1
                  · go_wp2
                    go_quiet ((first | (go_at_call 17; exact Calls.quiet_of_same (Cat_any _ _)) | (go_at_call 74; exact Calls.quiet_of_same (Level_any _ _))))
                    go_wp2
                    go_ret
                    exact ⟨ret_bool (by unfold rightS; rw [HR.out, HS.out, HM.out]; simp [h6]), bdn (by go_grown) _⟩
                  · go_wp2
                    go_quiet ((first | (go_at_call 17; exact Calls.quiet_of_same (Cat_any _ _)) | (go_at_call 74; exact Calls.quiet_of_same (Level_any _ _))))
                    go_wp2
                    go_roundw
                    case rel => exact ⟨m + 1 + 1, by omega, by go_num, by rw [HR.out, HS.out, HL.out, HM.out]; simp [can, h3, h4, h5', h6], bdn (by go_grown) _⟩
                    case measure => simp [intOf]; omega
            · have h4' : lev xs[k].2 = false := by simpa using h4
              obtain ⟨b, off, rfl, hbl, c0, c1⟩ := hc.get hb hW1 (by omega) k hlt
              clear hc
              go_wp2
              go_quiet ((first | (go_at_call 17; exact Calls.quiet_of_same (Cat_any _ _)) | (go_at_call 74; exact Calls.quiet_of_same (Level_any _ _))))
              go_wp2
              go_ret
              exact ⟨ret_bool (by unfold rightS; rw [HR.out, HS.out]; simp [can, h4']), bdn (by go_grown) _⟩
          · have h3' : isCt xs[k].1 = false := by simpa using h3
            obtain ⟨b, off, rfl, hbl, c0, c1⟩ := hc.get hb hW1 (by omega) k hlt
            clear hc
            go_wp2
            go_quiet ((first | (go_at_call 17; exact Calls.quiet_of_same (Cat_any _ _)) | (go_at_call 74; exact Calls.quiet_of_same (Level_any _ _))))
            go_wp2
            go_ret
            exact ⟨ret_bool (by unfold rightS; rw [HR.out, HS.out]; simp [can, h3']), bdn (by go_grown) _⟩
        · go_wp2
          go_ret
          exact ⟨ret_bool (by unfold rightS; rw [HR.out, List.drop_of_length_le (by omega)]; simp [rOk, h1, h2]), hW1.trans (hb.mono (by omega))⟩
    · have h2' : (16 : Int) < (xs.length : Int) := by omega
      go_enter Try.func67, Try.ntmps67
      go_wp2_with (first | (go_at_call 74; refine (Level_any _ _).mono ?_; rintro e w' ⟨rfl, rfl⟩))
      go_ret
      exact ⟨ret_bool (by unfold rightS; simp; omega), by go_grown⟩
  · have h1' : lev d = false := by simpa using h1
    go_enter Try.func67, Try.ntmps67
    go_wp2_with (first | (go_at_call 74; refine (Level_any _ _).mono ?_; rintro e w' ⟨rfl, rfl⟩))
    go_ret
    exact ⟨ret_bool (by unfold rightS; simp [h1']), by go_grown⟩
theorem ret_int {a b : Int} (h : a = b) : Ending.returned (.int .i64 a) = .returned (.int .i64 b) := by rw [h]
def hasS (d : Int) (xs : List (Int × Int)) (l : Int) : Bool := xs.any (fun x => x.2 == l) || (d == l)
theorem hasS_step (d l : Int) (xs : List (Int × Int)) (k : Nat) (h : k < xs.length) :
    hasS d (xs.drop k) l = ((xs[k].2 == l) || hasS d (xs.drop (k + 1)) l) := by
  unfold hasS; rw [List.drop_eq_getElem_cons h, List.any_cons, Bool.or_assoc]
theorem CatsAt.below {w w' : World} {p : Option Addr} {xs : List (Int × Int)} (h : CatsAt w p xs) (hb : Below w.heap.size w w') : CatsAt w' p xs := fun j hj => by
  obtain ⟨b, off, hp, hbl, c0, c1⟩ := h j hj
  exact ⟨b, off, hp, Nat.lt_of_lt_of_le hbl hb.size, (hb.cell (p := ⟨b, off + j * 2, none⟩) hbl).trans c0, (hb.cell (p := ⟨b, off + j * 2 + 1, none⟩) hbl).trans c1⟩
set_option maxHeartbeats 400000 in
theorem refHas_any (d l : Int) (p : Option Addr) (cap : Nat) (xs : List (Int × Int)) (w : World) (hm : xs.length ≤ maxLen) (hc : CatsAt w p xs) :
    Calls Try.prog 49 #[.agg #[.int .i64 d, .slice p xs.length cap], .int .i64 l] w fun e w' => e = .returned (.bool (hasS d xs l)) ∧ Below w.heap.size w w' := by
  unfold maxLen at hm
  have hW1 : Below w.heap.size w (w.alloc (.cells #[.int .i64 d, .slice p xs.length cap] 24)) := (Below.refl _ _).alloc (Nat.le_refl _) _
  go_enter Try.func49, Try.ntmps49
  go_wp2
  go_loopw [10] (fun i wr => ∃ k : Nat, k ≤ xs.length ∧ i = .int .i64 k ∧ hasS d xs l = hasS d (xs.drop k) l ∧ Below (w.heap.size + 1) (w.alloc (.cells #[.int .i64 d, .slice p xs.length cap] 24)) wr) (fun i _ => xs.length - (intOf i).toNat)
  case atStart => exact ⟨0, Nat.zero_le _, rfl, by simp, Below.refl _ _⟩
  case round =>
    obtain ⟨k, hk, rfl, hr, hb⟩ := hrel
    have HR : Hid (hasS d xs l = hasS d (xs.drop k) l) := hr; clear hr
    have b0 : wr.cell? ⟨w.heap.size, 0, none⟩ = some (.int .i64 d) := (hb.cell (p := ⟨w.heap.size, 0, none⟩) (by simp)).trans (by simp [go_sem])
    have hB : Below w.heap.size w wr := hW1.trans (hb.mono (by omega))
    have hsz : w.heap.size ≤ wr.heap.size := hB.size
    by_cases hlt : k < xs.length
    · obtain ⟨b, off, rfl, hbl, c0, c1⟩ := hc.get hb hW1 (by omega) k hlt
      clear hc
      have hz : w.heap.size < wr.heap.size := by have := hb.size; simp at this; omega
      have HS : Hid (hasS d (xs.drop k) l = ((xs[k].2 == l) || hasS d (xs.drop (k + 1)) l)) := hasS_step d l xs k hlt
      by_cases h3 : (xs[k].2 == l) = true
      · go_wp2
        go_ret
        exact ⟨ret_bool (by rw [HR.out, HS.out, h3]; rfl), by go_grown⟩
      · have h3' : (xs[k].2 == l) = false := by simpa using h3
        go_wp2
        go_roundw
        case rel => exact ⟨k + 1, by omega, by go_num, by rw [HR.out, HS.out, h3']; rfl, by go_grown⟩
        case measure => simp [intOf]; omega
    · go_wp2
      go_ret
      exact ⟨ret_bool (by rw [HR.out, List.drop_of_length_le (by omega)]; simp [hasS]), hB⟩
def plainS (d : Int) (xs : List (Int × Int)) : Bool := rightS d xs && !hasS d xs 5
def freeS (d : Int) (xs : List (Int × Int)) : Bool := plainS d xs && !hasS d xs 0
set_option maxHeartbeats 400000 in
theorem refPlain_any (d : Int) (p : Option Addr) (cap : Nat) (xs : List (Int × Int)) (w : World) (hm : xs.length ≤ maxLen) (hc : CatsAt w p xs) :
    Calls Try.prog 48 #[.agg #[.int .i64 d, .slice p xs.length cap]] w fun e w' => e = .returned (.bool (plainS d xs)) ∧ Below w.heap.size w w' := by
  have hW1 : Below w.heap.size w (w.alloc (.cells #[.int .i64 d, .slice p xs.length cap] 24)) := (Below.refl _ _).alloc (Nat.le_refl _) _
  have hR := refRight_any d p cap xs _ hm (hc.below hW1)
  by_cases h1 : rightS d xs = true
  · go_enter Try.func48, Try.ntmps48
    go_wp2_with (first | (go_at_call 67; refine hR.mono ?_; rintro e w1 ⟨rfl, hb⟩; have b0 : w1.cell? ⟨w.heap.size, 0, none⟩ = some (.int .i64 d) := (hb.cell (p := ⟨w.heap.size, 0, none⟩) (by simp)).trans (by simp [go_sem]); have b1 : w1.cell? ⟨w.heap.size, 1, none⟩ = some (.slice p xs.length cap) := (hb.cell (p := ⟨w.heap.size, 1, none⟩) (by simp)).trans (by simp [go_sem]); have hB := hW1.trans (hb.mono (by simp)); have hH := refHas_any d 5 p cap xs _ hm (hc.below hB)) | (go_at_call 49; refine hH.mono ?_; rintro e w2 ⟨rfl, hb2⟩))
    go_ret
    exact ⟨ret_bool (by simp [plainS, h1]), hB.trans (hb2.mono hB.size)⟩
  · have h1' : rightS d xs = false := by simpa using h1
    go_enter Try.func48, Try.ntmps48
    go_wp2_with (first | (go_at_call 67; refine hR.mono ?_; rintro e w1 ⟨rfl, hb⟩))
    go_ret
    exact ⟨ret_bool (by simp [plainS, h1']), hW1.trans (hb.mono (by simp))⟩
set_option maxHeartbeats 400000 in
theorem refFree_any (d : Int) (p : Option Addr) (cap : Nat) (xs : List (Int × Int)) (w : World) (hm : xs.length ≤ maxLen) (hc : CatsAt w p xs) :
    Calls Try.prog 18 #[.agg #[.int .i64 d, .slice p xs.length cap]] w fun e w' => e = .returned (.bool (freeS d xs)) ∧ Below w.heap.size w w' := by
  have hW1 : Below w.heap.size w (w.alloc (.cells #[.int .i64 d, .slice p xs.length cap] 24)) := (Below.refl _ _).alloc (Nat.le_refl _) _
  have hR := refPlain_any d p cap xs _ hm (hc.below hW1)
  by_cases h1 : plainS d xs = true
  · go_enter Try.func18, Try.ntmps18
    go_wp2_with (first | (go_at_call 48; refine hR.mono ?_; rintro e w1 ⟨rfl, hb⟩; have b0 : w1.cell? ⟨w.heap.size, 0, none⟩ = some (.int .i64 d) := (hb.cell (p := ⟨w.heap.size, 0, none⟩) (by simp)).trans (by simp [go_sem]); have b1 : w1.cell? ⟨w.heap.size, 1, none⟩ = some (.slice p xs.length cap) := (hb.cell (p := ⟨w.heap.size, 1, none⟩) (by simp)).trans (by simp [go_sem]); have hB := hW1.trans (hb.mono (by simp)); have hH := refHas_any d 0 p cap xs _ hm (hc.below hB)) | (go_at_call 49; refine hH.mono ?_; rintro e w2 ⟨rfl, hb2⟩))
    go_ret
    exact ⟨ret_bool (by simp [freeS, h1]), hB.trans (hb2.mono hB.size)⟩
  · have h1' : plainS d xs = false := by simpa using h1
    go_enter Try.func18, Try.ntmps18
    go_wp2_with (first | (go_at_call 48; refine hR.mono ?_; rintro e w1 ⟨rfl, hb⟩))
    go_ret
    exact ⟨ret_bool (by simp [freeS, h1']), hW1.trans (hb.mono (by simp))⟩
end Go.Proofs.Ytebcnlhgkpaghaa

/- A table of objects as it lies in memory; find, container and Len of package hold. -/
import Derived.Test.YtmgfakfiiaeofaaGreatProg
import Derived.WalkKit
import Derived.WalkSpells
import Derived.WalkLawsBesides
import Derived.Handy
import Derived.BigQuiet
import Derived.Lib.Hide
import Derived.Shelf.SlSortCmp.QuietGrown
import Derived.Laws.AppendOwn
import Derived.Laws.OwnMore
import Derived.Deep.QuietTactic
import Derived.Deep.RegionLaw
import Derived.Maps.OwnSet
import Derived.Maps.OwnOps
/- Plain words of labels, and what the reference's small functions of labels answer, for every label. -/
namespace Go.Proofs.YtmgfakfiiaeofaaGreat.Ho
open Go.RowKit Go.Sort
def lev (n : Int) : Bool := decide (0 <= n) && decide (n <= 5)
def isCt (n : Int) : Bool := decide (1 <= n) && decide (n <= 2305843009213693951)
def can (x : Int × Int) : Bool := isCt x.1 && lev x.2
def gx (w : World) (n : Nat) (os : Array Obj) : World := { w with heap := w.heap ++ os, drawn := n }
theorem gx_below (w : World) (n : Nat) (os : Array Obj) : Below w.heap.size w (gx w n os) :=
 ⟨rfl, rfl, rfl, by simp [gx], fun k hk => by simp [gx, Array.getElem?_append, hk]⟩
theorem below_gx {w w' : World} (h : Below w.heap.size w w') : ∃ p : GrownBy, w' = gx w p.n p.os := by
 refine ⟨⟨w'.drawn, w'.heap.extract w.heap.size w'.heap.size⟩, ?_⟩
 obtain ⟨hp, t, n, os, out⟩ := w
 obtain ⟨hp', t', n', os', out'⟩ := w'
 obtain ⟨h1, h2, h3, h4, h5⟩ := h
 simp only at h1 h2 h3 h4 h5
 subst h1 h2 h3
 simp only [gx, World.mk.injEq, and_true]
 apply Array.ext_getElem?
 intro k
 rw [Array.getElem?_append]
 by_cases hk : k < hp.size
 · simp [hk, h5 k hk]
 · simp only [hk, if_false]
   by_cases hk2 : k < hp'.size
   · rw [Array.getElem?_extract_of_lt (by omega), Array.getElem?_eq_getElem hk2]
     simp only [show hp.size + (k - hp.size) = k from by omega]
   · rw [Array.getElem?_eq_none (by omega), Array.getElem?_eq_none (by simp; omega)]
theorem cell_gx {w : World} {a : Addr} {v : Value} (hb : a.block < w.heap.size) (h : w.cell? a = some v) (n : Nat) (os : Array Obj) : (gx w n os).cell? a = some v :=
 ((gx_below w n os).cell (p := a) hb).trans h
theorem wp_region_quiet_gx {P : Program} {id : Nat} {Q : Exit -> Act -> World -> Prop} {a : Act} {w : World} {l : List Oper} (hm : P.follows .mixedOrders = true) (hB : Region.lexB .any l.toArray = true)
 (h : wpQuiet P l.toArray (fun w' => ∃ p : GrownBy, w' = gx w p.n p.os) (fun a' => ∀ w', (∃ p : GrownBy, w' = gx w p.n p.os) -> Q .normal a' w') l a) : (Code.region id l.toArray true).wp P Q a w :=
 wp_region_quiet (C := fun w' => ∃ p : GrownBy, w' = gx w p.n p.os) hm hB ⟨⟨w.drawn + 1, #[]⟩, by simp [gx]⟩ (by simpa using h)
theorem calls_gx {P : Program} {f : FuncId} {args : Array Value} {w : World} {n : Nat} {os : Array Obj} {v : Value}
 (h : Calls P f args (gx w n os) fun e w' => e = .returned v /\ Below (gx w n os).heap.size (gx w n os) w') : Calls P f args (gx w n os) fun e w'' => e = .returned v /\ ∃ p : GrownBy, w'' = gx w p.n p.os :=
 h.mono fun _ _ ⟨he, hb⟩ => ⟨he, below_gx ((gx_below w n os).trans (hb.mono (gx_below w n os).size))⟩
def CatsAt (w : World) (p : Option Addr) (xs : List (Int × Int)) : Prop :=
 ∀ j, (h : j < xs.length) -> ∃ b off, p = some ⟨b, off, none⟩ /\ b < w.heap.size /\ w.cell? ⟨b, off + j * 2, none⟩ = some (.int .i64 xs[j].1) /\ w.cell? ⟨b, off + j * 2 + 1, none⟩ = some (.int .i64 xs[j].2)
def rOk (d : Int) : Int -> List (Int × Int) -> Bool
 | _, [] => true
 | last, x :: xs => can x && !(x.2 == d) && !(decide (x.1 <= last)) && rOk d x.1 xs
def rightS (d : Int) (xs : List (Int × Int)) : Bool := lev d && decide (xs.length <= 16) && rOk d 0 xs
def lastAt (xs : List (Int × Int)) (k : Nat) : Int := if k = 0 then 0 else (xs.getD (k - 1) (0, 0)).1
theorem rOk_step (d last : Int) (xs : List (Int × Int)) (k : Nat) (h : k < xs.length) :
 rOk d last (xs.drop k) = (can xs[k] && !(xs[k].2 == d) && !(decide (xs[k].1 <= last)) && rOk d xs[k].1 (xs.drop (k + 1))) := by
 rw [List.drop_eq_getElem_cons h]; rfl
theorem lastAt_succ (xs : List (Int × Int)) (k : Nat) (h : k < xs.length) : lastAt xs (k + 1) = xs[k].1 := by
 simp [lastAt, h]
theorem ret_bool {a b : Bool} (h : a = b) : Ending.returned (.bool a) = .returned (.bool b) := by rw [h]
theorem CatsAt.get {w : World} {p : Option Addr} {xs : List (Int × Int)} (h : CatsAt w p xs) {B : Nat} {w1 wr : World} (hb : Below B w1 wr) (h1 : Below w.heap.size w w1) (hB : w.heap.size <= B) (k : Nat) (hk : k < xs.length) :
 ∃ b off, p = some ⟨b, off, none⟩ /\ b < w.heap.size /\ wr.cell? ⟨b, off + k * 2, none⟩ = some (.int .i64 xs[k].1) /\ wr.cell? ⟨b, off + k * 2 + 1, none⟩ = some (.int .i64 xs[k].2) := by
 obtain ⟨b, off, hp, hbl, c0, c1⟩ := h k hk
 exact ⟨b, off, hp, hbl, ((hb.cell (p := ⟨b, off + k * 2, none⟩) (by simp; omega)).trans (h1.cell (p := ⟨b, off + k * 2, none⟩) hbl)).trans c0, ((hb.cell (p := ⟨b, off + k * 2 + 1, none⟩) (by simp; omega)).trans (h1.cell (p := ⟨b, off + k * 2 + 1, none⟩) hbl)).trans c1⟩
theorem bdn {B : Nat} {w w' : World} (h : Below B w w') (n : Nat) : Below B w (w'.drewN n) := ⟨h.os, h.tape, h.output, h.size, h.block⟩
def hasS (d : Int) (xs : List (Int × Int)) (l : Int) : Bool := xs.any (fun x => x.2 == l) || (d == l)
theorem hasS_step (d l : Int) (xs : List (Int × Int)) (k : Nat) (h : k < xs.length) :
 hasS d (xs.drop k) l = ((xs[k].2 == l) || hasS d (xs.drop (k + 1)) l) := by
 unfold hasS; rw [List.drop_eq_getElem_cons h, List.any_cons, Bool.or_assoc]
theorem CatsAt.below {w w' : World} {p : Option Addr} {xs : List (Int × Int)} (h : CatsAt w p xs) (hb : Below w.heap.size w w') : CatsAt w' p xs := fun j hj => by
 obtain ⟨b, off, hp, hbl, c0, c1⟩ := h j hj
 exact ⟨b, off, hp, Nat.lt_of_lt_of_le hbl hb.size, (hb.cell (p := ⟨b, off + j * 2, none⟩) hbl).trans c0, (hb.cell (p := ⟨b, off + j * 2 + 1, none⟩) hbl).trans c1⟩
def plainS (d : Int) (xs : List (Int × Int)) : Bool := rightS d xs && !hasS d xs 5
def freeS (d : Int) (xs : List (Int × Int)) : Bool := plainS d xs && !hasS d xs 0
theorem isId_any (n : Int) (w : World) : Calls Tryz.prog 31 #[.int .i64 n] w fun e w' => e = .returned (.bool (isCt n)) /\ w' = w := by
 by_cases h1 : 1 <= n <;> by_cases h2 : n <= 2305843009213693951 <;>
 · go_enter Tryz.func31, Tryz.ntmps31
   go_wp2
   go_ret
   exact ⟨by simp [isCt, h1, h2], rfl⟩
def low (k : Int) : Int := if k = 4 ∨ k = 5 then 0 else 1
theorem lowest_any (k : Int) (w : World) : Calls Tryz.prog 35 #[.int .i64 k] w fun e w' => e = .returned (.int .i64 (low k)) /\ w' = w := by
 by_cases h1 : k = 4
 · subst h1
   go_enter Tryz.func35, Tryz.ntmps35
   go_wp2
   go_ret
   exact ⟨rfl, rfl⟩
 · by_cases h2 : k = 5
   · subst h2
     go_enter Tryz.func35, Tryz.ntmps35
     go_wp2
     go_ret
     exact ⟨rfl, rfl⟩
   · have e1 : (k == 4) = false := by simpa using h1
     have e2 : (k == 5) = false := by simpa using h2
     go_enter Tryz.func35, Tryz.ntmps35
     go_wp2
     go_ret
     exact ⟨by simp [low, h1, h2], rfl⟩
def canL (f n : Int) : Bool := decide (f <= n) && decide (n <= 4)
theorem can1_any (B : Nat) (f n : Int) (w : World) (hl : w.cell? ⟨B, 0, none⟩ = some (.int .i64 f)) :
 Calls Tryz.prog 96 #[.int .i64 n, .pointer (some ⟨B, 0, none⟩)] w fun e w' => e = .returned (.bool (canL f n)) /\ w' = w := by
 by_cases h1 : f <= n <;> by_cases h2 : n <= 4 <;>
 · go_enter Tryz.func96, Tryz.ntmps96
   go_wp2
   go_ret
   exact ⟨by simp [canL, h1, h2], rfl⟩
def fOk (d f : Int) : Int -> List (Int × Int) -> Bool
 | _, [] => true
 | last, x :: xs => !(decide (x.1 <= last)) && isCt x.1 && !(x.2 == d) && canL f x.2 && fOk d f x.1 xs
def fitsS (d f : Int) (xs : List (Int × Int)) : Bool := canL f d && decide (xs.length <= 16) && fOk d f 0 xs
theorem fOk_step (d f last : Int) (xs : List (Int × Int)) (k : Nat) (h : k < xs.length) :
 fOk d f last (xs.drop k) = (!(decide (xs[k].1 <= last)) && isCt xs[k].1 && !(xs[k].2 == d) && canL f xs[k].2 && fOk d f xs[k].1 (xs.drop (k + 1))) := by
 rw [List.drop_eq_getElem_cons h]; rfl
set_option maxRecDepth 100000 in
set_option maxHeartbeats 1000000 in
theorem fits_any (d f : Int) (p : Option Addr) (cap : Nat) (xs : List (Int × Int)) (w : World) (hm : xs.length <= maxLen) (hc : CatsAt w p xs) :
 Calls Tryz.prog 32 #[.agg #[.int .i64 d, .slice p xs.length cap], .int .i64 f] w fun e w' => e = .returned (.bool (fitsS d f xs)) /\ Below w.heap.size w w' := by
 unfold maxLen at hm
 have hW1 : Below w.heap.size w ((w.alloc (.cells #[.int .i64 d, .slice p xs.length cap] 46)).alloc (.cells #[.int .i64 f] 3)) := by go_grown
 obtain ⟨W1, hW⟩ : ∃ W1, ((w.alloc (.cells #[.int .i64 d, .slice p xs.length cap] 46)).alloc (.cells #[.int .i64 f] 3)) = W1 := ⟨_, rfl⟩
 have b0 : W1.cell? ⟨w.heap.size, 0, none⟩ = some (.int .i64 d) := by rw [<- hW]; simp [go_sem]
 have b1 : W1.cell? ⟨w.heap.size, 1, none⟩ = some (.slice p xs.length cap) := by rw [<- hW]; simp [go_sem]
 have b2 : W1.cell? ⟨w.heap.size + 1, 0, none⟩ = some (.int .i64 f) := by rw [<- hW]; simp [go_sem]
 have hs1 : W1.heap.size = w.heap.size + 2 := by rw [<- hW]; simp
 rw [hW] at hW1
 have HC : Hid (∀ n, Calls Tryz.prog 96 #[.int .i64 n, .pointer (some ⟨w.heap.size + 1, 0, none⟩)] W1 fun e w' => e = .returned (.bool (canL f n)) /\ w' = W1) := fun n => can1_any _ f n W1 b2
 by_cases h1 : canL f d = true
 · by_cases h2 : xs.length <= 16
   · have h2' : ¬ (16 : Int) < (xs.length : Int) := by omega
     go_enter Tryz.func32, Tryz.ntmps32
     go_wp2_with (first | (go_at_call 96; refine (HC.out _).mono ?_; rintro e w' ⟨rfl, hw'⟩; rw [hw']; clear hw' w'))
     go_loopw [6, 24] (fun l i wr => ∃ k : Nat, k <= xs.length /\ i = .int .i64 k /\ l = .int .i64 (lastAt xs k) /\ fOk d f 0 xs = fOk d f (lastAt xs k) (xs.drop k) /\ Below W1.heap.size W1 wr) (fun _ i _ => xs.length - (intOf i).toNat)
     case atStart => exact ⟨0, Nat.zero_le _, rfl, rfl, by simp [lastAt], Below.refl _ _⟩
     case round =>
      obtain ⟨k, hk, rfl, rfl, hr, hb⟩ := hrel
      have b0r : wr.cell? ⟨w.heap.size, 0, none⟩ = some (.int .i64 d) := (hb.cell (p := ⟨w.heap.size, 0, none⟩) (by simp; omega)).trans b0
      have b2r : wr.cell? ⟨w.heap.size + 1, 0, none⟩ = some (.int .i64 f) := (hb.cell (p := ⟨w.heap.size + 1, 0, none⟩) (by simp; omega)).trans b2
      have HR : Hid (fOk d f 0 xs = fOk d f (lastAt xs k) (xs.drop k)) := hr
      have hB : Below w.heap.size w wr := hW1.trans (hb.mono (by omega))
      have hsz : w.heap.size <= wr.heap.size := hB.size
      have hz : w.heap.size + 1 < wr.heap.size := by have := hb.size; omega
      have hz0 : w.heap.size < wr.heap.size := by omega
      clear hr b0 b1 b2 HC
      by_cases hlt : k < xs.length
      · obtain ⟨b, off, rfl, hbl, c0, c1⟩ := hc.get hb hW1 (by omega) k hlt
        clear hc
        have HS : Hid (fOk d f (lastAt xs k) (xs.drop k) = (!(decide (xs[k].1 <= lastAt xs k)) && isCt xs[k].1 && !(xs[k].2 == d) && canL f xs[k].2 && fOk d f xs[k].1 (xs.drop (k + 1)))) := fOk_step d f _ xs k hlt
        by_cases h3 : xs[k].1 <= lastAt xs k
        · have h3b : decide (xs[k].1 <= lastAt xs k) = true := by simpa using h3
          go_wp2_with (first | (go_at_call 96; refine (can1_any _ f _ _ (by simp [go_sem, b2r, hz])).mono ?_; rintro e w' ⟨rfl, hw'⟩; rw [hw']; clear hw' w') | (go_at_call 31; refine (isId_any _ _).mono ?_; rintro e w' ⟨rfl, hw'⟩; rw [hw']; clear hw' w'))
          go_ret
          exact ⟨ret_bool (by unfold fitsS; rw [HR.out, HS.out]; simp [h3]), by go_grown⟩
        · have h3b : decide (xs[k].1 <= lastAt xs k) = false := by simpa using h3
          by_cases h4 : isCt xs[k].1 = true
          · by_cases h5 : (xs[k].2 == d) = true
            · go_wp2_with (first | (go_at_call 96; refine (can1_any _ f _ _ (by simp [go_sem, b2r, hz])).mono ?_; rintro e w' ⟨rfl, hw'⟩; rw [hw']; clear hw' w') | (go_at_call 31; refine (isId_any _ _).mono ?_; rintro e w' ⟨rfl, hw'⟩; rw [hw']; clear hw' w'))
              go_ret
              exact ⟨ret_bool (by unfold fitsS; rw [HR.out, HS.out]; simp [h5]), by go_grown⟩
            · have h5' : (xs[k].2 == d) = false := by simpa using h5
              by_cases h6 : canL f xs[k].2 = true
              · go_wp2_with (first | (go_at_call 96; refine (can1_any _ f _ _ (by simp [go_sem, b2r, hz])).mono ?_; rintro e w' ⟨rfl, hw'⟩; rw [hw']; clear hw' w') | (go_at_call 31; refine (isId_any _ _).mono ?_; rintro e w' ⟨rfl, hw'⟩; rw [hw']; clear hw' w'))
                go_roundw
                case rel => exact ⟨k + 1, by omega, by go_num, by rw [lastAt_succ xs k hlt], by rw [HR.out, HS.out, lastAt_succ xs k hlt]; simp [h3, h4, h5', h6], by go_grown⟩
                case measure => simp [intOf]; omega
              · have h6' : canL f xs[k].2 = false := by simpa using h6
                go_wp2_with (first | (go_at_call 96; refine (can1_any _ f _ _ (by simp [go_sem, b2r, hz])).mono ?_; rintro e w' ⟨rfl, hw'⟩; rw [hw']; clear hw' w') | (go_at_call 31; refine (isId_any _ _).mono ?_; rintro e w' ⟨rfl, hw'⟩; rw [hw']; clear hw' w'))
                go_ret
                exact ⟨ret_bool (by unfold fitsS; rw [HR.out, HS.out]; simp [h6']), by go_grown⟩
          · have h4' : isCt xs[k].1 = false := by simpa using h4
            go_wp2_with (first | (go_at_call 96; refine (can1_any _ f _ _ (by simp [go_sem, b2r, hz])).mono ?_; rintro e w' ⟨rfl, hw'⟩; rw [hw']; clear hw' w') | (go_at_call 31; refine (isId_any _ _).mono ?_; rintro e w' ⟨rfl, hw'⟩; rw [hw']; clear hw' w'))
            go_ret
            exact ⟨ret_bool (by unfold fitsS; rw [HR.out, HS.out]; simp [h4']), by go_grown⟩
      · go_wp2
        go_ret
        exact ⟨ret_bool (by unfold fitsS; rw [HR.out, List.drop_of_length_le (by omega)]; simp [fOk, h1, h2]), hB⟩
   · have h2' : (16 : Int) < (xs.length : Int) := by omega
     go_enter Tryz.func32, Tryz.ntmps32
     go_wp2_with (first | (go_at_call 96; refine (HC.out _).mono ?_; rintro e w' ⟨rfl, hw'⟩; rw [hw']; clear hw' w'))
     go_ret
     exact ⟨ret_bool (by unfold fitsS; simp; omega), hW1⟩
 · have h1' : canL f d = false := by simpa using h1
   go_enter Tryz.func32, Tryz.ntmps32
   go_wp2_with (first | (go_at_call 96; refine (HC.out _).mono ?_; rintro e w' ⟨rfl, hw'⟩; rw [hw']; clear hw' w'))
   go_ret
   exact ⟨ret_bool (by unfold fitsS; simp [h1']), hW1⟩
theorem entryInfo : (Tryz.prog.info? 163).map (fun i => (i.zero, i.size, i.bytes)) = some (some (.agg #[.int .i64 0, .int .i64 0]), 2, 16) := by kernel_rfl
theorem intInfo : (Tryz.prog.info? 3).map (fun i => (i.zero, i.size, i.bytes)) = some (some (.int .i64 0), 1, 8) := by kernel_rfl
def flat (xs : List (Int × Int)) : List Value := xs.flatMap fun x => [.int .i64 x.1, .int .i64 x.2]
theorem flat_length (xs : List (Int × Int)) : (flat xs).length = xs.length * 2 := by
 unfold flat; induction xs with
 | nil => rfl
 | cons x l ih => simp only [List.flatMap_cons, List.length_append, ih, List.length_cons, List.length_nil]; omega
theorem flat_at : ∀ (l : List (Int × Int)) (i : Nat) (h : i < l.length), (flat l)[i * 2]? = some (.int .i64 l[i].1) /\ (flat l)[i * 2 + 1]? = some (.int .i64 l[i].2)
 | [], i, h => by simp at h
 | y :: l, 0, h => ⟨rfl, rfl⟩
 | y :: l, i + 1, h => by
  have := flat_at l i (by simpa using h)
  rw [show (i + 1) * 2 = i * 2 + 1 + 1 from by omega]
  exact this
theorem flat_one (xs : List (Int × Int)) : ∀ u ∈ flat xs, u.oneCell' = true := by
 intro u hu
 unfold flat at hu
 obtain ⟨x, _, hx⟩ := List.mem_flatMap.1 hu
 simp at hx
 rcases hx with rfl | rfl <;> rfl
theorem CatsAt.flat {w : World} {b off : Nat} {xs : List (Int × Int)} (h : CatsAt w (some ⟨b, off, none⟩) xs) : ∀ j u, (flat xs)[j]? = some u -> w.cell? ((⟨b, off, none⟩ : Addr).add j) = some u := by
 intro j u hu
 have hj : j < xs.length * 2 := by rw [<- flat_length]; exact (List.getElem?_eq_some_iff.1 hu).1
 obtain ⟨b', off', he, _, c0, c1⟩ := h (j / 2) (by omega)
 simp only [Option.some.injEq, Addr.mk.injEq, and_true] at he
 obtain ⟨rfl, rfl⟩ := he
 have e := flat_at xs (j / 2) (by omega)
 rw [show (⟨b, off, none⟩ : Addr).add j = ⟨b, off + j, none⟩ from by unfold Addr.add; split <;> simp_all]
 by_cases h2 : j % 2 = 0
 · rw [show j = j / 2 * 2 from by omega] at hu |-
   rw [e.1] at hu
   exact c0.trans hu
 · rw [show j = j / 2 * 2 + 1 from by omega] at hu |-
   rw [e.2] at hu
   exact c1.trans hu
theorem CatsAt.nil {w : World} {xs : List (Int × Int)} (h : CatsAt w none xs) : xs = [] := by
 cases xs with
 | nil => rfl
 | cons x l => obtain ⟨b, off, he, _⟩ := h 0 (by simp); cases he
theorem row_form {w : World} {base e size n : Nat} {v : Value} {xs : List Value} (h : w.ownsRow base e size v n xs) : ∃ sp cap, v = .slice sp n cap := by
 rcases h.2 with ⟨rfl, h0⟩ | ⟨g, cap, _, rfl, _⟩
 · exact ⟨none, 0, by rw [h0]⟩
 · exact ⟨_, _, rfl⟩
theorem row_mono {w : World} {b b' e size n : Nat} {v : Value} {xs : List Value} (h : w.ownsRow b e size v n xs) (hb : b' <= b) : w.ownsRow b' e size v n xs := by
 refine ⟨h.1, ?_⟩
 rcases h.2 with h | ⟨g, cap, cur, h1, h2, h3⟩
 · exact .inl h
 · exact .inr ⟨g, cap, cur, h1, Nat.le_trans hb h2, h3⟩
theorem row_same {w w' : World} {b e size n : Nat} {v : Value} {xs : List Value} (h : w.ownsRow b e size v n xs) (hs : ∀ k, v.ownBlock = some k -> w'.heap[k]? = w.heap[k]?) : w'.ownsRow b e size v n xs := by
 refine ⟨h.1, ?_⟩
 rcases h.2 with h | ⟨g, cap, cur, h1, h2, h3, h4⟩
 · exact .inl h
 · subst h1
   exact .inr ⟨g, cap, cur, rfl, h2, (hs g rfl).trans h3, h4⟩
theorem heap_ne (w : World) (a : Addr) (v : Value) {k : Nat} (h : k ≠ a.block) : (w.setCell a v).heap[k]? = w.heap[k]? := by
 show (w.heap.modify a.block _)[k]? = _
 rw [Array.getElem?_modify, if_neg (Ne.symm h)]
theorem heap_new (w : World) (o : Obj) : (w.alloc o).heap[w.heap.size]? = some o := by show (w.heap.push o)[w.heap.size]? = _; simp
set_option maxRecDepth 100000 in
set_option maxHeartbeats 1000000 in
theorem CloneE_any (p : Option Addr) (cap : Nat) (xs : List (Int × Int)) (w : World) (hm : xs.length * 16 <= 140737488355328) (hc : CatsAt w p xs) :
 Calls Tryz.prog 113 #[.slice p xs.length cap] w fun e w' => ∃ v, e = .returned v /\ w'.ownsRow w.heap.size 163 2 v xs.length (flat xs) /\ Below w.heap.size w w' := by
 obtain ⟨i0, hi, hz0, hz1, hz2⟩ := info_parts entryInfo
 cases p with
 | none =>
  have := hc.nil
  subst this
  have hnil := fun (w : World) => Lib.run_eql_slice_nil (P := Tryz.prog) w 44 163 none 0 cap 0 0 Tryz.underlying44
  clear hc
  go_enter Tryz.func113, Tryz.ntmps113
  go_wp2
  go_ret
  exact ⟨_, rfl, World.ownsRow_nil _ _ _ _, Below.refl _ _⟩
 | some a =>
  by_cases hx0 : xs.length = 0
  · have : xs = [] := List.length_eq_zero_iff.1 hx0
    subst this
    have hnil := fun (w : World) => Lib.run_eql_slice_nil (P := Tryz.prog) w 44 163 (some a) 0 cap 0 0 Tryz.underlying44
    have hown : (w.alloc (.cells #[] 163)).ownsRow w.heap.size 163 2 (.slice (some ⟨w.heap.size, 0, none⟩) 0 0) 0 [] := World.ownsRow_lit (base := w.heap.size) (e := 163) (size := 2) w #[] 0 (Nat.le_refl _) (by decide) rfl
    have hW : Below w.heap.size w (w.alloc (.cells #[] 163)) := by go_grown
    clear hc
    go_enter Tryz.func113, Tryz.ntmps113
    go_wp2_with (at_builtin; refine wpList_append_own _ rfl _ _ 44 rfl w.heap.size 163 i0 (.agg #[.int .i64 0, .int .i64 0]) 2 16 Tryz.underlying44 hi hz0 hz1 hz2 rfl (by decide) _ _ _ rfl hown a 0 cap [] rfl rfl (fun j u hu => by simp at hu) (fun u hu => by simp at hu) (by unfold maxLen; omega) (by omega) (by simp) ?_; intro v' w3 hown' hgrow3 hnil3)
    go_ret
    exact ⟨v', rfl, hown', Below.grown hW hgrow3 (by simp) (fun k hk => Nat.le_of_eq (Option.some.inj (show some w.heap.size = some k from hk)))⟩
  · obtain ⟨b, off, he, _⟩ := hc 0 (by omega)
    obtain rfl : a = ⟨b, off, none⟩ := Option.some.inj he
    have hnil := fun (w : World) => Lib.run_eql_slice_nil (P := Tryz.prog) w 44 163 (some ⟨b, off, none⟩) xs.length cap 0 0 Tryz.underlying44
    have hown : (w.alloc (.cells #[] 163)).ownsRow w.heap.size 163 2 (.slice (some ⟨w.heap.size, 0, none⟩) 0 0) 0 [] := World.ownsRow_lit (base := w.heap.size) (e := 163) (size := 2) w #[] 0 (Nat.le_refl _) (by decide) rfl
    have hW : Below w.heap.size w (w.alloc (.cells #[] 163)) := by go_grown
    have HN : Hid (∀ j u, (flat xs)[j]? = some u -> (w.alloc (.cells #[] 163)).cell? ((⟨b, off, none⟩ : Addr).add j) = some u) := (hc.below hW).flat
    have h63 : 0 + xs.length <= maxLen := by unfold maxLen; omega
    have hby : (0 + xs.length) * 16 <= 140737488355328 := by omega
    clear hc
    go_enter Tryz.func113, Tryz.ntmps113
    go_wp2_with (at_builtin; refine wpList_append_own _ rfl _ _ 44 rfl w.heap.size 163 i0 (.agg #[.int .i64 0, .int .i64 0]) 2 16 Tryz.underlying44 hi hz0 hz1 hz2 rfl (by decide) _ _ _ rfl hown ⟨b, off, none⟩ xs.length cap (flat xs) rfl (flat_length xs) HN.out (flat_one xs) h63 hby (by simp) ?_; intro v' w3 hown' hgrow3 hnil3)
    go_ret
    rw [Nat.zero_add, List.nil_append] at hown'
    exact ⟨v', rfl, hown', Below.grown hW hgrow3 (by simp) (fun k hk => Nat.le_of_eq (Option.some.inj (show some w.heap.size = some k from hk)))⟩
set_option maxRecDepth 100000 in
set_option maxHeartbeats 1000000 in
theorem copied_any (d : Int) (p : Option Addr) (cap : Nat) (xs : List (Int × Int)) (w : World) (hm : xs.length * 16 <= 140737488355328) (hc : CatsAt w p xs) :
 Calls Tryz.prog 97 #[.agg #[.int .i64 d, .slice p xs.length cap]] w fun e w' => ∃ sp c, e = .returned (.agg #[.int .i64 d, .slice sp xs.length c]) /\ w'.ownsRow w.heap.size 163 2 (.slice sp xs.length c) xs.length (flat xs) /\ Below w.heap.size w w' := by
 have hW1 : Below w.heap.size w ((w.alloc (.cells #[.int .i64 d, .slice p xs.length cap] 46)).alloc (.cells #[.int .i64 0, .slice none 0 0] 46)) := by go_grown
 obtain ⟨W1, hW⟩ : ∃ W1, ((w.alloc (.cells #[.int .i64 d, .slice p xs.length cap] 46)).alloc (.cells #[.int .i64 0, .slice none 0 0] 46)) = W1 := ⟨_, rfl⟩
 have b0 : W1.drew.cell? ⟨w.heap.size, 0, none⟩ = some (.int .i64 d) := by rw [<- hW]; simp [go_sem]
 have b1 : W1.drew.cell? ⟨w.heap.size, 1, none⟩ = some (.slice p xs.length cap) := by rw [<- hW]; simp [go_sem]
 have b2 : ∃ u, W1.drew.cell? ⟨w.heap.size + 1, 0, none⟩ = some u := by rw [<- hW]; exact ⟨.int .i64 0, by simp [go_sem]⟩
 have b3 : ∃ u, W1.drew.cell? ⟨w.heap.size + 1, 1, none⟩ = some u := by rw [<- hW]; exact ⟨.slice none 0 0, by simp [go_sem]⟩
 have b4 : ∀ o, W1.drew.frozen? ⟨w.heap.size + 1, o, none⟩ = false := fun o => by rw [<- hW]; simp [go_sem]
 have hs1 : W1.heap.size = w.heap.size + 2 := by rw [<- hW]; simp
 have hsd : W1.drew.heap.size = w.heap.size + 2 := hs1
 obtain ⟨r0, b2⟩ := b2
 obtain ⟨r1, b3⟩ := b3
 have hB1 : Below w.heap.size w W1 := by rw [<- hW]; exact hW1
 have hbd : Below W1.heap.size W1 W1.drew := ⟨rfl, rfl, rfl, Nat.le_refl _, fun _ _ => rfl⟩
 have HC := Lib.hid (CloneE_any p cap xs W1.drew hm (hc.below (hB1.trans (hbd.mono hB1.size))))
 clear hW1 hc
 go_enter Tryz.func97, Tryz.ntmps97
 go_wp2_with fail
 clear hW
 go_region_law (go_simp; go_at_call 113; refine Calls.mono HC.out ?_; rintro e w4 ⟨v4, rfl, hR4, hb4⟩; obtain ⟨sp4, cap4, rfl⟩ := row_form hR4; have y0 := (hb4.cell (p := ⟨w.heap.size, 0, none⟩) (by simp; omega)).trans b0; have y2 := (hb4.cell (p := ⟨w.heap.size + 1, 0, none⟩) (by simp; omega)).trans b2; have y3 := (hb4.cell (p := ⟨w.heap.size + 1, 1, none⟩) (by simp; omega)).trans b3; have yf : (∀ o, w4.frozen? ⟨w.heap.size + 1, o, none⟩ = false) := (fun o => (hb4.frozen (p := ⟨w.heap.size + 1, o, none⟩) (by simp; omega)).trans (b4 o)); have HR4 := Lib.hid hR4; have HB4 := Lib.hid hb4; clear hR4 hb4)
 all_goals go_wp2
 all_goals
  have hb4 : RowKit.Below w.heap.size w w4 := (hB1.trans (hbd.mono hB1.size)).trans (HB4.out.mono (by omega))
  refine bodyPost_ret (by simp [results, Tryz.results97, go_sem, y2, y3]) rfl ⟨sp4, cap4, rfl, ?_, ?_⟩
  · refine row_mono (row_same HR4.out (fun k hk => ?_)) (by omega)
    have := (HR4.out.lt k hk).1
    rw [heap_ne _ _ _ (by show k ≠ w.heap.size + 1; omega), heap_ne _ _ _ (by show k ≠ w.heap.size + 1; omega)]
  · exact (hb4.setCell (p := ⟨w.heap.size + 1, 0, none⟩) (by simp) _).setCell (p := ⟨w.heap.size + 1, 1, none⟩) (by simp) _
set_option maxRecDepth 100000 in
set_option maxHeartbeats 1000000 in
theorem newObject_any (id kind quota d : Int) (p : Option Addr) (cap : Nat) (xs : List (Int × Int)) (w : World) (hm : xs.length * 16 <= 140737488355328) (hc : CatsAt w p xs) :
 Calls Tryz.prog 33 #[.int .i64 id, .int .i64 kind, .int .i64 quota, .agg #[.int .i64 d, .slice p xs.length cap]] w fun e w' => ∃ B cv, e = .returned (.pointer (some ⟨B, 0, none⟩)) /\ w'.heap[B]? = some (.cells #[.int .i64 id, .int .i64 kind, .int .i64 quota, .int .i64 0, .int .i64 0, .int .i64 d, cv, .slice none 0 0] 110 (0, 0)) /\ w.heap.size <= B /\ w'.ownsRow w.heap.size 163 2 cv xs.length (flat xs) /\ Below w.heap.size w w' := by
 have hW1 : Below w.heap.size w (w.alloc (.cells #[.int .i64 d, .slice p xs.length cap] 46)) := by go_grown
 have HC := Lib.hid (copied_any d p cap xs _ hm (hc.below hW1))
 clear hc
 go_enter Tryz.func33, Tryz.ntmps33
 go_wp2_with (first | (go_at_call 97; refine HC.out.mono ?_; rintro e w2 ⟨sp, c, rfl, hr2, hb2⟩; have HR := Lib.hid hr2; clear hr2))
 go_ret
 have hz := hb2.size
 simp at hz
 have hB : Below w.heap.size w w2 := hW1.trans (hb2.mono (by simp))
 refine ⟨w2.heap.size, .slice sp xs.length c, rfl, heap_new _ _, by omega, row_mono (HR.out.alloc _) (by simp), hB.alloc (by omega) _⟩
open Go.Maps (Keyed)
structure Ob where
 id : Int
 kind : Int
 quota : Int
 used : Int
 links : Int
 df : Int
 cats : List (Int × Int)
 ents : List Int
structure Rc where
 B : Nat
 cv : Value
 iv : Value
 ob : Ob
abbrev Tab := Int -> Option Rc
def ivs (l : List Int) : List Value := l.map fun x => .int .i64 x
theorem ivs_len (l : List Int) : (ivs l).length = l.length * 1 := by unfold ivs; simp
def cellsR (r : Rc) : Array Value := #[.int .i64 r.ob.id, .int .i64 r.ob.kind, .int .i64 r.ob.quota, .int .i64 r.ob.used, .int .i64 r.ob.links, .int .i64 r.ob.df, r.cv, r.iv]
structure RAt (w : World) (base : Nat) (r : Rc) : Prop where
 blk : w.heap[r.B]? = some (.cells (cellsR r) 110 (0, 0))
 cat : w.ownsRow base 163 2 r.cv r.ob.cats.length (flat r.ob.cats)
 row : w.ownsRow base 3 1 r.iv r.ob.ents.length (ivs r.ob.ents)
 low : base <= r.B
def foot (r : Rc) (k : Nat) : Prop := k = r.B ∨ r.cv.ownBlock = some k ∨ r.iv.ownBlock = some k
def ptrE : Value -> Option (DataW Unit × List MemPlace)
 | .pointer none => some (.lit (.int .i64 (-1)), [])
 | .pointer (some ⟨B, 0, none⟩) => some (.lit (.int .i64 B), [])
 | _ => none
theorem ptrE_inv {v : Value} {B : Nat} {ps : List MemPlace} (h : ptrE v = some (.lit (.int .i64 B), ps)) : v = .pointer (some ⟨B, 0, none⟩) := by
 unfold ptrE at h
 split at h
 · simp at h
 · simp at h
   have := h.1
   have e := Int.ofNat.inj this
   subst e; rfl
 · cases h
theorem ptrE_nil {v : Value} {ps : List MemPlace} (h : ptrE v = some (.lit (.int .i64 (-1)), ps)) : v = .pointer none := by
 unfold ptrE at h
 split at h
 · rfl
 · simp at h
 · cases h
abbrev MapAt (w : World) (mb : Nat) (D : DataW Unit) : Prop := w.ownsMap Tryz.prog 3 ptrE mb (Maps.size D) D
abbrev ky (k : Int) : Lit := .int .i64 k
structure TAt (w : World) (base tb mb : Nat) (D : DataW Unit) (T : Tab) : Prop where
 blk : w.heap[tb]? = some (.cells #[.map (some mb)] 113 (0, 0))
 map : MapAt w mb D
 has : ∀ k, Maps.has D (ky k) = (T k).isSome
 at_ : ∀ k r, T k = some r -> ∀ z, D.atKey (ky k) z = .lit (.int .i64 (r.B : Int))
 obj : ∀ k r, T k = some r -> RAt w base r /\ r.ob.id = k
 apart : ∀ i j r s k, T i = some r -> T j = some s -> i ≠ j -> foot r k -> foot s k -> False
 lowt : base <= tb
 lowm : base <= mb
def tfoot (tb mb : Nat) (T : Tab) (k : Nat) : Prop := k = tb ∨ k = mb ∨ ∃ i r, T i = some r /\ foot r k
structure Fm (w w' : World) (F F' : Nat -> Prop) : Prop where
 os : w'.os = w.os
 tape : w'.tape = w.tape
 output : w'.output = w.output
 size : w.heap.size <= w'.heap.size
 same : ∀ k, k < w.heap.size -> ¬ F k -> w'.heap[k]? = w.heap[k]?
 new : ∀ k, F' k -> F k ∨ w.heap.size <= k
theorem ui : Tryz.prog.underlying 3 = some (.int .i64) := by kernel_rfl
theorem um : Tryz.prog.underlying 111 = some (.map 3 105) := by kernel_rfl
theorem keyedI : Keyed Tryz.prog 3 := Maps.int_keyed ui
def i64 (n : Int) : Prop := -9223372036854775808 <= n /\ n <= 9223372036854775807
theorem wf64 {n : Int} (h : i64 n) : (Lit.int .i64 n).wf = true := by
 simp [Lit.wf]
 have h1 : IntKind.min .i64 = -9223372036854775808 := by decide
 have h2 : IntKind.max .i64 = 9223372036854775807 := by decide
 unfold i64 at h
 omega
theorem keyI {n : Int} (h : i64 n) : keyOf Tryz.prog 3 (.int .i64 n) = some (ky n) := Maps.keyOf_int_mk ui (wf64 h)
def fnd (T : Tab) (id : Int) : Value := .pointer ((T id).map fun r => ⟨r.B, 0, none⟩)
theorem look_any {w : World} {base tb mb : Nat} {D : DataW Unit} {T : Tab} (h : TAt w base tb mb D T) (id : Int) (hi : i64 id) :
 (Instr.lookup 111 (.map (some mb)) (.int .i64 id) false).run Tryz.prog w = .ok (fnd T id) w := by
 obtain ⟨v, ps, hrun, hv⟩ := h.map.lookup keyedI um (z := .pointer none) (by kernel_rfl) (zd := .lit (.int .i64 (-1))) (zp := []) rfl (keyI hi)
 have hv2 : v = fnd T id := by
  unfold fnd
  cases hT : T id with
  | none =>
   have hh : Maps.has D (ky id) = false := by rw [h.has, hT]; rfl
   rw [Maps.atKey_of_not_has hh] at hv
   exact ptrE_nil hv
  | some r =>
   rw [h.at_ id r hT] at hv
   exact ptrE_inv hv
 rw [hrun, hv2]
theorem find_any {w : World} {base tb mb : Nat} {D : DataW Unit} {T : Tab} (h : TAt w base tb mb D T) (id : Int) (hi : i64 id) :
 Calls Tryz.prog 36 #[.pointer (some ⟨tb, 0, none⟩), .int .i64 id] w fun e w' => e = .returned (fnd T id) /\ w' = w := by
 have hl := look_any h id hi
 have c0 : w.cell? ⟨tb, 0, none⟩ = some (.map (some mb)) := by simp [World.cell?, h.blk]
 clear h
 go_enter Tryz.func36, Tryz.ntmps36
 go_wp2
 go_ret
 exact ⟨rfl, rfl⟩
theorem Len_any {w : World} {base tb mb : Nat} {D : DataW Unit} {T : Tab} (h : TAt w base tb mb D T) :
 Calls Tryz.prog 37 #[.pointer (some ⟨tb, 0, none⟩)] w fun e w' => e = .returned (.int .i64 (Maps.size D)) /\ w' = w := by
 have c0 : w.cell? ⟨tb, 0, none⟩ = some (.map (some mb)) := by simp [World.cell?, h.blk]
 have hl := World.ownsMap.len h.map um 3
 clear h
 go_enter Tryz.func37, Tryz.ntmps37
 go_wp2
 go_ret
 exact ⟨rfl, rfl⟩
end Go.Proofs.YtmgfakfiiaeofaaGreat.Ho

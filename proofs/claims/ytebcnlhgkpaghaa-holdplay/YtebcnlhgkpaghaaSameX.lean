/- What SameInts, Same and SameInfo of the reference answer. -/
import Derived.Test.YtebcnlhgkpaghaaListT
import Derived.Test.YtebcnlhgkpaghaaShiftsBase
import Derived.Laws.StructEq
namespace Go.Proofs.Ytebcnlhgkpaghaa
open Go.RowKit Go.Sort
theorem row_ints {w : World} {base : Nat} {p : Option Addr} {cap : Nat} {l : List Int} (h : w.ownsRow base 3 1 (.slice p l.length cap) l.length (ivs l)) : IntsAt w p l := by
  intro k hlt
  rcases h.2 with ⟨hv, h0⟩ | ⟨g, cap', cur, hv, _, hg, _⟩
  · omega
  · simp at hv
    obtain ⟨rfl, rfl⟩ := hv
    refine ⟨g, 0, rfl, (Array.getElem?_eq_some_iff.1 hg).1, ?_⟩
    rw [Nat.zero_add, h.cellAt k (by omega)]
    unfold ivs; simp [hlt]
theorem take_eq {a b : List Int} {k : Nat} (ha : k < a.length) (hb : k < b.length) (h : a.take k = b.take k) (he : a[k] = b[k]) : a.take (k + 1) = b.take (k + 1) := by
  rw [List.take_succ_eq_append_getElem ha, List.take_succ_eq_append_getElem hb, h, he]
theorem take_ne {a b : List Int} {k : Nat} (ha : k < a.length) (hb : k < b.length) (he : ¬ a[k] = b[k]) : a ≠ b := fun e => by subst e; exact he rfl
set_option maxRecDepth 100000 in
set_option maxHeartbeats 1000000 in
theorem SameInts_any (w : World) (p q : Option Addr) (c d : Nat) (a b : List Int) (ha : IntsAt w p a) (hb : IntsAt w q b) (hla : a.length < 1000000) :
    Calls Try.prog 22 #[.slice p a.length c, .slice q b.length d] w fun e w' => e = .returned (.bool (a == b)) ∧ Below w.heap.size w w' := by
  by_cases hl : a.length = b.length
  · have HL := Lib.hid hl
    have hli : ¬ ((a.length : Int) ≠ (b.length : Int)) := by omega
    have hlb : ((a.length : Int) != (b.length : Int)) = false := by simp [hl]
    clear hl
    go_enter Try.func22, Try.ntmps22
    go_wp2_with fail
    go_loopw [13] (fun y wr => ∃ k : Nat, y = .int .i64 k ∧ k ≤ a.length ∧ a.take k = b.take k ∧ Below w.heap.size w wr) (fun y _ => (a.length - (RowKit.intOf y).toNat))
    case atStart => exact ⟨0, rfl, Nat.zero_le _, rfl, Below.refl _ _⟩
    case round =>
      obtain ⟨k, rfl, hk, htk, hB⟩ := hrel
      have HTK := Lib.hid htk
      have HBw := Lib.hid hB
      clear htk
      by_cases hlt : k < a.length
      · have hltb : k < b.length := by have := HL.out; omega
        have hki : (k : Int) < (a.length : Int) := by omega
        have hkj : (k : Int) < (b.length : Int) := by omega
        obtain ⟨ga, oa, rfl, hga, cga⟩ := ha k hlt
        obtain ⟨gb, ob, rfl, hgb, cgb⟩ := hb k hltb
        have d0 : ∀ n, (wr.drewN n).cell? ⟨ga, oa + k, none⟩ = some (.int .i64 a[k]) := fun n => show wr.cell? _ = _ from (hB.cell (p := ⟨ga, oa + k, none⟩) hga).trans cga
        have d1 : ∀ n, (wr.drewN n).cell? ⟨gb, ob + k, none⟩ = some (.int .i64 b[k]) := fun n => show wr.cell? _ = _ from (hB.cell (p := ⟨gb, ob + k, none⟩) hgb).trans cgb
        have HTE := fun e => Lib.hid (take_eq hlt hltb HTK.out e)
        have HNE := fun e => Lib.hid (take_ne hlt hltb e)
        obtain ⟨xa, hxa⟩ : ∃ xa, a[k] = xa := ⟨_, rfl⟩
        obtain ⟨xb, hxb⟩ : ∃ xb, b[k] = xb := ⟨_, rfl⟩
        simp only [hxa] at d0 HTE HNE
        simp only [hxb] at d1 HTE HNE
        clear ha hb cga cgb hB hxa hxb
        by_cases he : xa = xb
        · have heb : (xa != xb) = false := by simp [he]
          have HT2 := HTE he
          have heq : (xa == xb) = true := by simp [he]
          clear HTE HNE
          go_wp2_with fail
          go_quiet (fail)
          go_wp2_with fail
          go_roundw
          case rel => exact ⟨k + 1, by go_num, by omega, HT2.out, HBw.out.trans ⟨rfl, rfl, rfl, Nat.le_refl _, fun _ _ => rfl⟩⟩
          case measure => simp [RowKit.intOf]; omega
        · have heb : (xa != xb) = true := by simp [he]
          have HN2 := HNE he
          clear HTE HNE
          go_wp2_with fail
          go_quiet (fail)
          go_wp2_with fail
          go_ret
          exact ⟨by rw [show (a == b) = false from by simpa using HN2.out]; rfl, HBw.out.trans ⟨rfl, rfl, rfl, Nat.le_refl _, fun _ _ => rfl⟩⟩
      · obtain rfl : k = a.length := by omega
        have hkk : ¬ (a.length : Int) < (a.length : Int) := by omega
        have hee : a = b := by have := HTK.out; rw [List.take_length, HL.out, List.take_length] at this; exact this
        have HEE := Lib.hid hee
        clear hee ha hb hB
        go_wp2_with fail
        go_ret
        exact ⟨by rw [show (a == b) = true from by simpa using HEE.out]; rfl, HBw.out⟩
  · have hli : ((a.length : Int) ≠ (b.length : Int)) := by omega
    have hlb : ((a.length : Int) != (b.length : Int)) = true := by simpa using hli
    have HNE : Hid ((a == b) = false) := by
      show (a == b) = false
      simp only [beq_eq_false_iff_ne, ne_eq]
      intro e; exact hl (by rw [e])
    clear ha hb hl
    go_enter Try.func22, Try.ntmps22
    go_wp2_with fail
    go_ret
    exact ⟨by rw [HNE.out]; rfl, Below.refl _ _⟩
def sameS (da db : Int) (xs ys : List (Int × Int)) : Bool := decide (da = db) && decide (xs = ys)
theorem guardS : Try.prog.eqGuardType Try.prog.depth 84 = false := by kernel_rfl
theorem same_step (xs ys : List (Int × Int)) (k : Nat) (h1 : k < xs.length) (h2 : k < ys.length) : decide (xs.drop k = ys.drop k) = (decide (xs[k] = ys[k]) && decide (xs.drop (k + 1) = ys.drop (k + 1))) := by
  rw [List.drop_eq_getElem_cons h1, List.drop_eq_getElem_cons h2, Bool.eq_iff_iff, Bool.and_eq_true]
  simp only [decide_eq_true_eq, List.cons.injEq]

set_option maxRecDepth 100000 in
set_option maxHeartbeats 1000000 in
theorem Same_any (da db : Int) (p q : Option Addr) (cx cy : Nat) (xs ys : List (Int × Int)) (w : World) (hmx : xs.length ≤ maxLen) (hmy : ys.length ≤ maxLen) (hx : CatsAt w p xs) (hy : CatsAt w q ys) :
    Calls Try.prog 59 #[.agg #[.int .i64 da, .slice p xs.length cx], .agg #[.int .i64 db, .slice q ys.length cy]] w fun e w' => e = .returned (.bool (sameS da db xs ys)) ∧ Below w.heap.size w w' := by
  have hW : Below w.heap.size w ((w.alloc (.cells #[.int .i64 da, .slice p xs.length cx] 24)).alloc (.cells #[.int .i64 db, .slice q ys.length cy] 24)) := by go_grown
  unfold maxLen at hmx hmy
  have hg := guardS
  by_cases h1 : (da != db) = true
  · have h1' : sameS da db xs ys = false := by simp at h1; simp [sameS, h1]
    go_enter Try.func59, Try.ntmps59
    go_wp2
    go_ret
    exact ⟨ret_bool h1'.symm, by go_grown⟩
  · have h1f : (da != db) = false := by simpa using h1
    have hd : da = db := by simpa using h1
    by_cases h2 : ((xs.length : Int) != (ys.length : Int)) = true
    · have h2' : sameS da db xs ys = false := by
        have : xs ≠ ys := fun e => by subst e; simp at h2
        simp [sameS, this]
      clear hd
      go_enter Try.func59, Try.ntmps59
      go_wp2
      go_ret
      exact ⟨ret_bool h2'.symm, by go_grown⟩
    · have h2f : ((xs.length : Int) != (ys.length : Int)) = false := by simpa using h2
      have hl : xs.length = ys.length := by simp at h2; omega
      have HS : Hid (sameS da db xs ys = decide (xs = ys)) := by simp [Hid, sameS, hd]
      have HL : Hid (xs.length = ys.length) := hl
      have hl1 : xs.length ≤ ys.length := by omega
      have hl2 : ys.length ≤ xs.length := by omega
      clear hd hl h1 h2
      go_enter Try.func59, Try.ntmps59
      go_wp2
      go_loopw [23] (fun i wr => ∃ k : Nat, k ≤ xs.length ∧ i = .int .i64 k ∧ decide (xs = ys) = decide (xs.drop k = ys.drop k) ∧ Below (w.heap.size + 2) ((w.alloc (.cells #[.int .i64 da, .slice p xs.length cx] 24)).alloc (.cells #[.int .i64 db, .slice q ys.length cy] 24)) wr) (fun i _ => xs.length - (intOf i).toNat)
      case atStart => exact ⟨0, Nat.zero_le _, rfl, by simp, Below.refl _ _⟩
      case round =>
        obtain ⟨k, hk, rfl, hr, hb⟩ := hrel
        have HR : Hid (decide (xs = ys) = decide (xs.drop k = ys.drop k)) := hr; clear hr
        by_cases hlt : k < xs.length
        · have hlt2 : k < ys.length := by omega
          obtain ⟨b, off, rfl, hbl, c0, c1⟩ := hx.get hb hW (by omega) k hlt
          obtain ⟨b2, off2, rfl, hbl2, e0, e1⟩ := hy.get hb hW (by omega) k hlt2
          have a1 : wr.cell? ⟨w.heap.size, 1, none⟩ = some (.slice (some ⟨b, off, none⟩) xs.length cx) := (hb.cell (p := ⟨w.heap.size, 1, none⟩) (by simp)).trans (by simp [go_sem])
          have a2 : wr.cell? ⟨w.heap.size + 1, 1, none⟩ = some (.slice (some ⟨b2, off2, none⟩) ys.length cy) := (hb.cell (p := ⟨w.heap.size + 1, 1, none⟩) (by simp)).trans (by simp [go_sem])
          have HT : Hid (decide (xs.drop k = ys.drop k) = (decide (xs[k] = ys[k]) && decide (xs.drop (k + 1) = ys.drop (k + 1)))) := same_step xs ys k hlt hlt2
          have hki : (k : Int) < (xs.length : Int) := by omega
          have hkj : (k : Int) < (ys.length : Int) := by omega
          clear hx hy
          by_cases h3 : xs[k].1 = ys[k].1
          · by_cases h4 : xs[k].2 = ys[k].2
            · have HE : Hid (xs[k] = ys[k]) := Prod.ext h3 h4
              go_wp2
              go_quiet (fail)
              go_wp2
              go_roundw
              case rel => exact ⟨k + 1, by omega, by go_num, by rw [HR.out, HT.out, decide_eq_true HE.out]; rfl, bdn hb _⟩
              case measure => simp [intOf]; omega
            · have HE : Hid (xs[k] ≠ ys[k]) := fun e => h4 (congrArg Prod.snd e)
              go_wp2
              go_quiet (fail)
              go_wp2
              go_ret
              exact ⟨ret_bool (by rw [HS.out, HR.out, HT.out, decide_eq_false HE.out]; rfl), bdn (hW.trans (hb.mono (by omega))) _⟩
          · have HE : Hid (xs[k] ≠ ys[k]) := fun e => h3 (congrArg Prod.fst e)
            go_wp2
            go_quiet (fail)
            go_wp2
            go_ret
            exact ⟨ret_bool (by rw [HS.out, HR.out, HT.out, decide_eq_false HE.out]; rfl), bdn (hW.trans (hb.mono (by omega))) _⟩
        · go_wp2
          go_ret
          exact ⟨ret_bool (by rw [HS.out, HR.out, List.drop_of_length_le (by omega), List.drop_of_length_le (by have := HL.out; omega)]; rfl), hW.trans (hb.mono (by omega))⟩
set_option maxRecDepth 100000 in
set_option maxHeartbeats 1000000 in
/-- Two that are told alike. -/
theorem SameInfo_eq (o : Ob) (p q : Option Addr) (cx cy : Nat) (w : World) (hm : o.cats.length < 1000000) (hx : CatsAt w p o.cats) (hy : CatsAt w q o.cats) :
    Calls Try.prog 30 #[.agg #[.int .i64 o.id, .int .i64 o.kind, .int .i64 o.quota, .int .i64 o.used, .int .i64 o.links, .int .i64 o.df, .slice p o.cats.length cx], .agg #[.int .i64 o.id, .int .i64 o.kind, .int .i64 o.quota, .int .i64 o.used, .int .i64 o.links, .int .i64 o.df, .slice q o.cats.length cy]] w fun e w' => e = .returned (.bool true) ∧ Below w.heap.size w w' := by
  have HS := Lib.hid (fun (X : World) (hX : Below w.heap.size w X) => Same_any o.df o.df p q cx cy o.cats o.cats X (by unfold maxLen; omega) (by unfold maxLen; omega) (hx.below hX) (hy.below hX))
  rw [show sameS o.df o.df o.cats o.cats = true from by simp [sameS]] at HS
  clear hx hy
  go_enter Try.func30, Try.ntmps30
  have hW : Below w.heap.size w ((w.alloc (.cells #[.int .i64 o.id, .int .i64 o.kind, .int .i64 o.quota, .int .i64 o.used, .int .i64 o.links, .int .i64 o.df, .slice p o.cats.length cx] 50)).alloc (.cells #[.int .i64 o.id, .int .i64 o.kind, .int .i64 o.quota, .int .i64 o.used, .int .i64 o.links, .int .i64 o.df, .slice q o.cats.length cy] 50)) := by go_grown
  go_wp2_with (first
    | (go_at_call 59; refine (HS.out _ hW).mono ?_; rintro e w2 ⟨rfl, hb2⟩))
  go_ret
  exact ⟨rfl, hW.trans (hb2.mono hW.size)⟩
def inB (l : List Int) (x : Int) : Bool := l.any fun y => y == x
theorem inB_iff {l : List Int} {x : Int} : inB l x = true ↔ x ∈ l := by unfold inB; simp
theorem inB_step {a : List Int} {k : Nat} (h : k < a.length) (x : Int) : inB (a.take (k + 1)) x = (inB (a.take k) x || (a[k] == x)) := by
  unfold inB
  rw [List.take_succ_eq_append_getElem h, List.any_append]; simp
set_option maxRecDepth 100000 in
set_option maxHeartbeats 1000000 in
theorem In_any (w : World) (p : Option Addr) (c : Nat) (a : List Int) (x : Int) (ha : IntsAt w p a) (hla : a.length < 1000000) :
    Calls Try.prog 54 #[.slice p a.length c, .int .i64 x] w fun e w' => e = .returned (.bool (inB a x)) ∧ w' = w := by
  have HA := Lib.hid ha
  clear ha
  go_enter Try.func54, Try.ntmps54
  go_wp2_with fail
  go_loopw [9] (fun y wr => ∃ k : Nat, y = .int .i64 k ∧ k ≤ a.length ∧ inB (a.take k) x = false ∧ w = wr) (fun y _ => (a.length - (RowKit.intOf y).toNat))
  case atStart => exact ⟨0, rfl, Nat.zero_le _, rfl, rfl⟩
  case round =>
    obtain ⟨k, rfl, hk, htk, rfl⟩ := hrel
    have HTK := Lib.hid htk
    clear htk
    by_cases hlt : k < a.length
    · have hki : (k : Int) < (a.length : Int) := by omega
      obtain ⟨ga, oa, rfl, hga, cga⟩ := HA.out k hlt
      have HST := Lib.hid (inB_step hlt x)
      have hmem : a[k] ∈ a := List.getElem_mem hlt
      obtain ⟨xa, hxa⟩ : ∃ xa, a[k] = xa := ⟨_, rfl⟩
      simp only [hxa] at cga HST hmem
      clear hxa
      by_cases he : xa = x
      · have heb : (xa == x) = true := by simp [he]
        have HM := Lib.hid (inB_iff.2 (he ▸ hmem))
        clear HST hmem
        go_wp2_with fail
        go_ret
        exact ⟨by rw [HM.out]; rfl, rfl⟩
      · have heb : (xa == x) = false := by simp [he]
        rw [heb, HTK.out] at HST
        have HST2 : Hid (inB (a.take (k + 1)) x = false) := HST.out
        clear HST
        clear hmem
        go_wp2_with fail
        go_roundw
        case rel => exact ⟨k + 1, by go_num, by omega, HST2.out, trivial⟩
        case measure => simp [RowKit.intOf]; omega
    · obtain rfl : k = a.length := by omega
      have hkk : ¬ (a.length : Int) < (a.length : Int) := by omega
      go_wp2_with fail
      go_ret
      have := HTK.out
      rw [List.take_length] at this
      exact ⟨by rw [this]; rfl, rfl⟩

theorem IntsAt.take {w : World} {p : Option Addr} {l : List Int} (h : IntsAt w p l) (k : Nat) : IntsAt w p (l.take k) := fun i hi => by
  obtain ⟨g, o, a, b, c⟩ := h i (by simp at hi; omega)
  exact ⟨g, o, a, b, by rw [c]; simp⟩
end Go.Proofs.Ytebcnlhgkpaghaa

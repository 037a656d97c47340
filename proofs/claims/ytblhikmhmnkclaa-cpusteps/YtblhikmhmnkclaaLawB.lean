/- What the laws' own memory, all and lives do. -/
import Derived.Test.YtblhikmhmnkclaaOverL
namespace Go.Proofs.Ytblhikmhmnkclaa
open Go.RowKit Go.Lib
variable {K : Nat → Prop}
theorem over_whole (n : Nat) (s : List UInt8) (h : s.length = n) : over (List.replicate n 0) 0 s = s := by
  subst h
  apply List.ext_getElem?
  intro j
  by_cases hj : j < s.length
  · rw [List.getElem?_eq_getElem (by rw [over_len]; simpa using hj), List.getElem?_eq_getElem hj]
    have := over_get (List.replicate s.length 0) 0 s j (by simpa using hj)
    rw [List.getD_eq_getElem?_getD, List.getElem?_eq_getElem (by rw [over_len]; simpa using hj)] at this
    simp only [Option.getD_some] at this
    rw [this, if_pos (by omega), List.getD_eq_getElem?_getD, Nat.sub_zero, List.getElem?_eq_getElem hj]
    rfl
  · rw [List.getElem?_eq_none (by rw [over_len]; simpa using hj), List.getElem?_eq_none (by omega)]
/-- The bytes that a memory is made of. -/
def memL (s : ByteArray) : List UInt8 := s.data.toList.take 4096
theorem memL_len (s : ByteArray) : (memL s).length = min s.size 4096 := by unfold memL; simp; omega
/-- All blocks below b. -/
def Lo (b : Nat) : Nat → Prop := fun k => k < b
theorem BAt.row_ge {w : World} {base Bb : Nat} {d : List UInt8} {ls : List (Nat × Bool)} (h : BAt K w base Bb d ls) {c : Array Value} {t : TypeId} {f : Nat × Nat} {a : Addr} {n cp : Nat} (e : w.heap[Bb]? = some (.cells c t f)) (e1 : c[1]? = some (.slice (some a) n cp)) : base ≤ a.block ∧ a.block < w.heap.size := by
  obtain ⟨v, hv, hr⟩ := h.blk
  rw [hv] at e
  cases e
  obtain rfl : v = .slice (some a) n cp := by simpa using e1
  rcases hr.2 with ⟨h', _⟩ | ⟨g, cap, cur, h', _, hg, _⟩
  · cases h'
  · cases h'
    exact ⟨(hr.lt g rfl).1, (hr.lt g rfl).2⟩
/-- Other blocks that are none of its own. -/
theorem BAt.toK {K' : Nat → Prop} {w : World} {base Bb : Nat} {d : List UInt8} {ls : List (Nat × Bool)} (h : BAt K w base Bb d ls) (hl : ∀ k, K' k → k < w.heap.size) (hp : ∀ x ∈ ls, ¬ K' x.1) (hr : ∀ k, K' k → base ≤ k → k < w.heap.size → False) : BAt K' w base Bb d ls :=
  ⟨h.blk, h.pgs, h.dis, h.len, h.cnt, h.bb, hl, hp, fun _ _ _ _ _ _ e e1 hk => hr _ hk (h.row_ge e e1).1 (h.row_ge e e1).2⟩
set_option maxRecDepth 100000 in
set_option maxHeartbeats 1000000 in
theorem memory_any (s : ByteArray) (w : World) (hs : s.size < 4611686018427387904) :
    Calls Try.prog 11 #[.string s] w fun e w' => e = .returned (.pointer (some ⟨w.heap.size, 0, none⟩)) ∧ (∃ ls, BAt (Lo w.heap.size) w' w.heap.size w.heap.size (memL s) ls) ∧ Below w.heap.size w w' := by
  obtain ⟨m, hm⟩ : ∃ m : Nat, min s.size 4096 = m := ⟨_, rfl⟩
  have hm4 : m ≤ 4096 := by omega
  have hmi : min (s.size : Int) 4096 = (m : Int) := by omega
  have hms : m ≤ s.size := by omega
  have hmsi : (m : Int) ≤ (s.size : Int) := by omega
  obtain ⟨t, ht⟩ : ∃ t, s.extract 0 m = t := ⟨_, rfl⟩
  have hts : t.size = m := by rw [← ht, ByteArray.size_extract]; omega
  have htl : t.data.toList = memL s := by
    rw [← ht, ByteArray.data_extract, Array.toList_extract, List.extract_eq_take_drop]
    unfold memL
    rw [List.drop_zero, Nat.sub_zero, ← hm]
    have : s.data.toList.length = s.size := by simp
    by_cases h : s.size ≤ 4096
    · rw [Nat.min_eq_left h, List.take_of_length_le (by omega), List.take_of_length_le (by omega)]
    · rw [Nat.min_eq_right (by omega)]
  have HN := Lib.hid (New_any m w hm4)
  have HW := Lib.hid (fun (w1 : World) ls (h : BAt (Lo w.heap.size) w1 w.heap.size w.heap.size (List.replicate m 0) ls) => Write_yes w.heap.size w.heap.size 0 t _ ls w1 h (by simp; omega))
  have HO : Hid (over (List.replicate m 0) 0 t.data.toList = memL s) := by
    simp only [Hid]
    rw [over_whole m _ (by rw [← hts]; simp), htl]
  clear hm htl
  go_enter Try.func11, Try.ntmps11
  go_wp2_with (first | (go_at_call 6; refine HN.out.mono ?_; rintro e w1 ⟨rfl, ⟨ls1, hA1, hO1⟩, hB1⟩; refine Hid.out ?_))
  refine Lib.hid ?_
  have hA1 : BAt (Lo w.heap.size) w1 w.heap.size w.heap.size (List.replicate m 0) ls1 := hA1.toK (fun k hk => Nat.lt_of_lt_of_le hk hB1.size) (fun x hx hk => Nat.lt_irrefl _ (Nat.lt_of_lt_of_le hk (hO1 x hx))) (fun k hk h1 _ => Nat.lt_irrefl _ (Nat.lt_of_lt_of_le hk h1))
  have HW1 := Lib.hid (HW.out w1 ls1 hA1)
  clear HW hA1
  go_wp2_with (first | (go_at_call 7; refine HW1.out.mono ?_; rintro e w2 ⟨rfl, hA2, hB2, hF2⟩))
  go_ret
  rw [HO.out] at hA2
  exact ⟨rfl, hA2, hB1.trans hB2⟩
set_option maxRecDepth 100000 in
set_option maxHeartbeats 1000000 in
theorem all_any (base Bb : Nat) (d : List UInt8) (ls : List (Nat × Bool)) (w : World) (h : BAt K w base Bb d ls) :
    Calls Try.prog 12 #[.pointer (some ⟨Bb, 0, none⟩)] w fun e w' => e = .returned (.string ⟨d.toArray⟩) ∧ Below w.heap.size w w' := by
  have HL := Lib.hid (Len_any h)
  have HR : Hid (Calls Try.prog 10 #[.pointer (some ⟨Bb, 0, none⟩), .int .i64 0, .int .i64 d.length] w fun e w' => e = .returned (.tuple #[.string ⟨d.toArray⟩, .int .i64 0]) ∧ Below w.heap.size w w') := by
    have := Read_any base Bb 0 d.length d ls w h (by omega)
    rw [List.drop_zero, List.take_length] at this
    exact this
  clear h
  go_enter Try.func12, Try.ntmps12
  go_wp2_with (first | (go_at_call 23; refine HL.out.mono ?_; rintro e w1 ⟨rfl, hw1⟩; rw [hw1]; clear hw1 w1) | (go_at_call 10; refine HR.out.mono ?_; rintro e w2 ⟨rfl, hB2⟩))
  go_ret
  exact ⟨rfl, hB2⟩
def r0 : List Int := List.replicate 16 0
theorem r0_ok (pc : Int) (h : u64ok pc) : okR r0 pc := ⟨by simp [r0], fun x hx => by have := List.eq_of_mem_replicate hx; subst this; exact zero_ok, h⟩
theorem st0 : stV r0 0 = .agg #[.int .u64 0, .int .u64 0, .int .u64 0, .int .u64 0, .int .u64 0, .int .u64 0, .int .u64 0, .int .u64 0, .int .u64 0, .int .u64 0, .int .u64 0, .int .u64 0, .int .u64 0, .int .u64 0, .int .u64 0, .int .u64 0, .int .u64 0] := rfl
theorem live_run : overS 10 r0 0 [3, 1, 5, 0, 3, 2, 7, 0, 8, 3, 1, 2, 0, 0, 0, 0] = ([0, 5, 7, 35, 0, 0, 0, 0, 0, 0, 0, 0, 0, 0, 0, 0], 12, [3, 1, 5, 0, 3, 2, 7, 0, 8, 3, 1, 2, 0, 0, 0, 0], 3, 2) := by decide +kernel
set_option maxRecDepth 100000 in
set_option maxHeartbeats 4000000 in
theorem lives_any (w : World) : Calls Try.prog 5 #[] w fun e w' => e = .returned (.bool true) ∧ Below w.heap.size w w' := by
  have HM : Hid (Calls Try.prog 11 #[.string ⟨#[3, 1, 5, 0, 3, 2, 7, 0, 8, 3, 1, 2, 0, 0, 0, 0]⟩] w fun e w' => e = .returned (.pointer (some ⟨w.heap.size, 0, none⟩)) ∧ (∃ ls, BAt (Lo w.heap.size) w' w.heap.size w.heap.size [3, 1, 5, 0, 3, 2, 7, 0, 8, 3, 1, 2, 0, 0, 0, 0] ls) ∧ Below w.heap.size w w') := memory_any ⟨#[3, 1, 5, 0, 3, 2, 7, 0, 8, 3, 1, 2, 0, 0, 0, 0]⟩ w (by decide)
  go_enter Try.func5, Try.ntmps5
  go_wp2_with (first | (go_at_call 11; refine HM.out.mono ?_; rintro e w1 ⟨rfl, ⟨ls1, hA1⟩, hB1⟩; refine Hid.out ?_))
  refine Lib.hid ?_
  have HO := Over_any w.heap.size w.heap.size 10 r0 0 _ ls1 w1 (by decide) (r0_ok 0 zero_ok) hA1
  rw [show (10 : Int).toNat = 10 from rfl, live_run, st0] at HO
  have HO' : Hid (Calls Try.prog 9 #[.pointer (some ⟨w.heap.size, 0, none⟩), .agg #[.int .u64 0, .int .u64 0, .int .u64 0, .int .u64 0, .int .u64 0, .int .u64 0, .int .u64 0, .int .u64 0, .int .u64 0, .int .u64 0, .int .u64 0, .int .u64 0, .int .u64 0, .int .u64 0, .int .u64 0, .int .u64 0, .int .u64 0], .int .i64 10] w1 fun e w' => e = .returned (.tuple #[.agg #[.int .u64 0, .int .u64 5, .int .u64 7, .int .u64 35, .int .u64 0, .int .u64 0, .int .u64 0, .int .u64 0, .int .u64 0, .int .u64 0, .int .u64 0, .int .u64 0, .int .u64 0, .int .u64 0, .int .u64 0, .int .u64 0, .int .u64 12], .int .i64 3, .int .i64 2]) ∧ Below w.heap.size w1 w') := HO.mono fun e w' hh => ⟨hh.1, hh.2.2.1⟩
  clear HO hA1
  go_wp2_with (first | (go_at_call 9; refine HO'.out.mono ?_; rintro e w2 ⟨rfl, hB2⟩))
  go_ret
  exact ⟨rfl, by have q := hB1.trans hB2; exact q.alloc q.size _⟩
end Go.Proofs.Ytblhikmhmnkclaa

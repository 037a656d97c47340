/- What Has, Ids, Len, Info and the reference's In answer of a table that is as it should be. -/
import Derived.Test.YtlblfelfaopjiaaGoesM
namespace Go.Proofs.Ytlblfelfaopjiaa
open Go.RowKit Go.Sort
def inB (l : List Int) (x : Int) : Bool := l.any fun y => y == x
theorem inB_iff {l : List Int} {x : Int} : inB l x = true ↔ x ∈ l := by unfold inB; simp
theorem inB_step {a : List Int} {k : Nat} (h : k < a.length) (x : Int) : inB (a.take (k + 1)) x = (inB (a.take k) x || (a[k] == x)) := by
  unfold inB
  rw [List.take_succ_eq_append_getElem h, List.any_append]; simp
set_option maxRecDepth 100000 in
set_option maxHeartbeats 1000000 in
theorem In_any (w : World) (p : Option Addr) (c : Nat) (a : List Int) (x : Int) (ha : IntsAt w p a) (hla : a.length < 1000000) :
    Calls Try.prog 17 #[.slice p a.length c, .int .i64 x] w fun e w' => e = .returned (.bool (inB a x)) ∧ w' = w := by
  have HA := Lib.hid ha
  clear ha
  go_enter Try.func17, Try.ntmps17
  go_wp2_with fail
  go_loopw [9] (fun y wr => ∃ k : Nat, y = .int .i64 k ∧ k ≤ a.length ∧ inB (a.take k) x = false ∧ w = wr) (fun y _ => (a.length - (RowKit.intOf y).toNat))
  case atStart => exact ⟨0, rfl, Nat.zero_le _, rfl, rfl⟩
  case round =>
    obtain ⟨k, rfl, hk, htk, rfl⟩ := hrel
    have HTK := Lib.hid htk
    clear htk
    by_cases hlt : k < a.length
    · have hki : (k : Int) < (a.length : Int) := by omega
      obtain ⟨ga, oa, rfl, hga, cga⟩ := HA.out k hlt
      have HST := Lib.hid (inB_step hlt x)
      have hmem : a[k] ∈ a := List.getElem_mem hlt
      obtain ⟨xa, hxa⟩ : ∃ xa, a[k] = xa := ⟨_, rfl⟩
      simp only [hxa] at cga HST hmem
      clear hxa
      by_cases he : xa = x
      · have heb : (xa == x) = true := by simp [he]
        have HM := Lib.hid (inB_iff.2 (he ▸ hmem))
        clear HST hmem
        go_wp2_with fail
        go_ret
        exact ⟨by rw [HM.out]; rfl, rfl⟩
      · have heb : (xa == x) = false := by simp [he]
        rw [heb, HTK.out] at HST
        have HST2 : Hid (inB (a.take (k + 1)) x = false) := HST.out
        clear HST
        clear hmem
        go_wp2_with fail
        go_roundw
        case rel => exact ⟨k + 1, by go_num, by omega, HST2.out, trivial⟩
        case measure => simp [RowKit.intOf]; omega
    · obtain rfl : k = a.length := by omega
      have hkk : ¬ (a.length : Int) < (a.length : Int) := by omega
      go_wp2_with fail
      go_ret
      have := HTK.out
      rw [List.take_length] at this
      exact ⟨by rw [this]; rfl, rfl⟩

theorem IntsAt.take {w : World} {p : Option Addr} {l : List Int} (h : IntsAt w p l) (k : Nat) : IntsAt w p (l.take k) := fun i hi => by
  obtain ⟨g, o, a, b, c⟩ := h i (by simp at hi; omega)
  exact ⟨g, o, a, b, by rw [c]; simp⟩
theorem has_hi {w : World} {base tb mb : Nat} {F : Nat → Prop} {S : Abs} (h : HI w base tb mb F S) (i x : Int) (hi : i64 i) (hx : i64 x) :
    Calls Try.prog 26 #[.pointer (some ⟨tb, 0, none⟩), .int .i64 i, .int .i64 x] w fun e w' => (∃ b : Bool, e = .returned (.bool b) ∧ (b = true ↔ entS S i x)) ∧ w' = w := by
  obtain ⟨K, D, T, h1, h2, _, h4⟩ := h
  have hlen := h4.len
  refine (Has_any h1 i x hi hx (fun r hr => ?_)).mono ?_
  · have := h4.elen (k := i) (o := r.ob) (by rw [← h2 i, hr]; rfl)
    omega
  · rintro e w' ⟨rfl, rfl⟩
    exact ⟨⟨_, rfl, by rw [beq_iff_eq]; exact entE_iff h2 i x⟩, rfl⟩
theorem ids_hi {w : World} {base tb mb : Nat} {F : Nat → Prop} {S : Abs} (h : HI w base tb mb F S) :
    Calls Try.prog 14 #[.pointer (some ⟨tb, 0, none⟩)] w fun e w' => ∃ p cap L, e = .returned (.slice p (List.length L) cap) ∧ IntsAt w' p L ∧ Below w.heap.size w w' ∧ L.length ≤ 4096 ∧ (∀ x, x ∈ L ↔ ∃ o, S x = some o) ∧ ∃ K, Inv S K ∧ L.length = K.length := by
  obtain ⟨K, D, T, h1, h2, _, h4⟩ := h
  have hlen := h4.len
  have hz := size_len h1 h2 h4
  have hn := ids_len h1
  refine (Ids_any h1 (by omega)).mono ?_
  rintro e w' ⟨v, rfl, hr, hb⟩
  obtain ⟨sp, cp, rfl⟩ := row_form hr
  refine ⟨sp, cp, _, rfl, row_ints hr, hb, by omega, fun x => ?_, K, h4, by omega⟩
  rw [← Option.isSome_iff_exists, ← h2.isSome x, ← (keysD h1).2.1 x]
  unfold idsD
  rw [List.mem_mergeSort]
theorem len_hi {w : World} {base tb mb : Nat} {F : Nat → Prop} {S : Abs} (h : HI w base tb mb F S) :
    Calls Try.prog 18 #[.pointer (some ⟨tb, 0, none⟩)] w fun e w' => (∃ n : Nat, e = .returned (.int .i64 n) ∧ n ≤ 4096 ∧ ∃ K, Inv S K ∧ n = K.length) ∧ w' = w := by
  obtain ⟨K, D, T, h1, h2, _, h4⟩ := h
  have hlen := h4.len
  have hz := size_len h1 h2 h4
  refine (Len_any h1).mono ?_
  rintro e w' ⟨rfl, rfl⟩
  exact ⟨⟨_, rfl, by omega, K, h4, hz⟩, rfl⟩
theorem info_hi {w : World} {base tb mb : Nat} {F : Nat → Prop} {S : Abs} (h : HI w base tb mb F S) (x : Int) (o : Ob) (ho : S x = some o) :
    Calls Try.prog 16 #[.pointer (some ⟨tb, 0, none⟩), .int .i64 x] w fun e w' => ∃ p cap, e = .returned (.tuple #[.agg #[.int .i64 o.id, .int .i64 o.kind, .int .i64 o.quota, .int .i64 o.used, .int .i64 o.links, .int .i64 o.df, .slice p o.cats.length cap], .bool true]) ∧ CatsAt w' p o.cats ∧ Below w.heap.size w w' := by
  obtain ⟨K, D, T, h1, h2, _, h4⟩ := h
  obtain ⟨r, hr, rfl⟩ := h2.some ho
  have g := h4.ok x r.ob ho
  have := g.cat
  refine (Info_any h1 x (ct_i64 g.ct) r hr (by omega)).mono ?_
  rintro e w' ⟨u, rfl, ⟨sa, ca, rfl, hra⟩, hc⟩
  refine ⟨sa, ca, rfl, ?_, hc⟩
  obtain ⟨p', cap', e, h⟩ := cats_row hra
  cases e
  exact h
end Go.Proofs.Ytlblfelfaopjiaa

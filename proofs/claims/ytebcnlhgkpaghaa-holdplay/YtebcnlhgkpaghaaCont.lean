/- container, entry, has and room of package hold. -/
import Derived.Test.YtebcnlhgkpaghaaLink1
namespace Go.Proofs.Ytebcnlhgkpaghaa
open Go.RowKit Go.Sort
def contE (T : Tab) (i : Int) : Int := match T i with
  | none => 4
  | some r => if r.ob.kind = 1 then 0 else 5
def contP (T : Tab) (i : Int) : Value := if contE T i = 0 then fnd T i else .pointer none
theorem container_nil (i : Int) (w : World) : Calls Try.prog 37 #[.pointer none, .int .i64 i] w fun e w' => e = .returned (.tuple #[.pointer none, .int .i64 4]) ∧ w' = w := by
  have H := Lib.hid (find_nil i w)
  go_enter Try.func37, Try.ntmps37
  go_wp2_with (go_at_call 39; refine H.out.mono ?_; rintro e w1 ⟨rfl, hw1⟩; rw [hw1]; clear hw1 w1)
  go_ret2
  exact ⟨rfl, rfl⟩
theorem container_any {w : World} {base tb mb : Nat} {D : DataW Unit} {T : Tab} (h : TAt w base tb mb D T) (i : Int) (hi : i64 i) :
    Calls Try.prog 37 #[.pointer (some ⟨tb, 0, none⟩), .int .i64 i] w fun e w' => e = .returned (.tuple #[contP T i, .int .i64 (contE T i)]) ∧ w' = w := by
  have H := find_any h i hi
  unfold contP contE
  cases hT : T i with
  | none =>
    have hf : fnd T i = .pointer none := by unfold fnd; rw [hT]; rfl
    rw [hf] at H
    have HH := Lib.hid H
    clear h H
    go_enter Try.func37, Try.ntmps37
    go_wp2_with (go_at_call 39; refine HH.out.mono ?_; rintro e w1 ⟨rfl, hw1⟩; rw [hw1]; clear hw1 w1)
    go_ret2
    exact ⟨by simp, rfl⟩
  | some r =>
    have hf : fnd T i = .pointer (some ⟨r.B, 0, none⟩) := by unfold fnd; rw [hT]; rfl
    rw [hf] at H
    have HH := Lib.hid H
    have c1 : w.cell? ⟨r.B, 1, none⟩ = some (.int .i64 r.ob.kind) := by simp [World.cell?, (h.obj i r hT).1.blk, cellsR]
    have HF := Lib.hid hf
    clear h H hf
    by_cases hk : r.ob.kind = 1
    · have hk' : (r.ob.kind != 1) = false := by simp [hk]
      go_enter Try.func37, Try.ntmps37
      go_wp2_with (go_at_call 39; refine HH.out.mono ?_; rintro e w1 ⟨rfl, hw1⟩; rw [hw1]; clear hw1 w1)
      go_ret2
      exact ⟨by simp [HF.out], rfl⟩
    · have hk' : (r.ob.kind != 1) = true := by simpa using hk
      go_enter Try.func37, Try.ntmps37
      go_wp2_with (go_at_call 39; refine HH.out.mono ?_; rintro e w1 ⟨rfl, hw1⟩; rw [hw1]; clear hw1 w1)
      go_ret2
      exact ⟨by simp, rfl⟩
theorem room_any {w : World} {base : Nat} {r : Rc} (h : RAt w base r) (hu : i64 (r.ob.quota - r.ob.used)) :
    Calls Try.prog 40 #[.pointer (some ⟨r.B, 0, none⟩)] w fun e w' => e = .returned (.int .i64 (r.ob.quota - r.ob.used)) ∧ ∃ q, w' = w.drewN q := by
  have c2 : ∀ q, (w.drewN q).cell? ⟨r.B, 2, none⟩ = some (.int .i64 r.ob.quota) := fun q => show w.cell? _ = _ by simp [World.cell?, h.blk, cellsR]
  have c3 : ∀ q, (w.drewN q).cell? ⟨r.B, 3, none⟩ = some (.int .i64 r.ob.used) := fun q => show w.cell? _ = _ by simp [World.cell?, h.blk, cellsR]
  have hw : wrap64 (r.ob.quota - r.ob.used) = r.ob.quota - r.ob.used := by unfold i64 at hu; unfold wrap64; omega
  clear h hu
  go_enter Try.func40, Try.ntmps40
  go_wp2_with fail
  go_quiet (fail)
  go_wp2
  go_ret
  exact ⟨by show Ending.returned (Value.int .i64 (wrap64 _)) = _; rw [hw], nq, rfl⟩
theorem map_same {w w' : World} {mb n : Nat} {D : DataW Unit} (h : w.ownsMap Try.prog 3 ptrE mb n D) (hs : w'.heap[mb]? = w.heap[mb]?) : w'.ownsMap Try.prog 3 ptrE mb n D := by
  obtain ⟨es, clock, hb, F, hz, rfl⟩ := h
  exact ⟨es, clock, hs.trans hb, F, hz, rfl⟩
/-- The bound is exact. -/
theorem map_exact {w : World} {mb n : Nat} {D : DataW Unit} (h : w.ownsMap Try.prog 3 ptrE mb n D) : MapAt w mb D := by
  obtain ⟨es, clock, hb, F, hz, rfl⟩ := h
  refine ⟨es, clock, hb, F, ?_, rfl⟩
  rw [Maps.size_eq, length_sorted]
  simp
theorem TAt.same {w w' : World} {base tb mb : Nat} {D : DataW Unit} {T : Tab} (h : TAt w base tb mb D T) (hs : ∀ k, tfoot tb mb T k → w'.heap[k]? = w.heap[k]?) : TAt w' base tb mb D T :=
  ⟨(hs tb (.inl rfl)).trans h.blk, map_same h.map (hs mb (.inr (.inl rfl))), h.has, h.at_, fun k r hr => ⟨(h.obj k r hr).1.same (fun j hj => hs j (.inr (.inr ⟨k, r, hr, hj⟩))), (h.obj k r hr).2⟩, h.apart, h.lowt, h.lowm⟩
theorem TAt.lt {w : World} {base tb mb : Nat} {D : DataW Unit} {T : Tab} (h : TAt w base tb mb D T) {k : Nat} (hk : tfoot tb mb T k) : base ≤ k ∧ k < w.heap.size := by
  rcases hk with rfl | rfl | ⟨i, r, hr, hk⟩
  · exact ⟨h.lowt, (Array.getElem?_eq_some_iff.1 h.blk).1⟩
  · exact ⟨h.lowm, h.map.lt⟩
  · exact (h.obj i r hr).1.lt hk
theorem TAt.below {w w' : World} {base tb mb : Nat} {D : DataW Unit} {T : Tab} (h : TAt w base tb mb D T) (hb : Below w.heap.size w w') : TAt w' base tb mb D T :=
  h.same (fun k hk => hb.block k (h.lt hk).2)
/-- The table's blocks and its map are no object's. -/
theorem TAt.tbF {w : World} {base tb mb : Nat} {D : DataW Unit} {T : Tab} (h : TAt w base tb mb D T) {i : Int} {r : Rc} (hr : T i = some r) : ¬ foot r tb := fun hf => by
  have ho := (h.obj i r hr).1
  rcases hf with e | e | e
  · have := ho.blk; rw [← e, h.blk] at this; simp at this
  · exact row_ne ho.cat h.blk (by decide) e
  · exact row_ne ho.row h.blk (by decide) e
theorem row_nem {w : World} {base n B : Nat} {v : Value} {xs : List Value} {e : TypeId} {sz : Nat} {es : Array MapEntry} {cl : Nat} (hr : w.ownsRow base e sz v n xs) (hB : w.heap[B]? = some (.map es cl)) : v.ownBlock ≠ some B := fun h => by
  rcases hr.2 with ⟨rfl, _⟩ | ⟨g, cap', cur, rfl, _, hg, _⟩
  · cases h
  · obtain rfl : g = B := by simpa [Value.ownBlock] using h
    rw [hB] at hg
    simp at hg
theorem RAt.mbF {w : World} {base mb n : Nat} {D : DataW Unit} {r : Rc} (ho : RAt w base r) (hm : w.ownsMap Try.prog 3 ptrE mb n D) : ¬ foot r mb := fun hf => by
  obtain ⟨es, clock, hb, F, hz, _⟩ := hm
  rcases hf with e | e | e
  · have := ho.blk; rw [← e, hb] at this; simp at this
  · exact row_nem ho.cat hb e
  · exact row_nem ho.row hb e
theorem TAt.mbt {w : World} {base tb mb : Nat} {D : DataW Unit} {T : Tab} (h : TAt w base tb mb D T) : tb ≠ mb := fun e => by
  obtain ⟨es, clock, hb, F, hz, _⟩ := h.map
  rw [← e, h.blk] at hb
  simp at hb
end Go.Proofs.Ytebcnlhgkpaghaa

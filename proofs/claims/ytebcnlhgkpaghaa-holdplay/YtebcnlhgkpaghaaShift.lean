/- What Shift of package hold does, of an entry that is a container. -/
import Derived.Test.YtebcnlhgkpaghaaHas
namespace Go.Proofs.Ytebcnlhgkpaghaa
open Go.RowKit Go.Sort
def shR (r : Rc) (n : Int) : Rc := { r with ob := { r.ob with used := r.ob.used + n } }
def shS (s : Rc) (n : Int) : Rc := { s with ob := { s.ob with quota := s.ob.quota + n } }
theorem entry_at {w : World} {base tb mb : Nat} {D : DataW Unit} {T : Tab} (h : TAt w base tb mb D T) (i x : Int) (hi : i64 i) (hx : i64 x) (r s : Rc) (hT : T i = some r) (hS : T x = some s) (hk : r.ob.kind = 1) (hn : r.ob.ents.length < 1000000) (hc : r.ob.ents.contains x = true) :
    Calls Try.prog 43 #[.pointer (some ⟨tb, 0, none⟩), .int .i64 i, .int .i64 x] w fun e w' => e = .returned (.tuple #[.pointer (some ⟨r.B, 0, none⟩), .pointer (some ⟨s.B, 0, none⟩), .int .i64 0]) ∧ w' = w := by
  have := entry_ok h i x hi hx r hT hk hn hc
  rwa [show fnd T x = .pointer (some ⟨s.B, 0, none⟩) from by unfold fnd; rw [hS]; rfl] at this
set_option maxRecDepth 100000 in
set_option maxHeartbeats 1000000 in
theorem Shift_arg {w : World} {base tb mb : Nat} {D : DataW Unit} {T : Tab} (h : TAt w base tb mb D T) (i x n : Int) (hi : i64 i) (hx : i64 x) (r s : Rc) (hT : T i = some r) (hS : T x = some s) (hk : r.ob.kind = 1) (hsk : s.ob.kind = 1) (hn : r.ob.ents.length < 1000000) (hc : r.ob.ents.contains x = true) (ha : n < -1099511627776 ∨ 1099511627776 < n) :
    Calls Try.prog 23 #[.pointer (some ⟨tb, 0, none⟩), .int .i64 i, .int .i64 x, .int .i64 n] w fun e w' => e = .returned (.int .i64 1) ∧ w' = w := by
  have HE := Lib.hid (entry_at h i x hi hx r s hT hS hk hn hc)
  have so := (h.obj x s hS).1
  have k1 : w.cell? ⟨s.B, 1, none⟩ = some (.int .i64 1) := by rw [← hsk]; simp [World.cell?, so.blk, cellsR]
  clear h so
  by_cases h1 : n < -1099511627776
  · go_enter Try.func23, Try.ntmps23
    go_wp2_with (first
      | (go_at_call 43; refine HE.out.mono ?_; rintro e w1 ⟨rfl, hw1⟩; rw [hw1]; clear hw1 w1))
    go_ret
    exact ⟨rfl, rfl⟩
  · have h2 : 1099511627776 < n := by omega
    go_enter Try.func23, Try.ntmps23
    go_wp2_with (first
      | (go_at_call 43; refine HE.out.mono ?_; rintro e w1 ⟨rfl, hw1⟩; rw [hw1]; clear hw1 w1))
    go_ret
    exact ⟨rfl, rfl⟩
set_option maxRecDepth 100000 in
set_option maxHeartbeats 2000000 in
theorem Shift_quota {w : World} {base tb mb : Nat} {D : DataW Unit} {T : Tab} (h : TAt w base tb mb D T) (i x n : Int) (hi : i64 i) (hx : i64 x) (r s : Rc) (hT : T i = some r) (hS : T x = some s) (hk : r.ob.kind = 1) (hsk : s.ob.kind = 1) (hn : r.ob.ents.length < 1000000) (hc : r.ob.ents.contains x = true) (ha : ¬ n < -1099511627776 ∧ ¬ 1099511627776 < n)
    (hqr : i64 (r.ob.quota - r.ob.used)) (hqs : i64 (s.ob.quota - s.ob.used)) (hqn : i64 (s.ob.quota + n)) (hno : r.ob.quota - r.ob.used < n ∨ s.ob.quota - s.ob.used < -n ∨ s.ob.quota + n < 1) :
    Calls Try.prog 23 #[.pointer (some ⟨tb, 0, none⟩), .int .i64 i, .int .i64 x, .int .i64 n] w fun e w' => e = .returned (.int .i64 6) ∧ Below w.heap.size w w' := by
  have HE := Lib.hid (entry_at h i x hi hx r s hT hS hk hn hc)
  have ro := (h.obj i r hT).1
  have so := (h.obj x s hS).1
  have k1 : w.cell? ⟨s.B, 1, none⟩ = some (.int .i64 1) := by rw [← hsk]; simp [World.cell?, so.blk, cellsR]
  have c2 : ∀ q, (w.drewN q).cell? ⟨s.B, 2, none⟩ = some (.int .i64 s.ob.quota) := fun q => show w.cell? _ = _ by simp [World.cell?, so.blk, cellsR]
  have c3 : ∀ q, (w.drewN q).cell? ⟨r.B, 3, none⟩ = some (.int .i64 r.ob.used) := fun q => show w.cell? _ = _ by simp [World.cell?, ro.blk, cellsR]
  have HRr := Lib.hid (room_any ro hqr)
  have HRs := Lib.hid (fun q => Calls.quiet_of (room_any (w := w.drewN q) (base := base) (so.same (fun _ _ => rfl)) hqs))
  have h1 := ha.1
  have h2 := ha.2
  have hwn : wrap64 (-n) = -n := by unfold wrap64; omega
  have hwq : wrap64 (s.ob.quota + n) = s.ob.quota + n := by unfold i64 at hqn; unfold wrap64; omega
  clear h ro so ha
  by_cases g1 : r.ob.quota - r.ob.used < n
  · go_enter Try.func23, Try.ntmps23
    go_wp2_with (first
      | (go_at_call 43; refine HE.out.mono ?_; rintro e w1 ⟨rfl, hw1⟩; rw [hw1]; clear hw1 w1)
      | (go_at_call_of 40 (Value.pointer (some ⟨r.B, 0, none⟩)); refine HRr.out.mono ?_; rintro e w1 ⟨rfl, q1, hw1⟩; subst hw1)
      | (go_at_call_of 40 (Value.pointer (some ⟨s.B, 0, none⟩)); refine (HRs.out _).mono ?_; rintro e w1 ⟨rfl, q2, hw1⟩; subst hw1))
    go_ret
    exact ⟨rfl, ⟨rfl, rfl, rfl, Nat.le_refl _, fun _ _ => rfl⟩⟩
  · by_cases g2 : s.ob.quota - s.ob.used < -n
    · go_enter Try.func23, Try.ntmps23
      go_wp2_with (first
        | (go_at_call 43; refine HE.out.mono ?_; rintro e w1 ⟨rfl, hw1⟩; rw [hw1]; clear hw1 w1)
        | (go_at_call_of 40 (Value.pointer (some ⟨r.B, 0, none⟩)); refine HRr.out.mono ?_; rintro e w1 ⟨rfl, q1, hw1⟩; subst hw1)
        | (go_at_call_of 40 (Value.pointer (some ⟨s.B, 0, none⟩)); refine (HRs.out _).mono ?_; rintro e w1 ⟨rfl, q2, hw1⟩; subst hw1))
      go_ret
      exact ⟨rfl, ⟨rfl, rfl, rfl, Nat.le_refl _, fun _ _ => rfl⟩⟩
    · have g3 : s.ob.quota + n < 1 := by omega
      go_enter Try.func23, Try.ntmps23
      go_wp2_with (first
        | (go_at_call 43; refine HE.out.mono ?_; rintro e w1 ⟨rfl, hw1⟩; rw [hw1]; clear hw1 w1)
        | (go_at_call_of 40 (Value.pointer (some ⟨r.B, 0, none⟩)); refine HRr.out.mono ?_; rintro e w1 ⟨rfl, q1, hw1⟩; subst hw1)
        | (go_at_call_of 40 (Value.pointer (some ⟨s.B, 0, none⟩)); refine (HRs.out _).mono ?_; rintro e w1 ⟨rfl, q2, hw1⟩; subst hw1))
      go_ret
      exact ⟨rfl, ⟨rfl, rfl, rfl, Nat.le_refl _, fun _ _ => rfl⟩⟩
set_option maxRecDepth 100000 in
set_option maxHeartbeats 2000000 in
theorem Shift_ok {w : World} {base tb mb : Nat} {D : DataW Unit} {T : Tab} (h : TAt w base tb mb D T) (i x n : Int) (hi : i64 i) (hx : i64 x) (r s : Rc) (hT : T i = some r) (hS : T x = some s) (hk : r.ob.kind = 1) (hsk : s.ob.kind = 1) (hn : r.ob.ents.length < 1000000) (hc : r.ob.ents.contains x = true) (ha : ¬ n < -1099511627776 ∧ ¬ 1099511627776 < n)
    (hqr : i64 (r.ob.quota - r.ob.used)) (hqs : i64 (s.ob.quota - s.ob.used)) (hqn : i64 (s.ob.quota + n)) (hix : i ≠ x) (hyes : n ≤ r.ob.quota - r.ob.used ∧ -n ≤ s.ob.quota - s.ob.used ∧ 1 ≤ s.ob.quota + n) (hun : i64 (r.ob.used + n)) :
    Calls Try.prog 23 #[.pointer (some ⟨tb, 0, none⟩), .int .i64 i, .int .i64 x, .int .i64 n] w fun e w' => e = .returned (.int .i64 0) ∧ TAt w' base tb mb D (upd (upd T i (shR r n)) x (shS s n)) ∧ Fm w w' (tfoot tb mb T) (tfoot tb mb (upd (upd T i (shR r n)) x (shS s n))) := by
  have HE := Lib.hid (entry_at h i x hi hx r s hT hS hk hn hc)
  have ro := (h.obj i r hT).1
  have so := (h.obj x s hS).1
  have k1 : w.cell? ⟨s.B, 1, none⟩ = some (.int .i64 1) := by rw [← hsk]; simp [World.cell?, so.blk, cellsR]
  have c2 : ∀ q, (w.drewN q).cell? ⟨s.B, 2, none⟩ = some (.int .i64 s.ob.quota) := fun q => show w.cell? _ = _ by simp [World.cell?, so.blk, cellsR]
  have c3 : ∀ q, (w.drewN q).cell? ⟨r.B, 3, none⟩ = some (.int .i64 r.ob.used) := fun q => show w.cell? _ = _ by simp [World.cell?, ro.blk, cellsR]
  have HRr := Lib.hid (room_any ro hqr)
  have HRs := Lib.hid (fun q => Calls.quiet_of (room_any (w := w.drewN q) (base := base) (so.same (fun _ _ => rfl)) hqs))
  have h1 := ha.1
  have h2 := ha.2
  have hwn : wrap64 (-n) = -n := by unfold wrap64; omega
  have hwq : wrap64 (s.ob.quota + n) = s.ob.quota + n := by unfold i64 at hqn; unfold wrap64; omega
  have g1 : ¬ r.ob.quota - r.ob.used < n := by omega
  have g2 : ¬ s.ob.quota - s.ob.used < -n := by omega
  have g3 : ¬ s.ob.quota + n < 1 := by omega
  have hwu : wrap64 (r.ob.used + n) = r.ob.used + n := by unfold i64 at hun; unfold wrap64; omega
  have f2 : ∀ q, (w.drewN q).frozen? ⟨s.B, 2, none⟩ = false := fun q => show w.frozen? _ = _ by simp [World.frozen?, so.blk]
  have f3 : ∀ q, (w.drewN q).frozen? ⟨r.B, 3, none⟩ = false := fun q => show w.frozen? _ = _ by simp [World.frozen?, ro.blk]
  have hne : r.B ≠ s.B := fun e => h.apart i x r s r.B hT hS hix (.inl rfl) (.inl e)
  have HH := Lib.hid h
  clear h ro so ha
  go_enter Try.func23, Try.ntmps23
  go_wp2_with (first
    | (go_at_call 43; refine HE.out.mono ?_; rintro e w1 ⟨rfl, hw1⟩; rw [hw1]; clear hw1 w1)
    | (go_at_call_of 40 (Value.pointer (some ⟨r.B, 0, none⟩)); refine HRr.out.mono ?_; rintro e w1 ⟨rfl, q1, hw1⟩; subst hw1)
    | (go_at_call_of 40 (Value.pointer (some ⟨s.B, 0, none⟩)); refine (HRs.out _).mono ?_; rintro e w1 ⟨rfl, q2, hw1⟩; subst hw1))
  go_ret
  have ro := (HH.out.obj i r hT).1
  have so := (HH.out.obj x s hS).1
  have hap : ∀ k, foot r k → foot s k → False := fun k h1 h2 => HH.out.apart i x r s k hT hS hix h1 h2
  have hXs : ∀ k, k ≠ r.B → k ≠ s.B → (((w.drewN q2).setCell ⟨s.B, 2, none⟩ (.int .i64 (s.ob.quota + n))).setCell ⟨r.B, 3, none⟩ (.int .i64 (r.ob.used + n))).heap[k]? = w.heap[k]? := fun k h1 h2 => by
    rw [heap_ne _ _ _ h1, heap_ne _ _ _ h2]; rfl
  have sb : ((w.drewN q2).setCell ⟨s.B, 2, none⟩ (.int .i64 (s.ob.quota + n))).heap[s.B]? = some (.cells (cellsR (shS s n)) 54 (0, 0)) := by
    rw [heap_setCell_same (w.drewN q2) _ _ _ _ _ so.blk]; rfl
  have rb : ((w.drewN q2).setCell ⟨s.B, 2, none⟩ (.int .i64 (s.ob.quota + n))).heap[r.B]? = some (.cells (cellsR r) 54 (0, 0)) := (heap_ne _ _ _ hne).trans ro.blk
  refine ⟨rfl, HH.out.two hT hS hix (shR r n) (shS s n) ⟨?_, ?_, ?_, ro.low⟩ ⟨?_, ?_, ?_, so.low⟩ rfl rfl rfl rfl (fun k hk => .inl hk) (fun k hk => hk) ⟨rfl, rfl, rfl, by simp, fun k _ hf => hXs k (fun e => hf (.inl (.inl e))) (fun e => hf (.inr (.inl e))), fun k hk => hk.elim⟩⟩
  · rw [show (shR r n).B = r.B from rfl, heap_setCell_same _ _ _ _ _ _ rb]; rfl
  · exact row_same ro.cat (fun k hk => hXs k (fun e => by subst e; exact ro.catB hk) (fun e => hap k (.inr (.inl hk)) (.inl e)))
  · exact row_same ro.row (fun k hk => hXs k (fun e => by subst e; exact ro.rowB hk) (fun e => hap k (.inr (.inr hk)) (.inl e)))
  · rw [show (shS s n).B = s.B from rfl, heap_ne _ _ _ (Ne.symm hne)]; exact sb
  · exact row_same so.cat (fun k hk => hXs k (fun e => hap k (.inl e) (.inr (.inl hk))) (fun e => by subst e; exact so.catB hk))
  · exact row_same so.row (fun k hk => hXs k (fun e => hap k (.inl e) (.inr (.inr hk))) (fun e => by subst e; exact so.rowB hk))
end Go.Proofs.Ytebcnlhgkpaghaa

/- What Len, Where and List of package wait answer; release, Wake and Close. -/
import Derived.Test.YthknnmllibdggaaWait2
namespace Go.Proofs.Ythknnmllibdggaa
open Go.RowKit Go.Sort
theorem Len_any (w : World) (rb : Nat) (F : Nat → Prop) (all : List Who) (al : Int → List Int) (N : Nat) (h : RA w rb F all al N) :
    Calls Try.prog 21 #[pv rb] w fun e w' => e = .returned (.int .i64 all.length) ∧ w' = w := by
  obtain ⟨R, hR, hrb, hal, hA, hRN, hF⟩ := id h
  have hl := hR.mw.len umW 3
  have c0 := hR.cell.1
  rw [hrb] at c0
  have e : all.length = R.all.length := by rw [← hal, List.length_map]
  rw [e]
  clear h hR hF hA hal hrb hRN e
  go_enter Try.func21, Try.ntmps21
  go_wp2
  go_ret
  exact ⟨rfl, rfl⟩
/-- Where a thread waits. -/
def whereA (all : List Who) (t : Int) : Option Who := all.find? fun x => x.1 == t
def whereV : Option Who → Value
  | none => .tuple #[.int .i64 0, .int .i64 0, .bool false]
  | some x => .tuple #[.int .i64 x.2.1, .int .i64 x.2.2, .bool true]
theorem whereA_map (l : List Wt) (t : Int) : whereA (l.map ab) t = (l.find? fun x => x.th == t).map ab := by
  unfold whereA
  rw [List.find?_map]; rfl
set_option maxRecDepth 100000 in
set_option maxHeartbeats 1000000 in
theorem Where_any (w : World) (rb : Nat) (F : Nat → Prop) (all : List Who) (al : Int → List Int) (N : Nat) (t : Int) (ht : i64 t) (h : RA w rb F all al N) :
    Calls Try.prog 22 #[pv rb, .int .i64 t] w fun e w' => e = .returned (whereV (whereA all t)) ∧ Below w.heap.size w w' := by
  obtain ⟨R, hR, hrb, hal, hA, hRN, hF⟩ := id h
  have c0 := hR.cell.1
  rw [hrb] at c0
  rw [← hal, whereA_map]
  by_cases hw : ∃ x ∈ R.all, x.th = t
  · obtain ⟨x, hx, rfl⟩ := hw
    rw [hR.find hx]
    have hl := hR.lookW_yes hx
    have hwx := hR.wts x hx
    have c1 : w.drew.cell? ⟨x.B, 0, none⟩ = some (.int .i64 x.seg) := show w.cell? _ = _ by simp [World.cell?, hwx, wtC]
    have c2 : w.drew.cell? ⟨x.B, 1, none⟩ = some (.int .i64 x.off) := show w.cell? _ = _ by simp [World.cell?, hwx, wtC]
    have c3 : ∀ q, (w.drewN q).cell? ⟨x.B, 0, none⟩ = some (.int .i64 x.seg) := fun q => c1
    have c4 : ∀ q, (w.drewN q).cell? ⟨x.B, 1, none⟩ = some (.int .i64 x.off) := fun q => c2
    show Calls _ _ _ _ fun e w' => e = .returned (.tuple #[.int .i64 x.seg, .int .i64 x.off, .bool true]) ∧ _
    clear h hR hF hA hal hrb hRN hwx hx ht
    go_enter Try.func22, Try.ntmps22
    go_wp2
    go_quiet (fail)
    go_wp2
    refine bodyPost_ret (v := .tuple #[.int .i64 x.seg, .int .i64 x.off, .bool true]) (by simp [results, Try.results22, go_sem]) rfl ⟨rfl, ?_⟩
    exact ⟨rfl, rfl, rfl, Nat.le_refl _, fun _ _ => rfl⟩
  · have hno : ∀ x ∈ R.all, x.th ≠ t := fun x hx e => hw ⟨x, hx, e⟩
    rw [find_none hno]
    have hl := hR.lookW_no ht hno
    show Calls _ _ _ _ fun e w' => e = .returned (.tuple #[.int .i64 0, .int .i64 0, .bool false]) ∧ _
    clear h hR hF hA hal hrb hRN hw hno
    go_enter Try.func22, Try.ntmps22
    go_wp2
    refine bodyPost_ret (v := .tuple #[.int .i64 0, .int .i64 0, .bool false]) (by simp [results, Try.results22, go_sem]) rfl ⟨rfl, Below.refl _ _⟩
/-- Whose an item is. -/
def thOf (R : Rm) (i : It) : Int := match blkOf i.v with | some b => ((R.all.find? fun x => x.B == b).map (·.th)).getD 0 | none => 0
theorem RmAt.thIs {w : World} {R : Rm} (h : RmAt w R) {x : Wt} (hx : x ∈ R.all) (k : Nat) : thOf R ⟨k, pv x.B⟩ = x.th := by
  show ((R.all.find? fun y => y.B == x.B).map (·.th)).getD 0 = x.th
  cases hf : R.all.find? (fun y => y.B == x.B) with
  | none => exact absurd (List.find?_eq_none.1 hf x hx) (by simp)
  | some y =>
    have hy := List.mem_of_find?_eq_some hf
    have he : y.B = x.B := by simpa using List.find?_some hf
    have h1 := (h.ow y hy).1
    rw [he, (h.ow x hx).1] at h1
    simp at h1
    exact h1.symm
theorem RmAt.thP {w : World} {R : Rm} (h : RmAt w R) {l : List Wt} (hl : ∀ x ∈ l, x ∈ R.all) : (itP l).map (thOf R) = l.map (·.th) := by
  unfold itP
  rw [List.map_map]
  exact List.map_congr_left fun x hx => h.thIs (hl x hx) x.ip
theorem RmAt.thS {w : World} {R : Rm} (h : RmAt w R) {l : List Wt} (hl : ∀ x ∈ l, x ∈ R.all) : (itS l).map (thOf R) = l.map (·.th) := by
  unfold itS
  rw [List.map_map]
  exact List.map_congr_left fun x hx => h.thIs (hl x hx) x.is
/-- What threads answers of the queue of a place. -/
theorem thrP {w : World} {R : Rm} (h : RmAt w R) (hN : R.N < 900000) {s o : Int} (hne : atP s o R.all ≠ []) :
    Calls Try.prog 45 #[pv (R.pq s o)] w fun e w' => ∃ v, e = .returned v ∧ w'.ownsRow w.heap.size 3 1 v (atP s o R.all).length (ivs ((atP s o R.all).map (·.th))) ∧ Below w.heap.size w w' := by
  have hsub : ∀ x ∈ atP s o R.all, x ∈ R.all := fun x hx => (mem_atP.1 hx).1
  have hlen : (itP (atP s o R.all)).length = (atP s o R.all).length := by unfold itP; simp
  have h1 := List.length_filter_le (fun x : Wt => x.seg == s && x.off == o) R.all
  have := threads_any w (R.pq s o) (itP (atP s o R.all)) (thOf R) (h.qp s o hne) (by rw [hlen]; have := h.len; unfold atP; omega) (fun i hi => by
    unfold itP at hi
    obtain ⟨x, hx, rfl⟩ := List.mem_map.1 hi
    exact ⟨x.B, _, _, _, _, rfl, by rw [h.thIs (hsub x hx)]; exact h.wts x (hsub x hx)⟩)
  rw [hlen, h.thP hsub] at this
  exact this
theorem thrS {w : World} {R : Rm} (h : RmAt w R) (hN : R.N < 900000) {s : Int} (hne : inS s R.all ≠ []) :
    Calls Try.prog 45 #[pv (R.sq s)] w fun e w' => ∃ v, e = .returned v ∧ w'.ownsRow w.heap.size 3 1 v (inS s R.all).length (ivs ((inS s R.all).map (·.th))) ∧ Below w.heap.size w w' := by
  have hsub : ∀ x ∈ inS s R.all, x ∈ R.all := fun x hx => (mem_inS.1 hx).1
  have hlen : (itS (inS s R.all)).length = (inS s R.all).length := by unfold itS; simp
  have h1 := List.length_filter_le (fun x : Wt => x.seg == s) R.all
  have := threads_any w (R.sq s) (itS (inS s R.all)) (thOf R) (h.qs s hne) (by rw [hlen]; have := h.len; unfold inS; omega) (fun i hi => by
    unfold itS at hi
    obtain ⟨x, hx, rfl⟩ := List.mem_map.1 hi
    exact ⟨x.B, _, _, _, _, rfl, by rw [h.thIs (hsub x hx)]; exact h.wts x (hsub x hx)⟩)
  rw [hlen, h.thS hsub] at this
  exact this
/-- Who waits at a place, and in a segment. -/
def listA (all : List Who) (s o : Int) : List Int := (all.filter fun x => x.2.1 == s && x.2.2 == o).map (·.1)
def segA (all : List Who) (s : Int) : List Int := (all.filter fun x => x.2.1 == s).map (·.1)
theorem listA_map (l : List Wt) (s o : Int) : listA (l.map ab) s o = (atP s o l).map (·.th) := by
  unfold listA atP
  rw [List.filter_map, List.map_map]; rfl
theorem segA_map (l : List Wt) (s : Int) : segA (l.map ab) s = (inS s l).map (·.th) := by
  unfold segA inS
  rw [List.filter_map, List.map_map]; rfl
/-- A row of numbers that a call has made. -/
def NewRow (w w' : World) (v : Value) (l : List Int) : Prop := w'.ownsRow w.heap.size 3 1 v l.length (ivs l)
set_option maxRecDepth 100000 in
set_option maxHeartbeats 1000000 in
theorem List_any (w : World) (rb : Nat) (F : Nat → Prop) (all : List Who) (al : Int → List Int) (N : Nat) (s o : Int) (hs : i64 s) (ho : i64 o) (h : RA w rb F all al N) (hN : N < 900000) :
    Calls Try.prog 23 #[pv rb, .int .i64 s, .int .i64 o] w fun e w' => ∃ v, e = .returned v ∧ NewRow w w' v (listA all s o) ∧ Below w.heap.size w w' := by
  obtain ⟨R, hR, hrb, hal, hA, hRN, hF⟩ := id h
  have c0 := hR.cell.2.1
  rw [hrb] at c0
  rw [← hal, listA_map]
  by_cases hne : atP s o R.all = []
  · have hl := hR.lookP_no hs ho hne
    rw [hne]
    have HT := Lib.hid (threads_nil w)
    clear h hR hF hA hal hrb hRN hne
    go_enter Try.func23, Try.ntmps23
    go_wp2_with (go_at_call 45; refine HT.out.mono ?_; rintro e w2 ⟨v, rfl, hr, hb⟩)
    go_ret
    exact ⟨v, rfl, hr, hb⟩
  · have hl := hR.lookP_yes hs ho hne
    have HT := Lib.hid (thrP hR (by omega) hne)
    unfold NewRow
    rw [List.length_map]
    clear h hR hF hA hal hrb hRN hne
    go_enter Try.func23, Try.ntmps23
    go_wp2_with (go_at_call 45; refine HT.out.mono ?_; rintro e w2 ⟨v, rfl, hr, hb⟩)
    go_ret
    exact ⟨v, rfl, hr, hb⟩
end Go.Proofs.Ythknnmllibdggaa

/- Link of package hold, where it is refused; and of a gate. -/
import Derived.Test.YtebcnlhgkpaghaaHas
namespace Go.Proofs.Ytebcnlhgkpaghaa
open Go.RowKit Go.Sort
set_option maxRecDepth 100000 in
set_option maxHeartbeats 1000000 in
theorem Link_ok5 {w : World} {base tb mb : Nat} {D : DataW Unit} {T : Tab} (h : TAt w base tb mb D T) (i x : Int) (hi : i64 i) (hx : i64 x) (r s : Rc) (hT : T i = some r) (hS : T x = some s) (hix : i ≠ x) (hk : r.ob.kind = 1) (hsk : s.ob.kind = 5) (hn : r.ob.ents.length < 1000000) (hc : r.ob.ents.contains x = false)
    (hq : s.ob.quota ≤ r.ob.quota - r.ob.used) (hu : 0 ≤ r.ob.used) (hqq : r.ob.quota ≤ 1099511627776) (hq0 : 0 ≤ s.ob.quota) (hl : 0 ≤ s.ob.links ∧ s.ob.links ≤ 1000000) :
    Calls Try.prog 11 #[.pointer (some ⟨tb, 0, none⟩), .int .i64 i, .int .i64 x] w fun e w' => e = .returned (.int .i64 0) ∧ ∃ iv, TAt w' base tb mb D (upd (upd T i (linkR r s iv)) x (upR s)) ∧ Fm w w' (tfoot tb mb T) (tfoot tb mb (upd (upd T i (linkR r s iv)) x (upR s))) := by
  have H1 := find_any h i hi
  have H2 := find_any h x hx
  rw [show fnd T i = .pointer (some ⟨r.B, 0, none⟩) from by unfold fnd; rw [hT]; rfl] at H1
  rw [show fnd T x = .pointer (some ⟨s.B, 0, none⟩) from by unfold fnd; rw [hS]; rfl] at H2
  have H3 := has_any (h.obj i r hT).1 x hn
  rw [hc] at H3
  have HH1 := Lib.hid H1
  have HH2 := Lib.hid H2
  have HH3 := Lib.hid H3
  have HH := Lib.hid h
  have ro := (h.obj i r hT).1
  have so := (h.obj x s hS).1
  have k1 : ∀ q, (w.drewN q).cell? ⟨r.B, 1, none⟩ = some (.int .i64 1) := fun q => show w.cell? _ = _ by rw [← hk]; simp [World.cell?, ro.blk, cellsR]
  have k2 : ∀ q, (w.drewN q).cell? ⟨s.B, 1, none⟩ = some (.int .i64 5) := fun q => show w.cell? _ = _ by rw [← hsk]; simp [World.cell?, so.blk, cellsR]
  have k3 : ∀ q, (w.drewN q).cell? ⟨s.B, 2, none⟩ = some (.int .i64 s.ob.quota) := fun q => show w.cell? _ = _ by simp [World.cell?, so.blk, cellsR]
  have l1 : w.cell? ⟨r.B, 1, none⟩ = some (.int .i64 1) := k1 0
  have l2 : w.cell? ⟨s.B, 1, none⟩ = some (.int .i64 5) := k2 0
  have l3 : w.cell? ⟨s.B, 2, none⟩ = some (.int .i64 s.ob.quota) := k3 0
  have hb : ∀ q, RowKit.Below w.heap.size w (w.drewN q) := fun q => ⟨rfl, rfl, rfl, Nat.le_refl _, fun _ _ => rfl⟩
  have HRm := Lib.hid (fun q => Calls.quiet_of (room_any (w := w.drewN q) (base := base) (ro.same (fun _ _ => rfl)) (by unfold i64; omega)))
  have HLk := Lib.hid (fun q => link_any base r s (w.drewN q) (ro.same (fun _ _ => rfl)) (so.same (fun _ _ => rfl)) (fun k h1 h2 => h.apart i x r s k hT hS hix h1 h2) hn (by unfold i64; omega) (by unfold i64; omega))
  have g6 : ¬ r.ob.quota - r.ob.used < s.ob.quota := by omega
  clear h H1 H2 H3 ro so
  go_enter Try.func11, Try.ntmps11
  go_wp2_with (first
    | (go_at_call 39; refine HH1.out.mono ?_; rintro e w1 ⟨rfl, hw1⟩; rw [hw1]; clear hw1 w1; refine Hid.out ?_))
  refine Lib.hid ?_
  go_wp2_with (first
    | (go_at_call 39; refine HH2.out.mono ?_; rintro e w1 ⟨rfl, hw1⟩; rw [hw1]; clear hw1 w1)
    | (go_at_call 42; refine HH3.out.mono ?_; rintro e w1 ⟨rfl, hw1⟩; rw [hw1]; clear hw1 w1))
  go_quiet (first | (go_at_call 40; exact HRm.out _))
  go_wp2_with (first | (go_at_call 41; refine (HLk.out nq).mono ?_; rintro e w6 ⟨⟨v6, rfl⟩, iv, hr6, hs6, hnew6, hF6⟩; have HR6 := Lib.hid hr6; have HS6 := Lib.hid hs6; have HN6 := Lib.hid hnew6; have HF6 := Lib.hid hF6; clear hr6 hs6 hnew6 hF6))
  go_ret
  have h2 := HH.out.two hT hS hix (linkR r s iv) (upR s) HR6.out HS6.out rfl rfl rfl rfl HN6.out (fun k hk => hk) ⟨HF6.out.os, HF6.out.tape, HF6.out.output, HF6.out.size, HF6.out.same, HF6.out.new⟩
  exact ⟨rfl, iv, h2⟩
set_option maxRecDepth 100000 in
set_option maxHeartbeats 1000000 in
theorem Link_none1 {w : World} {base tb mb : Nat} {D : DataW Unit} {T : Tab} (h : TAt w base tb mb D T) (i x : Int) (hi : i64 i) (hx : i64 x) (hT : T i = none) :
    Calls Try.prog 11 #[.pointer (some ⟨tb, 0, none⟩), .int .i64 i, .int .i64 x] w fun e w' => e = .returned (.int .i64 4) ∧ Below w.heap.size w w' := by
  have H1 := find_any h i hi
  have H2 := find_any h x hx
  rw [show fnd T i = .pointer none from by unfold fnd; rw [hT]; rfl] at H1
  have HH1 := Lib.hid H1
  have HH2 := Lib.hid H2
  clear h H1 H2
  go_enter Try.func11, Try.ntmps11
  go_wp2_with (first
    | (go_at_call 39; refine HH1.out.mono ?_; rintro e w1 ⟨rfl, hw1⟩; rw [hw1]; clear hw1 w1; refine Hid.out ?_))
  refine Lib.hid ?_
  go_wp2_with (first
    | (go_at_call 39; refine HH2.out.mono ?_; rintro e w1 ⟨rfl, hw1⟩; rw [hw1]; clear hw1 w1))
  go_ret
  exact ⟨rfl, Below.refl _ _⟩
set_option maxRecDepth 100000 in
set_option maxHeartbeats 1000000 in
theorem Link_none2 {w : World} {base tb mb : Nat} {D : DataW Unit} {T : Tab} (h : TAt w base tb mb D T) (i x : Int) (hi : i64 i) (hx : i64 x) (r : Rc) (hT : T i = some r) (hS : T x = none) :
    Calls Try.prog 11 #[.pointer (some ⟨tb, 0, none⟩), .int .i64 i, .int .i64 x] w fun e w' => e = .returned (.int .i64 4) ∧ Below w.heap.size w w' := by
  have H1 := find_any h i hi
  have H2 := find_any h x hx
  rw [show fnd T i = .pointer (some ⟨r.B, 0, none⟩) from by unfold fnd; rw [hT]; rfl] at H1
  rw [show fnd T x = .pointer none from by unfold fnd; rw [hS]; rfl] at H2
  have HH1 := Lib.hid H1
  have HH2 := Lib.hid H2
  clear h H1 H2
  go_enter Try.func11, Try.ntmps11
  go_wp2_with (first
    | (go_at_call 39; refine HH1.out.mono ?_; rintro e w1 ⟨rfl, hw1⟩; rw [hw1]; clear hw1 w1; refine Hid.out ?_))
  refine Lib.hid ?_
  go_wp2_with (first
    | (go_at_call 39; refine HH2.out.mono ?_; rintro e w1 ⟨rfl, hw1⟩; rw [hw1]; clear hw1 w1))
  go_ret
  exact ⟨rfl, Below.refl _ _⟩
set_option maxRecDepth 100000 in
set_option maxHeartbeats 1000000 in
theorem Link_kind1 {w : World} {base tb mb : Nat} {D : DataW Unit} {T : Tab} (h : TAt w base tb mb D T) (i x : Int) (hi : i64 i) (hx : i64 x) (r s : Rc) (hT : T i = some r) (hS : T x = some s) (hk : r.ob.kind ≠ 1) :
    Calls Try.prog 11 #[.pointer (some ⟨tb, 0, none⟩), .int .i64 i, .int .i64 x] w fun e w' => e = .returned (.int .i64 5) ∧ Below w.heap.size w w' := by
  have H1 := find_any h i hi
  have H2 := find_any h x hx
  rw [show fnd T i = .pointer (some ⟨r.B, 0, none⟩) from by unfold fnd; rw [hT]; rfl] at H1
  rw [show fnd T x = .pointer (some ⟨s.B, 0, none⟩) from by unfold fnd; rw [hS]; rfl] at H2
  have HH1 := Lib.hid H1
  have HH2 := Lib.hid H2
  have ro := (h.obj i r hT).1
  have so := (h.obj x s hS).1
  have k1 : ∀ q, (w.drewN q).cell? ⟨r.B, 1, none⟩ = some (.int .i64 r.ob.kind) := fun q => show w.cell? _ = _ by simp [World.cell?, ro.blk, cellsR]
  have k2 : ∀ q, (w.drewN q).cell? ⟨s.B, 1, none⟩ = some (.int .i64 s.ob.kind) := fun q => show w.cell? _ = _ by simp [World.cell?, so.blk, cellsR]
  have l1 : w.cell? ⟨r.B, 1, none⟩ = some (.int .i64 r.ob.kind) := k1 0
  have l2 : w.cell? ⟨s.B, 1, none⟩ = some (.int .i64 s.ob.kind) := k2 0
  have hkb : (r.ob.kind != 1) = true := by simpa using hk
  clear h H1 H2 ro so
  go_enter Try.func11, Try.ntmps11
  go_wp2_with (first
    | (go_at_call 39; refine HH1.out.mono ?_; rintro e w1 ⟨rfl, hw1⟩; rw [hw1]; clear hw1 w1; refine Hid.out ?_))
  refine Lib.hid ?_
  go_wp2_with (first
    | (go_at_call 39; refine HH2.out.mono ?_; rintro e w1 ⟨rfl, hw1⟩; rw [hw1]; clear hw1 w1))
  go_ret
  exact ⟨rfl, Below.refl _ _⟩
set_option maxRecDepth 100000 in
set_option maxHeartbeats 1000000 in
theorem Link_kind2 {w : World} {base tb mb : Nat} {D : DataW Unit} {T : Tab} (h : TAt w base tb mb D T) (i x : Int) (hi : i64 i) (hx : i64 x) (r s : Rc) (hT : T i = some r) (hS : T x = some s) (hk : r.ob.kind = 1) (hs2 : s.ob.kind ≠ 2) (hs5 : s.ob.kind ≠ 5) :
    Calls Try.prog 11 #[.pointer (some ⟨tb, 0, none⟩), .int .i64 i, .int .i64 x] w fun e w' => e = .returned (.int .i64 5) ∧ Below w.heap.size w w' := by
  have H1 := find_any h i hi
  have H2 := find_any h x hx
  rw [show fnd T i = .pointer (some ⟨r.B, 0, none⟩) from by unfold fnd; rw [hT]; rfl] at H1
  rw [show fnd T x = .pointer (some ⟨s.B, 0, none⟩) from by unfold fnd; rw [hS]; rfl] at H2
  have HH1 := Lib.hid H1
  have HH2 := Lib.hid H2
  have ro := (h.obj i r hT).1
  have so := (h.obj x s hS).1
  have k1 : ∀ q, (w.drewN q).cell? ⟨r.B, 1, none⟩ = some (.int .i64 r.ob.kind) := fun q => show w.cell? _ = _ by simp [World.cell?, ro.blk, cellsR]
  have k2 : ∀ q, (w.drewN q).cell? ⟨s.B, 1, none⟩ = some (.int .i64 s.ob.kind) := fun q => show w.cell? _ = _ by simp [World.cell?, so.blk, cellsR]
  have l1 : w.cell? ⟨r.B, 1, none⟩ = some (.int .i64 r.ob.kind) := k1 0
  have l2 : w.cell? ⟨s.B, 1, none⟩ = some (.int .i64 s.ob.kind) := k2 0
  rw [hk] at k1 l1
  have hk2 : (s.ob.kind != 2) = true := by simpa using hs2
  have hk5 : (s.ob.kind != 5) = true := by simpa using hs5
  clear h H1 H2 ro so hk
  go_enter Try.func11, Try.ntmps11
  go_wp2_with (first
    | (go_at_call 39; refine HH1.out.mono ?_; rintro e w1 ⟨rfl, hw1⟩; rw [hw1]; clear hw1 w1; refine Hid.out ?_))
  refine Lib.hid ?_
  go_wp2_with (first
    | (go_at_call 39; refine HH2.out.mono ?_; rintro e w1 ⟨rfl, hw1⟩; rw [hw1]; clear hw1 w1))
  go_ret
  exact ⟨rfl, Below.refl _ _⟩
set_option maxRecDepth 100000 in
set_option maxHeartbeats 1000000 in
theorem Link_arg2 {w : World} {base tb mb : Nat} {D : DataW Unit} {T : Tab} (h : TAt w base tb mb D T) (i x : Int) (hi : i64 i) (hx : i64 x) (r s : Rc) (hT : T i = some r) (hS : T x = some s) (hk : r.ob.kind = 1) (hsk : s.ob.kind = 2) (hn : r.ob.ents.length < 1000000) (hc : r.ob.ents.contains x = true) :
    Calls Try.prog 11 #[.pointer (some ⟨tb, 0, none⟩), .int .i64 i, .int .i64 x] w fun e w' => e = .returned (.int .i64 1) ∧ Below w.heap.size w w' := by
  have H1 := find_any h i hi
  have H2 := find_any h x hx
  rw [show fnd T i = .pointer (some ⟨r.B, 0, none⟩) from by unfold fnd; rw [hT]; rfl] at H1
  rw [show fnd T x = .pointer (some ⟨s.B, 0, none⟩) from by unfold fnd; rw [hS]; rfl] at H2
  have H3 := has_any (h.obj i r hT).1 x hn
  rw [hc] at H3
  have HH1 := Lib.hid H1
  have HH2 := Lib.hid H2
  have HH3 := Lib.hid H3
  have ro := (h.obj i r hT).1
  have so := (h.obj x s hS).1
  have k1 : ∀ q, (w.drewN q).cell? ⟨r.B, 1, none⟩ = some (.int .i64 r.ob.kind) := fun q => show w.cell? _ = _ by simp [World.cell?, ro.blk, cellsR]
  have k2 : ∀ q, (w.drewN q).cell? ⟨s.B, 1, none⟩ = some (.int .i64 s.ob.kind) := fun q => show w.cell? _ = _ by simp [World.cell?, so.blk, cellsR]
  have l1 : w.cell? ⟨r.B, 1, none⟩ = some (.int .i64 r.ob.kind) := k1 0
  have l2 : w.cell? ⟨s.B, 1, none⟩ = some (.int .i64 s.ob.kind) := k2 0
  rw [hk] at k1 l1
  rw [hsk] at k2 l2
  clear h H1 H2 H3 ro so hk hsk
  go_enter Try.func11, Try.ntmps11
  go_wp2_with (first
    | (go_at_call 39; refine HH1.out.mono ?_; rintro e w1 ⟨rfl, hw1⟩; rw [hw1]; clear hw1 w1; refine Hid.out ?_))
  refine Lib.hid ?_
  go_wp2_with (first
    | (go_at_call 39; refine HH2.out.mono ?_; rintro e w1 ⟨rfl, hw1⟩; rw [hw1]; clear hw1 w1)
    | (go_at_call 42; refine HH3.out.mono ?_; rintro e w1 ⟨rfl, hw1⟩; rw [hw1]; clear hw1 w1))
  go_ret
  exact ⟨rfl, Below.refl _ _⟩
set_option maxRecDepth 100000 in
set_option maxHeartbeats 1000000 in
theorem Link_quota2 {w : World} {base tb mb : Nat} {D : DataW Unit} {T : Tab} (h : TAt w base tb mb D T) (i x : Int) (hi : i64 i) (hx : i64 x) (r s : Rc) (hT : T i = some r) (hS : T x = some s) (hk : r.ob.kind = 1) (hsk : s.ob.kind = 2) (hn : r.ob.ents.length < 1000000) (hc : r.ob.ents.contains x = false) (hq : r.ob.quota - r.ob.used < s.ob.quota) (hu : 0 ≤ r.ob.used) (hqq : r.ob.quota ≤ 1099511627776) (hq0 : r.ob.used ≤ r.ob.quota) :
    Calls Try.prog 11 #[.pointer (some ⟨tb, 0, none⟩), .int .i64 i, .int .i64 x] w fun e w' => e = .returned (.int .i64 6) ∧ Below w.heap.size w w' := by
  have H1 := find_any h i hi
  have H2 := find_any h x hx
  rw [show fnd T i = .pointer (some ⟨r.B, 0, none⟩) from by unfold fnd; rw [hT]; rfl] at H1
  rw [show fnd T x = .pointer (some ⟨s.B, 0, none⟩) from by unfold fnd; rw [hS]; rfl] at H2
  have H3 := has_any (h.obj i r hT).1 x hn
  rw [hc] at H3
  have HH1 := Lib.hid H1
  have HH2 := Lib.hid H2
  have HH3 := Lib.hid H3
  have ro := (h.obj i r hT).1
  have so := (h.obj x s hS).1
  have k1 : ∀ q, (w.drewN q).cell? ⟨r.B, 1, none⟩ = some (.int .i64 r.ob.kind) := fun q => show w.cell? _ = _ by simp [World.cell?, ro.blk, cellsR]
  have k2 : ∀ q, (w.drewN q).cell? ⟨s.B, 1, none⟩ = some (.int .i64 s.ob.kind) := fun q => show w.cell? _ = _ by simp [World.cell?, so.blk, cellsR]
  have l1 : w.cell? ⟨r.B, 1, none⟩ = some (.int .i64 r.ob.kind) := k1 0
  have l2 : w.cell? ⟨s.B, 1, none⟩ = some (.int .i64 s.ob.kind) := k2 0
  have k3 : ∀ q, (w.drewN q).cell? ⟨s.B, 2, none⟩ = some (.int .i64 s.ob.quota) := fun q => show w.cell? _ = _ by simp [World.cell?, so.blk, cellsR]
  have l3 : w.cell? ⟨s.B, 2, none⟩ = some (.int .i64 s.ob.quota) := k3 0
  have hb : ∀ q, RowKit.Below w.heap.size w (w.drewN q) := fun q => ⟨rfl, rfl, rfl, Nat.le_refl _, fun _ _ => rfl⟩
  have HRm := Lib.hid (fun q => Calls.quiet_of (room_any (w := w.drewN q) (base := base) (ro.same (fun _ _ => rfl)) (by unfold i64; omega)))
  rw [hk] at k1 l1
  rw [hsk] at k2 l2
  clear h H1 H2 H3 ro so hk hsk
  go_enter Try.func11, Try.ntmps11
  go_wp2_with (first
    | (go_at_call 39; refine HH1.out.mono ?_; rintro e w1 ⟨rfl, hw1⟩; rw [hw1]; clear hw1 w1; refine Hid.out ?_))
  refine Lib.hid ?_
  go_wp2_with (first
    | (go_at_call 39; refine HH2.out.mono ?_; rintro e w1 ⟨rfl, hw1⟩; rw [hw1]; clear hw1 w1)
    | (go_at_call 42; refine HH3.out.mono ?_; rintro e w1 ⟨rfl, hw1⟩; rw [hw1]; clear hw1 w1))
  go_quiet (first | (go_at_call 40; exact HRm.out _))
  go_wp2_with fail
  go_ret
  exact ⟨rfl, hb nq⟩
set_option maxRecDepth 100000 in
set_option maxHeartbeats 1000000 in
theorem Link_arg5 {w : World} {base tb mb : Nat} {D : DataW Unit} {T : Tab} (h : TAt w base tb mb D T) (i x : Int) (hi : i64 i) (hx : i64 x) (r s : Rc) (hT : T i = some r) (hS : T x = some s) (hk : r.ob.kind = 1) (hsk : s.ob.kind = 5) (hn : r.ob.ents.length < 1000000) (hc : r.ob.ents.contains x = true) :
    Calls Try.prog 11 #[.pointer (some ⟨tb, 0, none⟩), .int .i64 i, .int .i64 x] w fun e w' => e = .returned (.int .i64 1) ∧ Below w.heap.size w w' := by
  have H1 := find_any h i hi
  have H2 := find_any h x hx
  rw [show fnd T i = .pointer (some ⟨r.B, 0, none⟩) from by unfold fnd; rw [hT]; rfl] at H1
  rw [show fnd T x = .pointer (some ⟨s.B, 0, none⟩) from by unfold fnd; rw [hS]; rfl] at H2
  have H3 := has_any (h.obj i r hT).1 x hn
  rw [hc] at H3
  have HH1 := Lib.hid H1
  have HH2 := Lib.hid H2
  have HH3 := Lib.hid H3
  have ro := (h.obj i r hT).1
  have so := (h.obj x s hS).1
  have k1 : ∀ q, (w.drewN q).cell? ⟨r.B, 1, none⟩ = some (.int .i64 r.ob.kind) := fun q => show w.cell? _ = _ by simp [World.cell?, ro.blk, cellsR]
  have k2 : ∀ q, (w.drewN q).cell? ⟨s.B, 1, none⟩ = some (.int .i64 s.ob.kind) := fun q => show w.cell? _ = _ by simp [World.cell?, so.blk, cellsR]
  have l1 : w.cell? ⟨r.B, 1, none⟩ = some (.int .i64 r.ob.kind) := k1 0
  have l2 : w.cell? ⟨s.B, 1, none⟩ = some (.int .i64 s.ob.kind) := k2 0
  rw [hk] at k1 l1
  rw [hsk] at k2 l2
  clear h H1 H2 H3 ro so hk hsk
  go_enter Try.func11, Try.ntmps11
  go_wp2_with (first
    | (go_at_call 39; refine HH1.out.mono ?_; rintro e w1 ⟨rfl, hw1⟩; rw [hw1]; clear hw1 w1; refine Hid.out ?_))
  refine Lib.hid ?_
  go_wp2_with (first
    | (go_at_call 39; refine HH2.out.mono ?_; rintro e w1 ⟨rfl, hw1⟩; rw [hw1]; clear hw1 w1)
    | (go_at_call 42; refine HH3.out.mono ?_; rintro e w1 ⟨rfl, hw1⟩; rw [hw1]; clear hw1 w1))
  go_ret
  exact ⟨rfl, Below.refl _ _⟩
set_option maxRecDepth 100000 in
set_option maxHeartbeats 1000000 in
theorem Link_quota5 {w : World} {base tb mb : Nat} {D : DataW Unit} {T : Tab} (h : TAt w base tb mb D T) (i x : Int) (hi : i64 i) (hx : i64 x) (r s : Rc) (hT : T i = some r) (hS : T x = some s) (hk : r.ob.kind = 1) (hsk : s.ob.kind = 5) (hn : r.ob.ents.length < 1000000) (hc : r.ob.ents.contains x = false) (hq : r.ob.quota - r.ob.used < s.ob.quota) (hu : 0 ≤ r.ob.used) (hqq : r.ob.quota ≤ 1099511627776) (hq0 : r.ob.used ≤ r.ob.quota) :
    Calls Try.prog 11 #[.pointer (some ⟨tb, 0, none⟩), .int .i64 i, .int .i64 x] w fun e w' => e = .returned (.int .i64 6) ∧ Below w.heap.size w w' := by
  have H1 := find_any h i hi
  have H2 := find_any h x hx
  rw [show fnd T i = .pointer (some ⟨r.B, 0, none⟩) from by unfold fnd; rw [hT]; rfl] at H1
  rw [show fnd T x = .pointer (some ⟨s.B, 0, none⟩) from by unfold fnd; rw [hS]; rfl] at H2
  have H3 := has_any (h.obj i r hT).1 x hn
  rw [hc] at H3
  have HH1 := Lib.hid H1
  have HH2 := Lib.hid H2
  have HH3 := Lib.hid H3
  have ro := (h.obj i r hT).1
  have so := (h.obj x s hS).1
  have k1 : ∀ q, (w.drewN q).cell? ⟨r.B, 1, none⟩ = some (.int .i64 r.ob.kind) := fun q => show w.cell? _ = _ by simp [World.cell?, ro.blk, cellsR]
  have k2 : ∀ q, (w.drewN q).cell? ⟨s.B, 1, none⟩ = some (.int .i64 s.ob.kind) := fun q => show w.cell? _ = _ by simp [World.cell?, so.blk, cellsR]
  have l1 : w.cell? ⟨r.B, 1, none⟩ = some (.int .i64 r.ob.kind) := k1 0
  have l2 : w.cell? ⟨s.B, 1, none⟩ = some (.int .i64 s.ob.kind) := k2 0
  have k3 : ∀ q, (w.drewN q).cell? ⟨s.B, 2, none⟩ = some (.int .i64 s.ob.quota) := fun q => show w.cell? _ = _ by simp [World.cell?, so.blk, cellsR]
  have l3 : w.cell? ⟨s.B, 2, none⟩ = some (.int .i64 s.ob.quota) := k3 0
  have hb : ∀ q, RowKit.Below w.heap.size w (w.drewN q) := fun q => ⟨rfl, rfl, rfl, Nat.le_refl _, fun _ _ => rfl⟩
  have HRm := Lib.hid (fun q => Calls.quiet_of (room_any (w := w.drewN q) (base := base) (ro.same (fun _ _ => rfl)) (by unfold i64; omega)))
  rw [hk] at k1 l1
  rw [hsk] at k2 l2
  clear h H1 H2 H3 ro so hk hsk
  go_enter Try.func11, Try.ntmps11
  go_wp2_with (first
    | (go_at_call 39; refine HH1.out.mono ?_; rintro e w1 ⟨rfl, hw1⟩; rw [hw1]; clear hw1 w1; refine Hid.out ?_))
  refine Lib.hid ?_
  go_wp2_with (first
    | (go_at_call 39; refine HH2.out.mono ?_; rintro e w1 ⟨rfl, hw1⟩; rw [hw1]; clear hw1 w1)
    | (go_at_call 42; refine HH3.out.mono ?_; rintro e w1 ⟨rfl, hw1⟩; rw [hw1]; clear hw1 w1))
  go_quiet (first | (go_at_call 40; exact HRm.out _))
  go_wp2_with fail
  go_ret
  exact ⟨rfl, hb nq⟩
end Go.Proofs.Ytebcnlhgkpaghaa

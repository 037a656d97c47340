/- Make of package hold, where it is refused. -/
import Derived.Test.YtebcnlhgkpaghaaMake
namespace Go.Proofs.Ytebcnlhgkpaghaa
open Go.RowKit Go.Sort
set_option maxRecDepth 100000 in
set_option maxHeartbeats 1000000 in
theorem Make_cont {w : World} {base tb mb : Nat} {D : DataW Unit} {T : Tab} (h : TAt w base tb mb D T) (i id kind quota d : Int) (p : Option Addr) (cap : Nat) (xs : List (Int × Int))
    (hi : i64 i) (hce : contE T i ≠ 0) :
    Calls Try.prog 10 #[.pointer (some ⟨tb, 0, none⟩), .int .i64 i, .int .i64 id, .int .i64 kind, .int .i64 quota, .agg #[.int .i64 d, .slice p xs.length cap]] w fun e w' =>
      e = .returned (.int .i64 (contE T i)) ∧ Below w.heap.size w w' := by
  have hW1 : Below w.heap.size w (w.alloc (.cells #[.int .i64 d, .slice p xs.length cap] 24)) := by go_grown
  have HCo := container_any (h.below hW1) i hi
  rw [show contP T i = .pointer none from by unfold contP; rw [if_neg hce]] at HCo
  obtain ⟨c, hcc⟩ : ∃ c, contE T i = c := ⟨_, rfl⟩
  rw [hcc] at HCo hce ⊢
  have HC := Lib.hid HCo
  have hcb : (c != 0) = true := by simpa using hce
  clear HCo h hcc
  obtain ⟨W1, hWe⟩ : ∃ W1, w.alloc (.cells #[.int .i64 d, .slice p xs.length cap] 24) = W1 := ⟨_, rfl⟩
  rw [hWe] at hW1 HC
  go_enter Try.func10, Try.ntmps10
  go_wp2_with (first
    | (go_at_call 37; refine HC.out.mono ?_; rintro e w1 ⟨rfl, hw1⟩; rw [hw1]; clear hw1 w1))
  go_ret
  exact ⟨rfl, hW1⟩
set_option maxRecDepth 100000 in
set_option maxHeartbeats 1000000 in
theorem Make_kind {w : World} {base tb mb : Nat} {D : DataW Unit} {T : Tab} (h : TAt w base tb mb D T) (i id kind quota d : Int) (p : Option Addr) (cap : Nat) (xs : List (Int × Int))
    (hi : i64 i) (r : Rc) (hT : T i = some r) (hk : r.ob.kind = 1) (hkd : kind < 1 ∨ 6 < kind) :
    Calls Try.prog 10 #[.pointer (some ⟨tb, 0, none⟩), .int .i64 i, .int .i64 id, .int .i64 kind, .int .i64 quota, .agg #[.int .i64 d, .slice p xs.length cap]] w fun e w' =>
      e = .returned (.int .i64 5) ∧ Below w.heap.size w w' := by
  have hW1 : Below w.heap.size w (w.alloc (.cells #[.int .i64 d, .slice p xs.length cap] 24)) := by go_grown
  have hcp : contP T i = .pointer (some ⟨r.B, 0, none⟩) := by unfold contP contE fnd; rw [hT]; simp [hk]
  have hce : contE T i = 0 := by unfold contE; rw [hT]; simp [hk]
  have HCo := container_any (h.below hW1) i hi
  rw [hcp, hce] at HCo
  have HC := Lib.hid HCo
  clear HCo h
  obtain ⟨W1, hWe⟩ : ∃ W1, w.alloc (.cells #[.int .i64 d, .slice p xs.length cap] 24) = W1 := ⟨_, rfl⟩
  rw [hWe] at hW1 HC
  by_cases g1 : kind < 1
  · go_enter Try.func10, Try.ntmps10
    go_wp2_with (first
      | (go_at_call 37; refine HC.out.mono ?_; rintro e w1 ⟨rfl, hw1⟩; rw [hw1]; clear hw1 w1))
    go_ret
    exact ⟨rfl, hW1⟩
  · have g2 : 6 < kind := hkd.resolve_left g1
    go_enter Try.func10, Try.ntmps10
    go_wp2_with (first
      | (go_at_call 37; refine HC.out.mono ?_; rintro e w1 ⟨rfl, hw1⟩; rw [hw1]; clear hw1 w1))
    go_ret
    exact ⟨rfl, hW1⟩
set_option maxRecDepth 100000 in
set_option maxHeartbeats 1000000 in
theorem Make_arg1 {w : World} {base tb mb : Nat} {D : DataW Unit} {T : Tab} (h : TAt w base tb mb D T) (i id kind quota d : Int) (p : Option Addr) (cap : Nat) (xs : List (Int × Int))
    (hm : xs.length ≤ maxLen) (hc : CatsAt w p xs) (hi : i64 i) (r : Rc) (hT : T i = some r) (hk : r.ob.kind = 1) (hkd : 1 ≤ kind ∧ kind ≤ 6) (hq : quota < 1) :
    Calls Try.prog 10 #[.pointer (some ⟨tb, 0, none⟩), .int .i64 i, .int .i64 id, .int .i64 kind, .int .i64 quota, .agg #[.int .i64 d, .slice p xs.length cap]] w fun e w' =>
      e = .returned (.int .i64 1) ∧ Below w.heap.size w w' := by
  have hW1 : Below w.heap.size w (w.alloc (.cells #[.int .i64 d, .slice p xs.length cap] 24)) := by go_grown
  have hcp : contP T i = .pointer (some ⟨r.B, 0, none⟩) := by unfold contP contE fnd; rw [hT]; simp [hk]
  have hce : contE T i = 0 := by unfold contE; rw [hT]; simp [hk]
  have HCo := container_any (h.below hW1) i hi
  rw [hcp, hce] at HCo
  have HC := Lib.hid HCo
  have k0 : (w.alloc (.cells #[.int .i64 d, .slice p xs.length cap] 24)).cell? ⟨w.heap.size, 0, none⟩ = some (.int .i64 d) := by simp [go_sem]
  have k1 : (w.alloc (.cells #[.int .i64 d, .slice p xs.length cap] 24)).cell? ⟨w.heap.size, 1, none⟩ = some (.slice p xs.length cap) := by simp [go_sem]
  have hc1 := hc.below hW1
  have HL := Lib.hid (fun W => lowest_any kind W)
  have HH := Lib.hid (h.below hW1)
  have HCt := Lib.hid hc1
  clear HCo h hc hc1
  obtain ⟨W1, hWe⟩ : ∃ W1, w.alloc (.cells #[.int .i64 d, .slice p xs.length cap] 24) = W1 := ⟨_, rfl⟩
  rw [hWe] at k0 k1 hW1 HC HH HCt
  have g1 : ¬ kind < 1 := by omega
  have g2 : ¬ 6 < kind := by omega
  have b3 : decide (quota < 1) = true := by simpa using hq
  go_enter Try.func10, Try.ntmps10
  go_wp2_with (first
    | (go_at_call 37; refine HC.out.mono ?_; rintro e w1 ⟨rfl, hw1⟩; rw [hw1]; clear hw1 w1))
  have hs1 : w.heap.size < W1.heap.size := by rw [← hWe]; simp
  have K0 := cell_gx (a := ⟨w.heap.size, 0, none⟩) hs1 k0
  have K1 := cell_gx (a := ⟨w.heap.size, 1, none⟩) hs1 k1
  have HFt : Hid (∀ n os, Calls Try.prog 15 #[.agg #[.int .i64 d, .slice p xs.length cap], .int .i64 (low kind)] (gx W1 n os) fun e w' => e = .returned (.bool (fitsS d (low kind) xs)) ∧ RowKit.Below (gx W1 n os).heap.size (gx W1 n os) w') := fun n os => by
    have := fits_any d (low kind) p cap xs (gx W1 n os) hm (HCt.out.below (gx_below _ _ _))
    exact this
  have HLo : Hid (∀ n os, Calls Try.prog 38 #[.int .i64 kind] (gx W1 n os) fun e w' => e = .returned (.int .i64 (low kind)) ∧ RowKit.Below (gx W1 n os).heap.size (gx W1 n os) w') := fun n os => (HL.out _).mono fun e w' ⟨h1, h2⟩ => ⟨h1, by rw [h2]; exact Below.refl _ _⟩
  refine wp_region_quiet_gx (by kernel_rfl) (by kernel_rfl) ?_
  repeat (quiet_step (first
    | (go_at_call 15; exact calls_gx (HFt.out _ _))
    | (go_at_call 38; exact calls_gx (HLo.out _ _))))
  refine wpQuiet_nil ?_
  intro _ hw'
  obtain ⟨⟨nq, osq⟩, hw''⟩ := hw'
  subst hw''
  have hb2 : RowKit.Below W1.heap.size W1 (gx W1 nq osq) := gx_below _ _ _
  simp only
  generalize gx W1 nq osq = W2 at hb2 ⊢
  clear K0 K1 HFt HLo
  have hz1 : w.heap.size + 1 = W1.heap.size := by rw [← hWe]; simp
  go_wp2_with fail
  go_ret
  exact ⟨rfl, hW1.trans (hb2.mono (by omega))⟩
set_option maxRecDepth 100000 in
set_option maxHeartbeats 1000000 in
theorem Make_arg2 {w : World} {base tb mb : Nat} {D : DataW Unit} {T : Tab} (h : TAt w base tb mb D T) (i id kind quota d : Int) (p : Option Addr) (cap : Nat) (xs : List (Int × Int))
    (hm : xs.length ≤ maxLen) (hc : CatsAt w p xs) (hi : i64 i) (r : Rc) (hT : T i = some r) (hk : r.ob.kind = 1) (hkd : 1 ≤ kind ∧ kind ≤ 6) (_hq0 : 1 ≤ quota) (hq : 1099511627776 < quota) :
    Calls Try.prog 10 #[.pointer (some ⟨tb, 0, none⟩), .int .i64 i, .int .i64 id, .int .i64 kind, .int .i64 quota, .agg #[.int .i64 d, .slice p xs.length cap]] w fun e w' =>
      e = .returned (.int .i64 1) ∧ Below w.heap.size w w' := by
  have hW1 : Below w.heap.size w (w.alloc (.cells #[.int .i64 d, .slice p xs.length cap] 24)) := by go_grown
  have hcp : contP T i = .pointer (some ⟨r.B, 0, none⟩) := by unfold contP contE fnd; rw [hT]; simp [hk]
  have hce : contE T i = 0 := by unfold contE; rw [hT]; simp [hk]
  have HCo := container_any (h.below hW1) i hi
  rw [hcp, hce] at HCo
  have HC := Lib.hid HCo
  have k0 : (w.alloc (.cells #[.int .i64 d, .slice p xs.length cap] 24)).cell? ⟨w.heap.size, 0, none⟩ = some (.int .i64 d) := by simp [go_sem]
  have k1 : (w.alloc (.cells #[.int .i64 d, .slice p xs.length cap] 24)).cell? ⟨w.heap.size, 1, none⟩ = some (.slice p xs.length cap) := by simp [go_sem]
  have hc1 := hc.below hW1
  have HL := Lib.hid (fun W => lowest_any kind W)
  have HH := Lib.hid (h.below hW1)
  have HCt := Lib.hid hc1
  clear HCo h hc hc1
  obtain ⟨W1, hWe⟩ : ∃ W1, w.alloc (.cells #[.int .i64 d, .slice p xs.length cap] 24) = W1 := ⟨_, rfl⟩
  rw [hWe] at k0 k1 hW1 HC HH HCt
  have g1 : ¬ kind < 1 := by omega
  have g2 : ¬ 6 < kind := by omega
  have g3 : ¬ quota < 1 := by omega
  have b3 : decide (quota < 1) = false := by simpa using g3
  have b4 : decide (1099511627776 < quota) = true := by simpa using hq
  go_enter Try.func10, Try.ntmps10
  go_wp2_with (first
    | (go_at_call 37; refine HC.out.mono ?_; rintro e w1 ⟨rfl, hw1⟩; rw [hw1]; clear hw1 w1))
  have hs1 : w.heap.size < W1.heap.size := by rw [← hWe]; simp
  have K0 := cell_gx (a := ⟨w.heap.size, 0, none⟩) hs1 k0
  have K1 := cell_gx (a := ⟨w.heap.size, 1, none⟩) hs1 k1
  have HFt : Hid (∀ n os, Calls Try.prog 15 #[.agg #[.int .i64 d, .slice p xs.length cap], .int .i64 (low kind)] (gx W1 n os) fun e w' => e = .returned (.bool (fitsS d (low kind) xs)) ∧ RowKit.Below (gx W1 n os).heap.size (gx W1 n os) w') := fun n os => by
    have := fits_any d (low kind) p cap xs (gx W1 n os) hm (HCt.out.below (gx_below _ _ _))
    exact this
  have HLo : Hid (∀ n os, Calls Try.prog 38 #[.int .i64 kind] (gx W1 n os) fun e w' => e = .returned (.int .i64 (low kind)) ∧ RowKit.Below (gx W1 n os).heap.size (gx W1 n os) w') := fun n os => (HL.out _).mono fun e w' ⟨h1, h2⟩ => ⟨h1, by rw [h2]; exact Below.refl _ _⟩
  refine wp_region_quiet_gx (by kernel_rfl) (by kernel_rfl) ?_
  repeat (quiet_step (first
    | (go_at_call 15; exact calls_gx (HFt.out _ _))
    | (go_at_call 38; exact calls_gx (HLo.out _ _))))
  refine wpQuiet_nil ?_
  intro _ hw'
  obtain ⟨⟨nq, osq⟩, hw''⟩ := hw'
  subst hw''
  have hb2 : RowKit.Below W1.heap.size W1 (gx W1 nq osq) := gx_below _ _ _
  simp only
  generalize gx W1 nq osq = W2 at hb2 ⊢
  clear K0 K1 HFt HLo
  have hz1 : w.heap.size + 1 = W1.heap.size := by rw [← hWe]; simp
  go_wp2_with fail
  go_ret
  exact ⟨rfl, hW1.trans (hb2.mono (by omega))⟩
set_option maxRecDepth 100000 in
set_option maxHeartbeats 1000000 in
theorem Make_arg3 {w : World} {base tb mb : Nat} {D : DataW Unit} {T : Tab} (h : TAt w base tb mb D T) (i id kind quota d : Int) (p : Option Addr) (cap : Nat) (xs : List (Int × Int))
    (hm : xs.length ≤ maxLen) (hc : CatsAt w p xs) (hi : i64 i) (r : Rc) (hT : T i = some r) (hk : r.ob.kind = 1) (hkd : 1 ≤ kind ∧ kind ≤ 6) (hq : 1 ≤ quota ∧ quota ≤ 1099511627776) (hf : fitsS d (low kind) xs = false) :
    Calls Try.prog 10 #[.pointer (some ⟨tb, 0, none⟩), .int .i64 i, .int .i64 id, .int .i64 kind, .int .i64 quota, .agg #[.int .i64 d, .slice p xs.length cap]] w fun e w' =>
      e = .returned (.int .i64 1) ∧ Below w.heap.size w w' := by
  have hW1 : Below w.heap.size w (w.alloc (.cells #[.int .i64 d, .slice p xs.length cap] 24)) := by go_grown
  have hcp : contP T i = .pointer (some ⟨r.B, 0, none⟩) := by unfold contP contE fnd; rw [hT]; simp [hk]
  have hce : contE T i = 0 := by unfold contE; rw [hT]; simp [hk]
  have HCo := container_any (h.below hW1) i hi
  rw [hcp, hce] at HCo
  have HC := Lib.hid HCo
  have k0 : (w.alloc (.cells #[.int .i64 d, .slice p xs.length cap] 24)).cell? ⟨w.heap.size, 0, none⟩ = some (.int .i64 d) := by simp [go_sem]
  have k1 : (w.alloc (.cells #[.int .i64 d, .slice p xs.length cap] 24)).cell? ⟨w.heap.size, 1, none⟩ = some (.slice p xs.length cap) := by simp [go_sem]
  have hc1 := hc.below hW1
  have HL := Lib.hid (fun W => lowest_any kind W)
  have HH := Lib.hid (h.below hW1)
  have HCt := Lib.hid hc1
  clear HCo h hc hc1
  obtain ⟨W1, hWe⟩ : ∃ W1, w.alloc (.cells #[.int .i64 d, .slice p xs.length cap] 24) = W1 := ⟨_, rfl⟩
  rw [hWe] at k0 k1 hW1 HC HH HCt
  have g1 : ¬ kind < 1 := by omega
  have g2 : ¬ 6 < kind := by omega
  have g3 : ¬ quota < 1 := by omega
  have g4 : ¬ 1099511627776 < quota := by omega
  have b3 : decide (quota < 1) = false := by simpa using g3
  have b4 : decide (1099511627776 < quota) = false := by simpa using g4
  go_enter Try.func10, Try.ntmps10
  go_wp2_with (first
    | (go_at_call 37; refine HC.out.mono ?_; rintro e w1 ⟨rfl, hw1⟩; rw [hw1]; clear hw1 w1))
  have hs1 : w.heap.size < W1.heap.size := by rw [← hWe]; simp
  have K0 := cell_gx (a := ⟨w.heap.size, 0, none⟩) hs1 k0
  have K1 := cell_gx (a := ⟨w.heap.size, 1, none⟩) hs1 k1
  have HFt : Hid (∀ n os, Calls Try.prog 15 #[.agg #[.int .i64 d, .slice p xs.length cap], .int .i64 (low kind)] (gx W1 n os) fun e w' => e = .returned (.bool false) ∧ RowKit.Below (gx W1 n os).heap.size (gx W1 n os) w') := fun n os => by
    have := fits_any d (low kind) p cap xs (gx W1 n os) hm (HCt.out.below (gx_below _ _ _))
    rwa [hf] at this
  have HLo : Hid (∀ n os, Calls Try.prog 38 #[.int .i64 kind] (gx W1 n os) fun e w' => e = .returned (.int .i64 (low kind)) ∧ RowKit.Below (gx W1 n os).heap.size (gx W1 n os) w') := fun n os => (HL.out _).mono fun e w' ⟨h1, h2⟩ => ⟨h1, by rw [h2]; exact Below.refl _ _⟩
  refine wp_region_quiet_gx (by kernel_rfl) (by kernel_rfl) ?_
  repeat (quiet_step (first
    | (go_at_call 15; exact calls_gx (HFt.out _ _))
    | (go_at_call 38; exact calls_gx (HLo.out _ _))))
  refine wpQuiet_nil ?_
  intro _ hw'
  obtain ⟨⟨nq, osq⟩, hw''⟩ := hw'
  subst hw''
  have hb2 : RowKit.Below W1.heap.size W1 (gx W1 nq osq) := gx_below _ _ _
  simp only
  generalize gx W1 nq osq = W2 at hb2 ⊢
  clear K0 K1 HFt HLo
  have hz1 : w.heap.size + 1 = W1.heap.size := by rw [← hWe]; simp
  go_wp2_with fail
  go_ret
  exact ⟨rfl, hW1.trans (hb2.mono (by omega))⟩
set_option maxRecDepth 100000 in
set_option maxHeartbeats 1000000 in
theorem Make_id1 {w : World} {base tb mb : Nat} {D : DataW Unit} {T : Tab} (h : TAt w base tb mb D T) (i id kind quota d : Int) (p : Option Addr) (cap : Nat) (xs : List (Int × Int))
    (hm : xs.length ≤ maxLen) (hc : CatsAt w p xs) (hi : i64 i) (r : Rc) (hT : T i = some r) (hk : r.ob.kind = 1) (hkd : 1 ≤ kind ∧ kind ≤ 6) (hq : 1 ≤ quota ∧ quota ≤ 1099511627776) (hf : fitsS d (low kind) xs = true) (hid : isCt id = false) :
    Calls Try.prog 10 #[.pointer (some ⟨tb, 0, none⟩), .int .i64 i, .int .i64 id, .int .i64 kind, .int .i64 quota, .agg #[.int .i64 d, .slice p xs.length cap]] w fun e w' =>
      e = .returned (.int .i64 8) ∧ Below w.heap.size w w' := by
  have hW1 : Below w.heap.size w (w.alloc (.cells #[.int .i64 d, .slice p xs.length cap] 24)) := by go_grown
  have hcp : contP T i = .pointer (some ⟨r.B, 0, none⟩) := by unfold contP contE fnd; rw [hT]; simp [hk]
  have hce : contE T i = 0 := by unfold contE; rw [hT]; simp [hk]
  have HCo := container_any (h.below hW1) i hi
  rw [hcp, hce] at HCo
  have HC := Lib.hid HCo
  have HI := Lib.hid (isId_any id)
  rw [hid] at HI
  have k0 : (w.alloc (.cells #[.int .i64 d, .slice p xs.length cap] 24)).cell? ⟨w.heap.size, 0, none⟩ = some (.int .i64 d) := by simp [go_sem]
  have k1 : (w.alloc (.cells #[.int .i64 d, .slice p xs.length cap] 24)).cell? ⟨w.heap.size, 1, none⟩ = some (.slice p xs.length cap) := by simp [go_sem]
  have hc1 := hc.below hW1
  have HL := Lib.hid (fun W => lowest_any kind W)
  have HH := Lib.hid (h.below hW1)
  have HCt := Lib.hid hc1
  clear HCo h hc hc1
  obtain ⟨W1, hWe⟩ : ∃ W1, w.alloc (.cells #[.int .i64 d, .slice p xs.length cap] 24) = W1 := ⟨_, rfl⟩
  rw [hWe] at k0 k1 hW1 HC HH HCt
  have g1 : ¬ kind < 1 := by omega
  have g2 : ¬ 6 < kind := by omega
  have g3 : ¬ quota < 1 := by omega
  have g4 : ¬ 1099511627776 < quota := by omega
  go_enter Try.func10, Try.ntmps10
  go_wp2_with (first
    | (go_at_call 37; refine HC.out.mono ?_; rintro e w1 ⟨rfl, hw1⟩; rw [hw1]; clear hw1 w1))
  have b3 : decide (quota < 1) = false := by simpa using g3
  have b4 : decide (1099511627776 < quota) = false := by simpa using g4
  have hs1 : w.heap.size < W1.heap.size := by rw [← hWe]; simp
  have K0 := cell_gx (a := ⟨w.heap.size, 0, none⟩) hs1 k0
  have K1 := cell_gx (a := ⟨w.heap.size, 1, none⟩) hs1 k1
  have HFt : Hid (∀ n os, Calls Try.prog 15 #[.agg #[.int .i64 d, .slice p xs.length cap], .int .i64 (low kind)] (gx W1 n os) fun e w' => e = .returned (.bool true) ∧ RowKit.Below (gx W1 n os).heap.size (gx W1 n os) w') := fun n os => by
    have := fits_any d (low kind) p cap xs (gx W1 n os) hm (HCt.out.below (gx_below _ _ _))
    rwa [hf] at this
  have HLo : Hid (∀ n os, Calls Try.prog 38 #[.int .i64 kind] (gx W1 n os) fun e w' => e = .returned (.int .i64 (low kind)) ∧ RowKit.Below (gx W1 n os).heap.size (gx W1 n os) w') := fun n os => (HL.out _).mono fun e w' ⟨h1, h2⟩ => ⟨h1, by rw [h2]; exact Below.refl _ _⟩
  refine wp_region_quiet_gx (by kernel_rfl) (by kernel_rfl) ?_
  repeat (quiet_step (first
    | (go_at_call 15; exact calls_gx (HFt.out _ _))
    | (go_at_call 38; exact calls_gx (HLo.out _ _))))
  refine wpQuiet_nil ?_
  intro _ hw'
  obtain ⟨⟨nq, osq⟩, hw''⟩ := hw'
  subst hw''
  have hb2 : RowKit.Below W1.heap.size W1 (gx W1 nq osq) := gx_below _ _ _
  simp only
  generalize gx W1 nq osq = W2 at hb2 ⊢
  clear K0 K1 HFt HLo
  have hz1 : w.heap.size + 1 = W1.heap.size := by rw [← hWe]; simp
  go_wp2_with (first
    | (go_at_call 14; refine (HI.out _).mono ?_; rintro e w1 ⟨rfl, hw1⟩; rw [hw1]; clear hw1 w1))
  go_ret
  exact ⟨rfl, hW1.trans (hb2.mono (by omega))⟩
set_option maxRecDepth 100000 in
set_option maxHeartbeats 1000000 in
theorem Make_id2 {w : World} {base tb mb : Nat} {D : DataW Unit} {T : Tab} (h : TAt w base tb mb D T) (i id kind quota d : Int) (p : Option Addr) (cap : Nat) (xs : List (Int × Int))
    (hm : xs.length ≤ maxLen) (hc : CatsAt w p xs) (hi : i64 i) (r : Rc) (hT : T i = some r) (hk : r.ob.kind = 1) (hkd : 1 ≤ kind ∧ kind ≤ 6) (hq : 1 ≤ quota ∧ quota ≤ 1099511627776) (hf : fitsS d (low kind) xs = true) (hid : isCt id = true) (s : Rc) (hS : T id = some s) :
    Calls Try.prog 10 #[.pointer (some ⟨tb, 0, none⟩), .int .i64 i, .int .i64 id, .int .i64 kind, .int .i64 quota, .agg #[.int .i64 d, .slice p xs.length cap]] w fun e w' =>
      e = .returned (.int .i64 8) ∧ Below w.heap.size w w' := by
  have hW1 : Below w.heap.size w (w.alloc (.cells #[.int .i64 d, .slice p xs.length cap] 24)) := by go_grown
  have hcp : contP T i = .pointer (some ⟨r.B, 0, none⟩) := by unfold contP contE fnd; rw [hT]; simp [hk]
  have hce : contE T i = 0 := by unfold contE; rw [hT]; simp [hk]
  have HCo := container_any (h.below hW1) i hi
  rw [hcp, hce] at HCo
  have HC := Lib.hid HCo
  have hir : i64 id := by have := hid; unfold isCt at this; simp at this; unfold i64; omega
  have HI := Lib.hid (isId_any id)
  rw [hid] at HI
  have k0 : (w.alloc (.cells #[.int .i64 d, .slice p xs.length cap] 24)).cell? ⟨w.heap.size, 0, none⟩ = some (.int .i64 d) := by simp [go_sem]
  have k1 : (w.alloc (.cells #[.int .i64 d, .slice p xs.length cap] 24)).cell? ⟨w.heap.size, 1, none⟩ = some (.slice p xs.length cap) := by simp [go_sem]
  have hc1 := hc.below hW1
  have HL := Lib.hid (fun W => lowest_any kind W)
  have HH := Lib.hid (h.below hW1)
  have HCt := Lib.hid hc1
  clear HCo h hc hc1
  obtain ⟨W1, hWe⟩ : ∃ W1, w.alloc (.cells #[.int .i64 d, .slice p xs.length cap] 24) = W1 := ⟨_, rfl⟩
  rw [hWe] at k0 k1 hW1 HC HH HCt
  have g1 : ¬ kind < 1 := by omega
  have g2 : ¬ 6 < kind := by omega
  have g3 : ¬ quota < 1 := by omega
  have g4 : ¬ 1099511627776 < quota := by omega
  go_enter Try.func10, Try.ntmps10
  go_wp2_with (first
    | (go_at_call 37; refine HC.out.mono ?_; rintro e w1 ⟨rfl, hw1⟩; rw [hw1]; clear hw1 w1))
  have b3 : decide (quota < 1) = false := by simpa using g3
  have b4 : decide (1099511627776 < quota) = false := by simpa using g4
  have hs1 : w.heap.size < W1.heap.size := by rw [← hWe]; simp
  have K0 := cell_gx (a := ⟨w.heap.size, 0, none⟩) hs1 k0
  have K1 := cell_gx (a := ⟨w.heap.size, 1, none⟩) hs1 k1
  have HFt : Hid (∀ n os, Calls Try.prog 15 #[.agg #[.int .i64 d, .slice p xs.length cap], .int .i64 (low kind)] (gx W1 n os) fun e w' => e = .returned (.bool true) ∧ RowKit.Below (gx W1 n os).heap.size (gx W1 n os) w') := fun n os => by
    have := fits_any d (low kind) p cap xs (gx W1 n os) hm (HCt.out.below (gx_below _ _ _))
    rwa [hf] at this
  have HLo : Hid (∀ n os, Calls Try.prog 38 #[.int .i64 kind] (gx W1 n os) fun e w' => e = .returned (.int .i64 (low kind)) ∧ RowKit.Below (gx W1 n os).heap.size (gx W1 n os) w') := fun n os => (HL.out _).mono fun e w' ⟨h1, h2⟩ => ⟨h1, by rw [h2]; exact Below.refl _ _⟩
  refine wp_region_quiet_gx (by kernel_rfl) (by kernel_rfl) ?_
  repeat (quiet_step (first
    | (go_at_call 15; exact calls_gx (HFt.out _ _))
    | (go_at_call 38; exact calls_gx (HLo.out _ _))))
  refine wpQuiet_nil ?_
  intro _ hw'
  obtain ⟨⟨nq, osq⟩, hw''⟩ := hw'
  subst hw''
  have hb2 : RowKit.Below W1.heap.size W1 (gx W1 nq osq) := gx_below _ _ _
  simp only
  generalize gx W1 nq osq = W2 at hb2 ⊢
  clear K0 K1 HFt HLo
  have hz1 : w.heap.size + 1 = W1.heap.size := by rw [← hWe]; simp
  have HFi := find_any (HH.out.below hb2) id hir
  rw [show fnd T id = .pointer (some ⟨s.B, 0, none⟩) from by unfold fnd; rw [hS]; rfl] at HFi
  have HF2 := Lib.hid HFi
  clear HFi
  go_wp2_with (first
    | (go_at_call 14; refine (HI.out _).mono ?_; rintro e w1 ⟨rfl, hw1⟩; rw [hw1]; clear hw1 w1)
    | (go_at_call 39; refine HF2.out.mono ?_; rintro e w1 ⟨rfl, hw1⟩; rw [hw1]; clear hw1 w1))
  go_ret
  exact ⟨rfl, hW1.trans (hb2.mono (by omega))⟩
set_option maxRecDepth 100000 in
set_option maxHeartbeats 1000000 in
theorem Make_full {w : World} {base tb mb : Nat} {D : DataW Unit} {T : Tab} (h : TAt w base tb mb D T) (i id kind quota d : Int) (p : Option Addr) (cap : Nat) (xs : List (Int × Int))
    (hm : xs.length ≤ maxLen) (hc : CatsAt w p xs) (hi : i64 i) (r : Rc) (hT : T i = some r) (hk : r.ob.kind = 1) (hkd : 1 ≤ kind ∧ kind ≤ 6) (hq : 1 ≤ quota ∧ quota ≤ 1099511627776) (hf : fitsS d (low kind) xs = true) (hid : isCt id = true) (hno : T id = none) (hsz : 4096 ≤ Maps.size D) :
    Calls Try.prog 10 #[.pointer (some ⟨tb, 0, none⟩), .int .i64 i, .int .i64 id, .int .i64 kind, .int .i64 quota, .agg #[.int .i64 d, .slice p xs.length cap]] w fun e w' =>
      e = .returned (.int .i64 7) ∧ Below w.heap.size w w' := by
  have hW1 : Below w.heap.size w (w.alloc (.cells #[.int .i64 d, .slice p xs.length cap] 24)) := by go_grown
  have hcp : contP T i = .pointer (some ⟨r.B, 0, none⟩) := by unfold contP contE fnd; rw [hT]; simp [hk]
  have hce : contE T i = 0 := by unfold contE; rw [hT]; simp [hk]
  have HCo := container_any (h.below hW1) i hi
  rw [hcp, hce] at HCo
  have HC := Lib.hid HCo
  have hir : i64 id := by have := hid; unfold isCt at this; simp at this; unfold i64; omega
  have HI := Lib.hid (isId_any id)
  rw [hid] at HI
  have k0 : (w.alloc (.cells #[.int .i64 d, .slice p xs.length cap] 24)).cell? ⟨w.heap.size, 0, none⟩ = some (.int .i64 d) := by simp [go_sem]
  have k1 : (w.alloc (.cells #[.int .i64 d, .slice p xs.length cap] 24)).cell? ⟨w.heap.size, 1, none⟩ = some (.slice p xs.length cap) := by simp [go_sem]
  have hc1 := hc.below hW1
  have HL := Lib.hid (fun W => lowest_any kind W)
  have HH := Lib.hid (h.below hW1)
  have HCt := Lib.hid hc1
  clear HCo h hc hc1
  obtain ⟨W1, hWe⟩ : ∃ W1, w.alloc (.cells #[.int .i64 d, .slice p xs.length cap] 24) = W1 := ⟨_, rfl⟩
  rw [hWe] at k0 k1 hW1 HC HH HCt
  have g1 : ¬ kind < 1 := by omega
  have g2 : ¬ 6 < kind := by omega
  have g3 : ¬ quota < 1 := by omega
  have g4 : ¬ 1099511627776 < quota := by omega
  go_enter Try.func10, Try.ntmps10
  go_wp2_with (first
    | (go_at_call 37; refine HC.out.mono ?_; rintro e w1 ⟨rfl, hw1⟩; rw [hw1]; clear hw1 w1))
  have b3 : decide (quota < 1) = false := by simpa using g3
  have b4 : decide (1099511627776 < quota) = false := by simpa using g4
  have hs1 : w.heap.size < W1.heap.size := by rw [← hWe]; simp
  have K0 := cell_gx (a := ⟨w.heap.size, 0, none⟩) hs1 k0
  have K1 := cell_gx (a := ⟨w.heap.size, 1, none⟩) hs1 k1
  have HFt : Hid (∀ n os, Calls Try.prog 15 #[.agg #[.int .i64 d, .slice p xs.length cap], .int .i64 (low kind)] (gx W1 n os) fun e w' => e = .returned (.bool true) ∧ RowKit.Below (gx W1 n os).heap.size (gx W1 n os) w') := fun n os => by
    have := fits_any d (low kind) p cap xs (gx W1 n os) hm (HCt.out.below (gx_below _ _ _))
    rwa [hf] at this
  have HLo : Hid (∀ n os, Calls Try.prog 38 #[.int .i64 kind] (gx W1 n os) fun e w' => e = .returned (.int .i64 (low kind)) ∧ RowKit.Below (gx W1 n os).heap.size (gx W1 n os) w') := fun n os => (HL.out _).mono fun e w' ⟨h1, h2⟩ => ⟨h1, by rw [h2]; exact Below.refl _ _⟩
  refine wp_region_quiet_gx (by kernel_rfl) (by kernel_rfl) ?_
  repeat (quiet_step (first
    | (go_at_call 15; exact calls_gx (HFt.out _ _))
    | (go_at_call 38; exact calls_gx (HLo.out _ _))))
  refine wpQuiet_nil ?_
  intro _ hw'
  obtain ⟨⟨nq, osq⟩, hw''⟩ := hw'
  subst hw''
  have hb2 : RowKit.Below W1.heap.size W1 (gx W1 nq osq) := gx_below _ _ _
  simp only
  generalize gx W1 nq osq = W2 at hb2 ⊢
  clear K0 K1 HFt HLo
  have hz1 : w.heap.size + 1 = W1.heap.size := by rw [← hWe]; simp
  have HFi := find_any (HH.out.below hb2) id hir
  rw [show fnd T id = .pointer none from by unfold fnd; rw [hno]; rfl] at HFi
  have HF2 := Lib.hid HFi
  have HLn := Lib.hid (Len_any (HH.out.below hb2))
  have g5 : (4096 : Int) ≤ (Maps.size D : Int) := by omega
  clear HFi
  go_wp2_with (first
    | (go_at_call 14; refine (HI.out _).mono ?_; rintro e w1 ⟨rfl, hw1⟩; rw [hw1]; clear hw1 w1)
    | (go_at_call 39; refine HF2.out.mono ?_; rintro e w1 ⟨rfl, hw1⟩; rw [hw1]; clear hw1 w1)
    | (go_at_call 13; refine HLn.out.mono ?_; rintro e w1 ⟨rfl, hw1⟩; rw [hw1]; clear hw1 w1))
  go_ret
  exact ⟨rfl, hW1.trans (hb2.mono (by omega))⟩
end Go.Proofs.Ytebcnlhgkpaghaa

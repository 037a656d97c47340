/- A call that answers an error has changed nothing. -/
import Derived.Test.YtlblfelfaopjiaaRunT
namespace Go.Proofs.Ytlblfelfaopjiaa
open Go.RowKit Go.Sort
set_option maxRecDepth 100000 in
set_option maxHeartbeats 8000000 in
theorem HoldRefused_any (p : Option Addr) (cap : Nat) (l : List OpR) (o : OpR) (w : World) (hl : OpsAt w p l) (ho : OpOk w o) :
    Calls Try.prog 5 #[.slice p l.length cap, .agg (opC o)] w fun e w' => e = .returned (.bool true) ∧ Below w.heap.size w w' := by
  obtain ⟨k, i, id, wh, n, d, p2, cap2, xs⟩ := o
  unfold opC
  obtain ⟨hi, hid, hca, hcm⟩ := ho
  simp only at hi hid hca hcm ⊢
  have hW : Below w.heap.size w (w.alloc (.cells #[.int .i64 k, .int .i64 i, .int .i64 id, .int .i64 wh, .int .i64 n, .int .i64 d, .slice p2 xs.length cap2] 32)) := (Below.refl _ _).alloc (Nat.le_refl _) _
  have hbk : (w.alloc (.cells #[.int .i64 k, .int .i64 i, .int .i64 id, .int .i64 wh, .int .i64 n, .int .i64 d, .slice p2 xs.length cap2] 32)).heap[w.heap.size]? = some (.cells #[.int .i64 k, .int .i64 i, .int .i64 id, .int .i64 wh, .int .i64 n, .int .i64 d, .slice p2 xs.length cap2] 32 (0, 0)) := heap_new _ _
  have z0 : w.heap.size < (w.alloc (.cells #[.int .i64 k, .int .i64 i, .int .i64 id, .int .i64 wh, .int .i64 n, .int .i64 d, .slice p2 xs.length cap2] 32)).heap.size := by simp
  have HLv := Lib.hid lives_any
  have HL := Lib.hid hl
  have HCa := Lib.hid hca
  clear hl hca
  go_enter Try.func5, Try.ntmps5
  go_wp2_with (first
    | (go_at_call 8; refine (HLv.out _).mono ?_; rintro e w1 ⟨rfl, hb1⟩; refine Hid.out ?_))
  refine Lib.hid ?_
  have B1 : Below w.heap.size w w1 := hW.trans (hb1.mono hW.size)
  have k1 := (hb1.block _ z0).trans hbk
  have z1 : w.heap.size < w1.heap.size := (Array.getElem?_eq_some_iff.1 k1).1
  have HR := Lib.hid (run_hi p cap l (HL.out.below B1))
  clear hb1 hW hbk z0 HLv
  go_wp2_with (first
    | (go_at_call 13; refine HR.out.mono ?_; rintro e w2 ⟨base, tb, mb, F, S, rfl, hA2, hbase, hb2⟩; refine Hid.out ?_))
  refine Lib.hid ?_
  have B2 : Below w.heap.size w w2 := B1.trans (hb2.mono B1.size)
  have k2 := (hb2.block _ z1).trans k1
  have hbw : w.heap.size < base := by omega
  have HCp := Lib.hid (copy_hi hA2)
  have HA2 := Lib.hid hA2
  clear hb2 HR k1 B1 hA2
  go_wp2_with (first
    | (go_at_call 19; refine HCp.out.mono ?_; rintro e w3 ⟨tb3, mb3, F3, rfl, hA3, hb3⟩; refine Hid.out ?_))
  refine Lib.hid ?_
  have B3 : Below w.heap.size w w3 := B2.trans (hb3.mono B2.size)
  have k3 : w3.heap[w.heap.size]? = some (.cells #[.int .i64 k, .int .i64 i, .int .i64 id, .int .i64 wh, .int .i64 n, .int .i64 d, .slice p2 xs.length cap2] 32 (0, 0)) := (hb3.block _ (Array.getElem?_eq_some_iff.1 k2).1).trans k2
  have hT3 := HA2.out.below hb3
  have fin : ∀ (c : Int) (w4 : World), Did w3 base tb mb F S c w4 → Below w.heap.size w w4 ∧ (c ≠ 0 → Calls Try.prog 25 #[.pointer (some ⟨tb, 0, none⟩), .pointer (some ⟨tb3, 0, none⟩)] w4 fun e w' => e = .returned (.bool true) ∧ Below w4.heap.size w4 w') := fun c w4 hd => by
    obtain ⟨F4, S4, a1, a2, a3⟩ := hd
    refine ⟨B3.trans ((hT3.belowF a2).mono (by omega)), fun hc => ?_⟩
    have e := a3 hc
    subst e
    refine same_hi a1 (hA3.same (fun q hq => a2.same q (hA3.lt hq).2 (fun hf => ?_)))
    have := (hA3.lt hq).1
    have := (HA2.out.lt hf).2
    omega
  have HF := Lib.hid fin
  have HT3 := Lib.hid hT3
  have HB3 := Lib.hid B3
  have HC3 := Lib.hid (HCa.out.below B3)
  have y0 : w3.cell? ⟨w.heap.size, 0, none⟩ = some (.int .i64 k) := by simp [World.cell?, k3]
  have y1 : w3.cell? ⟨w.heap.size, 1, none⟩ = some (.int .i64 i) := by simp [World.cell?, k3]
  have y2 : w3.cell? ⟨w.heap.size, 2, none⟩ = some (.int .i64 id) := by simp [World.cell?, k3]
  have y3 : w3.cell? ⟨w.heap.size, 3, none⟩ = some (.int .i64 wh) := by simp [World.cell?, k3]
  have y4 : w3.cell? ⟨w.heap.size, 4, none⟩ = some (.int .i64 n) := by simp [World.cell?, k3]
  have y5 : w3.cell? ⟨w.heap.size, 5, none⟩ = some (.int .i64 d) := by simp [World.cell?, k3]
  have y6 : w3.cell? ⟨w.heap.size, 6, none⟩ = some (.slice p2 xs.length cap2) := by simp [World.cell?, k3]
  clear hb3 fin hT3 B3 B2 HCp HL HCa hA3 k2 k3
  by_cases k1 : k = 1
  · subst k1
    have HC := Lib.hid (make_hi HT3.out i id wh n d p2 cap2 xs hcm HC3.out hi)
    go_wp2_with (first
      | (go_at_call 20; refine HC.out.mono ?_; rintro e w4 ⟨c, rfl, hd⟩; refine Hid.out ?_))
    refine Lib.hid ?_
    obtain ⟨B4, hsm⟩ := HF.out c w4 hd
    have HB4 := Lib.hid B4
    clear hd B4 HC HF HT3 HC3 HA2
    by_cases hc0 : c = 0
    · subst hc0
      clear hsm
      go_wp2_with fail
      go_ret
      exact ⟨rfl, HB4.out⟩
    · have hcb : (c == 0) = false := by simpa using hc0
      have HS := Lib.hid (hsm hc0)
      clear hsm
      go_wp2_with (first
        | (go_at_call 25; refine HS.out.mono ?_; rintro e w5 ⟨rfl, hb5⟩))
      go_ret
      exact ⟨rfl, HB4.out.trans (hb5.mono HB4.out.size)⟩
  by_cases k2 : k = 2
  · subst k2
    have HC := Lib.hid (link_hi HT3.out i id hi hid)
    go_wp2_with (first
      | (go_at_call 21; refine HC.out.mono ?_; rintro e w4 ⟨c, rfl, hd⟩; refine Hid.out ?_))
    refine Lib.hid ?_
    obtain ⟨B4, hsm⟩ := HF.out c w4 hd
    have HB4 := Lib.hid B4
    clear hd B4 HC HF HT3 HC3 HA2
    by_cases hc0 : c = 0
    · subst hc0
      clear hsm
      go_wp2_with fail
      go_ret
      exact ⟨rfl, HB4.out⟩
    · have hcb : (c == 0) = false := by simpa using hc0
      have HS := Lib.hid (hsm hc0)
      clear hsm
      go_wp2_with (first
        | (go_at_call 25; refine HS.out.mono ?_; rintro e w5 ⟨rfl, hb5⟩))
      go_ret
      exact ⟨rfl, HB4.out.trans (hb5.mono HB4.out.size)⟩
  by_cases k3 : k = 3
  · subst k3
    have HC := Lib.hid (drop_hi HT3.out i id hi)
    go_wp2_with (first
      | (go_at_call 22; refine HC.out.mono ?_; rintro e w4 ⟨gv, c, rfl, ⟨sp, ng, cg, rfl⟩, hd⟩; refine Hid.out ?_))
    refine Lib.hid ?_
    obtain ⟨B4, hsm⟩ := HF.out c w4 hd
    have HB4 := Lib.hid B4
    clear hd B4 HC HF HT3 HC3 HA2
    by_cases hc0 : c = 0
    · subst hc0
      clear hsm
      go_wp2_with fail
      go_ret
      exact ⟨rfl, HB4.out⟩
    · have hcb : (c == 0) = false := by simpa using hc0
      have HS := Lib.hid (hsm hc0)
      clear hsm
      go_wp2_with (first
        | (go_at_call 25; refine HS.out.mono ?_; rintro e w5 ⟨rfl, hb5⟩))
      go_ret
      exact ⟨rfl, HB4.out.trans (hb5.mono HB4.out.size)⟩
  by_cases k4 : k = 4
  · subst k4
    have HC := Lib.hid (shift_hi HT3.out i id n hi)
    go_wp2_with (first
      | (go_at_call 23; refine HC.out.mono ?_; rintro e w4 ⟨c, rfl, hd⟩; refine Hid.out ?_))
    refine Lib.hid ?_
    obtain ⟨B4, hsm⟩ := HF.out c w4 hd
    have HB4 := Lib.hid B4
    clear hd B4 HC HF HT3 HC3 HA2
    by_cases hc0 : c = 0
    · subst hc0
      clear hsm
      go_wp2_with fail
      go_ret
      exact ⟨rfl, HB4.out⟩
    · have hcb : (c == 0) = false := by simpa using hc0
      have HS := Lib.hid (hsm hc0)
      clear hsm
      go_wp2_with (first
        | (go_at_call 25; refine HS.out.mono ?_; rintro e w5 ⟨rfl, hb5⟩))
      go_ret
      exact ⟨rfl, HB4.out.trans (hb5.mono HB4.out.size)⟩
  by_cases k5 : k = 5
  · subst k5
    have HC := Lib.hid (relabel_hi HT3.out id d p2 cap2 xs hcm HC3.out hid)
    go_wp2_with (first
      | (go_at_call 24; refine HC.out.mono ?_; rintro e w4 ⟨c, rfl, hd⟩; refine Hid.out ?_))
    refine Lib.hid ?_
    obtain ⟨B4, hsm⟩ := HF.out c w4 hd
    have HB4 := Lib.hid B4
    clear hd B4 HC HF HT3 HC3 HA2
    by_cases hc0 : c = 0
    · subst hc0
      clear hsm
      go_wp2_with fail
      go_ret
      exact ⟨rfl, HB4.out⟩
    · have hcb : (c == 0) = false := by simpa using hc0
      have HS := Lib.hid (hsm hc0)
      clear hsm
      go_wp2_with (first
        | (go_at_call 25; refine HS.out.mono ?_; rintro e w5 ⟨rfl, hb5⟩))
      go_ret
      exact ⟨rfl, HB4.out.trans (hb5.mono HB4.out.size)⟩
  have j1 : (k == 1) = false := by simpa using k1
  have j2 : (k == 2) = false := by simpa using k2
  have j3 : (k == 3) = false := by simpa using k3
  have j4 : (k == 4) = false := by simpa using k4
  have j5 : (k == 5) = false := by simpa using k5
  go_wp2_with fail
  go_ret
  exact ⟨rfl, HB3.out⟩
end Go.Proofs.Ytlblfelfaopjiaa

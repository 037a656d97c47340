/- The iterator over a queue: what all tells. -/
import Derived.Test.YthknnmllibdggaaQueueW
import Derived.Test.YthknnmllibdggaaIter
namespace Go.Proofs.Ythknnmllibdggaa
open Go.RowKit
attribute [local go_sem] Oper.semAt_some
theorem allW_any (v : Option Addr) (w : World) : Calls Try.prog 26 #[.pointer v] w fun e w' => e = .returned (.func (.func 47) #[] #[.pointer (some ⟨w.heap.size, 0, none⟩)]) ∧ w' = w.alloc (.cells #[.pointer v] 65) := by
  go_enter Try.func26, Try.ntmps26
  go_wp2
  go_ret
  exact ⟨rfl, rfl⟩
set_option maxRecDepth 100000 in
set_option maxHeartbeats 2000000 in
theorem allW1_in (n : Nat) (hn : 1 ≤ n) (lp Bq Q : Nat) (l : List It) (J Jx : List (Im l) → World → Prop) (hv : ∀ x ∈ l, ∃ B, x.v = pv B)
    (hY : ∀ pre x W, J pre W → (pre ++ [x]).map (·.1) <+: l → YieldAt Fence.wide (n - 1) Try.prog lp (encI x) W fun e W' =>
      (e = .returned (.bool true) ∧ J (pre ++ [x]) W' ∧ KpQ Bq Q l W W') ∨ (e = .returned (.bool false) ∧ Jx (pre ++ [x]) W'))
    (W : World) (t0 : Boxed W Bq 65 (pv Q)) (hq : QAW W Q l) (h0 : J [] W) :
    CallsIn Fence.wide n Try.prog 47 #[.func (.yield lp) #[] #[], .pointer (some ⟨Bq, 0, none⟩)] W fun e W' => (∃ v, e = .returned v) ∧
      ((∃ zs, zs.map (·.1) = l ∧ J zs W') ∨ (∃ pre, pre.map (·.1) <+: l ∧ Jx pre W')) := by
  have h1 : Fence.wide.fn 47 := trivial
  have hro : Fence.wide.round = none := rfl
  have c0 := t0.cell
  have c1 : W.cell? ⟨Q, 0, none⟩ = some (hdV np l) := by simp [World.cell?, hq.blk]
  obtain ⟨fv, hfv⟩ : ∃ fv, hdV np l = fv := ⟨_, rfl⟩
  rw [hfv] at c1
  have HFV := Lib.hid hfv
  have HQ := Lib.hid hq
  have HT := Lib.hid t0
  clear hq t0 hfv
  refine callsIn_of_wp Try.func47 rfl h1 ?_ hro
  simp only [Try.ntmps47, List.size_toArray, List.length_cons, List.length_nil, Nat.reduceAdd, Nat.reduceSub, Array.replicate_succ, Array.replicate_zero, List.push_toArray, List.append_toArray, List.nil_append, List.cons_append]
  gi_wp2_with fail
  gi_loopw [3] (fun x wr => ∃ (pre : List (Im l)) (rest : List It), x = hdV np rest ∧ l = pre.map (·.1) ++ rest ∧ J pre wr ∧ KpQ Bq Q l W wr) (fun x _ => rem l x)
  case atStart => exact ⟨[], l, HFV.out.symm, rfl, h0, fun _ _ => rfl⟩
  case round =>
    obtain ⟨pre, rest, rfl, hl, hJs, hK⟩ := hrel
    obtain ⟨a, ha⟩ : ∃ a, pre.map (·.1) = a := ⟨_, rfl⟩
    rw [ha] at hl
    have HPA := Lib.hid ha
    clear ha
    have hqr : QAW wr Q l := HQ.out.same (fun k hk => hK k (.inr hk))
    cases rest with
    | nil =>
      have HL := Lib.hid hl
      clear hl
      simp only [hdV]
      gi_wp2
      go_end0
      exact ⟨⟨_, rfl⟩, .inl ⟨pre, by rw [HPA.out]; have := HL.out; rw [List.append_nil] at this; exact this.symm, hJs⟩⟩
    | cons x rest =>
      have hqs : QAW wr Q (a ++ x :: rest) := hl ▸ hqr
      have hxb := hqs.item
      have hxl : x ∈ l := by rw [hl]; simp
      have d0 : wr.cell? ⟨x.I, 0, none⟩ = some x.v := by simp [World.cell?, hxb]
      have hpl : (pre ++ [(⟨x, hxl⟩ : Im l)]).map (·.1) <+: l := ⟨rest, by rw [List.map_append, HPA.out, List.append_assoc]; exact hl.symm⟩
      obtain ⟨fn, tmps, assign, body, hy0, hR⟩ := hY pre ⟨x, hxl⟩ wr hJs hpl
      dsimp only [encI] at hy0
      obtain ⟨xB, hxv⟩ := hv x hxl
      rw [hxv] at hy0 d0
      have HL := Lib.hid hl
      have HK := Lib.hid hK
      have HQR := Lib.hid hqr
      obtain ⟨xb, hxbe⟩ : ∃ xb, x.I = xb := ⟨_, rfl⟩
      have hrm1 := rem_at l a x rest hl HQR.out.nd
      have hrm2 := rem_next l a x rest hl HQR.out.nd
      have HR1 := Lib.hid hrm1
      have HR2 := Lib.hid hrm2
      have HXB := Lib.hid hxbe
      rw [hxbe] at d0
      simp only [hdV, hxbe]
      clear hl hK hqr hqs hxb hrm1 hrm2 hxbe hJs
      gi_wp2
      refine hR.mono ?_
      rintro e W3 (⟨rfl, hJ3, hK3⟩ | ⟨rfl, hJx3⟩)
      · have hqn : QAW W3 Q l := HQR.out.same (fun k hk => hK3 k (.inr hk))
        have hqt : QAW W3 Q (a ++ x :: rest) := HL.out ▸ hqn
        have e2 : W3.cell? ⟨xb, 2, none⟩ = some (hdV np rest) := by rw [← HXB.out]; simp [World.cell?, hqt.item]
        have HJ3 := Lib.hid hJ3
        have HK3 := Lib.hid hK3
        obtain ⟨nx, hnx⟩ : ∃ nx, hdV np rest = nx := ⟨_, rfl⟩
        rw [hnx] at e2
        have HN := Lib.hid hnx
        clear hJ3 hK3 hR hqn hqt hnx
        gi_wp2
        go_roundw
        case rel => exact ⟨pre ++ [⟨x, hxl⟩], rest, HN.out.symm, by rw [List.map_append, HPA.out, List.append_assoc]; exact HL.out, HJ3.out, fun k hk => (HK3.out k hk).trans (HK.out k hk)⟩
        case measure =>
          have h1 := HR1.out
          have h2 := HR2.out
          rw [HN.out] at h2
          rw [show hdV np (x :: rest) = pv xb from by rw [← HXB.out]; rfl] at h1
          show rem l nx < rem l (pv xb)
          omega
      · gi_wp2
        refine bodyPost_ret (results_none rfl _ _ _) rfl ?_
        refine ⟨⟨_, rfl⟩, .inr ⟨_, ⟨rest, ?_⟩, hJx3⟩⟩
        rw [List.map_append, HPA.out, List.append_assoc]; exact HL.out.symm
theorem allW_stops (n : Nat) (hn : 1 ≤ n) (Bq Q : Nat) (l : List It) (w : World) (hv : ∀ x ∈ l, ∃ B, x.v = pv B) (t0 : Boxed w Bq 65 (pv Q)) (hq : QAW w Q l) :
    SeqStopsK Fence.wide n Try.prog 47 #[.pointer (some ⟨Bq, 0, none⟩)] (encI (l := l)) (KpQ Bq Q l) (fun zs => zs.map (·.1) = l) (fun pre => pre.map (·.1) <+: l) l.length w := fun lp J Jx W hW _ _ hY h0 =>
  allW1_in n hn lp Bq Q l J Jx hv (fun pre x W hJ hp => hY pre x W hJ (by have := hp.length_le; simp at this; omega)) W ((hW.block Bq t0.lt).trans t0) (hq.same (fun k hk => hW.block k (hq.lt hk))) h0
theorem allW1_nil (n lp Bq : Nat) (J Jx : List (Im []) → World → Prop) (W : World) (t0 : Boxed W Bq 65 np) (h0 : J [] W) :
    CallsIn Fence.wide n Try.prog 47 #[.func (.yield lp) #[] #[], .pointer (some ⟨Bq, 0, none⟩)] W fun e W' => (∃ v, e = .returned v) ∧
      ((∃ zs, zs.map (·.1) = [] ∧ J zs W') ∨ (∃ pre, pre.map (·.1) <+: [] ∧ Jx pre W')) := by
  have h1 : Fence.wide.fn 47 := trivial
  have hro : Fence.wide.round = none := rfl
  have c0 := t0.cell
  refine callsIn_of_wp Try.func47 rfl h1 ?_ hro
  simp only [Try.ntmps47, List.size_toArray, List.length_cons, List.length_nil, Nat.reduceAdd, Nat.reduceSub, Array.replicate_succ, Array.replicate_zero, List.push_toArray, List.append_toArray, List.nil_append, List.cons_append]
  gi_wp2_with fail
  refine bodyPost_ret (results_none rfl _ _ _) rfl ?_
  exact ⟨⟨_, rfl⟩, .inl ⟨[], rfl, h0⟩⟩
theorem allW_stops_nil (n Bq : Nat) (w : World) (t0 : Boxed w Bq 65 np) :
    SeqStopsK Fence.wide n Try.prog 47 #[.pointer (some ⟨Bq, 0, none⟩)] (encI (l := [])) (fun _ _ => True) (fun zs => zs.map (·.1) = []) (fun pre => pre.map (·.1) <+: []) 0 w := fun lp J Jx W hW _ _ _ h0 =>
  allW1_nil n lp Bq J Jx W ((hW.block Bq t0.lt).trans t0) h0
end Go.Proofs.Ythknnmllibdggaa

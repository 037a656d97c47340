/- The iterator of package pages: what pieces tells, for every span. -/
import Derived.Test.YtblhikmhmnkclaaBase
import Derived.RangeFuncNested
import Derived.RangeFuncBound
import Derived.RangeFuncCalls
import Derived.RangeFuncLeaves
import Derived.RangeFuncBox
import Derived.RangeFuncWrites
import Derived.OwnWalkIn
import Derived.TacticsInMore
import Derived.LoopNIn
import Derived.LoopIn
import Derived.Outline
import Derived.BigRegionIn
namespace Go.Proofs.Ytblhikmhmnkclaa
open Go.RowKit
attribute [local go_sem] Oper.semAt_some
/-- Where the piece that begins at x ends, of a span up to e. -/
def nx (e x : Nat) : Nat := min e (x - x % 64 + 64)
theorem nx_lt {e x : Nat} (h : x < e) : x < nx e x := by unfold nx; omega
theorem nx_le (e x : Nat) : nx e x ≤ e := by unfold nx; omega
/-- Where the pieces from f on up to e begin. -/
def chn : Nat → Nat → Nat → List Nat
  | 0, _, _ => []
  | k + 1, e, f => if f < e then f :: chn k e (nx e f) else []
def allPc (a e : Nat) : List Nat := chn (e - a) e a
theorem chn_step {k e f : Nat} (h : f < e) (hk : e - f ≤ k) : ∃ k', k = k' + 1 ∧ e - nx e f ≤ k' ∧ chn k e f = f :: chn k' e (nx e f) := by
  have := nx_lt h
  obtain ⟨k', rfl⟩ : ∃ k', k = k' + 1 := ⟨k - 1, by omega⟩
  exact ⟨k', rfl, by omega, by rw [chn, if_pos h]⟩
theorem chn_done {k e f : Nat} (h : ¬ f < e) : chn k e f = [] := by cases k <;> simp [chn, h]
theorem chn_len : ∀ (k e f : Nat), (chn k e f).length ≤ k
  | 0, _, _ => by simp [chn]
  | k + 1, e, f => by
    unfold chn; split
    · have := chn_len k e (nx e f); simp only [List.length_cons]; omega
    · simp
/-- The begin of a piece, within a span up to e. -/
abbrev Pc (e : Nat) := { x : Nat // x < e }
def pcV (e x : Nat) : Value := .agg #[.int .i64 (x / 64 : Nat), .int .i64 (x % 64 : Nat), .int .i64 (x % 64 + nx e x - x : Nat)]
def encP {e : Nat} (x : Pc e) : Array Value := #[pcV e x.1]
theorem pieces_any (a n : Int) (w : World) : Calls Try.prog 20 #[.int .i64 a, .int .i64 n] w fun e w' => e = .returned (.func (.func 35) #[] #[.pointer (some ⟨w.heap.size, 0, none⟩), .pointer (some ⟨w.heap.size + 1, 0, none⟩)]) ∧ w' = (w.alloc (.cells #[.int .i64 a] 3)).alloc (.cells #[.int .i64 n] 3) := by
  go_enter Try.func20, Try.ntmps20
  go_wp2
  go_ret
  exact ⟨rfl, rfl⟩
theorem abides_below {β : Type} {B : Nat} {J : β → World → Prop} (h : AbidesFrom B J) {s : β} {W W' : World} (hs : J s W) (hb : Below W.heap.size W W') : J s W' :=
  h s W W' none hs ⟨hb.os, hb.tape, hb.output, hb.size, fun k hk _ => hb.block k hk⟩ (fun r e => by cases e)
set_option maxRecDepth 100000 in
set_option maxHeartbeats 2000000 in
theorem pieces1_in (n : Nat) (hn : 1 ≤ n) (l Ba Bn B0 : Nat) (a m : Nat) (ham : a + m ≤ 4096) (J Jx : List (Pc (a + m)) → World → Prop) (hJ : AbidesFrom B0 J)
    (hY : ∀ pre x W, J pre W → pre.length < 4097 → YieldAt Fence.wide (n - 1) Try.prog l (encP x) W fun e W' =>
      (e = .returned (.bool true) ∧ J (pre ++ [x]) W') ∨ (e = .returned (.bool false) ∧ Jx (pre ++ [x]) W'))
    (W : World) (t0 : W.cell? ⟨Ba, 0, none⟩ = some (.int .i64 a)) (t1 : W.cell? ⟨Bn, 0, none⟩ = some (.int .i64 m)) (h0 : J [] W) :
    CallsIn Fence.wide n Try.prog 35 #[.func (.yield l) #[] #[], .pointer (some ⟨Ba, 0, none⟩), .pointer (some ⟨Bn, 0, none⟩)] W fun e W' => (∃ v, e = .returned v) ∧
      ((∃ zs, zs.map (·.1) = allPc a (a + m) ∧ J zs W') ∨ (∃ pre, pre.map (·.1) <+: allPc a (a + m) ∧ Jx pre W')) := by
  have h1 : Fence.wide.fn 35 := trivial
  have hro : Fence.wide.round = none := rfl
  refine callsIn_of_wp Try.func35 rfl h1 ?_ hro
  simp only [Try.ntmps35, List.size_toArray, List.length_cons, List.length_nil, Nat.reduceAdd, Nat.reduceSub, Array.replicate_succ, Array.replicate_zero, List.push_toArray, List.append_toArray, List.nil_append, List.cons_append]
  gi_wp2_with fail
  gi_region
  gi_wp2_with fail
  gi_loopw [4] (fun x wr => ∃ (pre : List (Pc (a + m))) (k cur : Nat), x = .int .i64 cur ∧ (allPc a (a + m) = pre.map (·.1) ++ chn k (a + m) cur ∧ a + m - cur ≤ k ∧ cur ≤ a + m ∧ pre.length ≤ cur) ∧ J pre wr) (fun x _ => (a + m - intOf x).toNat)
  case atStart => exact ⟨[], m, a, rfl, ⟨by unfold allPc; simp, by omega, by omega, by simp⟩, abides_below hJ h0 ⟨rfl, rfl, rfl, Nat.le_refl _, fun _ _ => rfl⟩⟩
  case round =>
    obtain ⟨pre, k, cur, rfl, ⟨hA, hk, hce, hpl⟩, hJs⟩ := hrel
    by_cases hlt : cur < a + m
    · obtain ⟨k', rfl, hk', hch⟩ := chn_step hlt hk
      have hnl := nx_lt hlt
      have hne := nx_le (a + m) cur
      have HA : Hid (allPc a (a + m) = (pre ++ [(⟨cur, hlt⟩ : Pc (a + m))]).map (·.1) ++ chn k' (a + m) (nx (a + m) cur)) := by simp only [Hid]; rw [hA, hch]; simp
      clear hA hch
      have hci : (cur : Int) < (a : Int) + m := by omega
      by_cases hmin : (a : Int) + m ≤ (cur : Int) - cur % 64 + 64
      · have hnx : nx (a + m) cur = a + m := by unfold nx; omega
        have hpv : pcV (a + m) cur = .agg #[.int .i64 ((cur : Int) / 64), .int .i64 ((cur : Int) % 64), .int .i64 ((cur : Int) % 64 + ((a : Int) + m) - cur)] := by
          unfold pcV; rw [hnx, show ((cur % 64 + (a + m) - cur : Nat) : Int) = (cur : Int) % 64 + ((a : Int) + m) - cur from by omega]; rfl
        obtain ⟨fn, tmps, assign, body, hy0, hR⟩ := hY pre ⟨cur, hlt⟩ (wr.alloc (.cells #[.int .i64 ((cur : Int) / 64), .int .i64 ((cur : Int) % 64), .int .i64 ((cur : Int) % 64 + ((a : Int) + m) - cur)] 72)) (abides_below hJ hJs ((Below.refl _ _).alloc (Nat.le_refl _) _)) (by omega)
        dsimp only [encP] at hy0
        rw [hpv] at hy0
        rw [hnx] at HA
        clear hpv
        gi_wp2
        refine hR.mono ?_
        rintro e W3 (⟨rfl, hJ3⟩ | ⟨rfl, hJx3⟩)
        · have HJ3 := Lib.hid hJ3
          clear hJ3 hR
          gi_wp2
          go_roundw
          case rel => exact ⟨pre ++ [⟨cur, hlt⟩], k', a + m, by simp, ⟨HA.out, by omega, by omega, by simp; omega⟩, HJ3.out⟩
          case measure => simp [intOf]; omega
        · gi_wp2
          refine bodyPost_ret (results_none rfl _ _ _) rfl ?_
          exact ⟨⟨_, rfl⟩, .inr ⟨_, ⟨_, HA.out.symm⟩, hJx3⟩⟩
      · have hnx : nx (a + m) cur = cur - cur % 64 + 64 := by unfold nx; omega
        have hpv : pcV (a + m) cur = .agg #[.int .i64 ((cur : Int) / 64), .int .i64 ((cur : Int) % 64), .int .i64 ((cur : Int) % 64 + ((cur : Int) - (cur : Int) % 64 + 64) - cur)] := by
          unfold pcV; rw [hnx, show ((cur % 64 + (cur - cur % 64 + 64) - cur : Nat) : Int) = (cur : Int) % 64 + ((cur : Int) - (cur : Int) % 64 + 64) - cur from by omega]; rfl
        obtain ⟨fn, tmps, assign, body, hy0, hR⟩ := hY pre ⟨cur, hlt⟩ (wr.alloc (.cells #[.int .i64 ((cur : Int) / 64), .int .i64 ((cur : Int) % 64), .int .i64 ((cur : Int) % 64 + ((cur : Int) - (cur : Int) % 64 + 64) - cur)] 72)) (abides_below hJ hJs ((Below.refl _ _).alloc (Nat.le_refl _) _)) (by omega)
        dsimp only [encP] at hy0
        rw [hpv] at hy0
        rw [hnx] at HA
        clear hpv
        gi_wp2
        refine hR.mono ?_
        rintro e W3 (⟨rfl, hJ3⟩ | ⟨rfl, hJx3⟩)
        · have HJ3 := Lib.hid hJ3
          clear hJ3 hR
          gi_wp2
          go_roundw
          case rel => exact ⟨pre ++ [⟨cur, hlt⟩], k', cur - cur % 64 + 64, by congr 1; omega, ⟨HA.out, by omega, by omega, by simp; omega⟩, HJ3.out⟩
          case measure => simp [intOf]; omega
        · gi_wp2
          refine bodyPost_ret (results_none rfl _ _ _) rfl ?_
          exact ⟨⟨_, rfl⟩, .inr ⟨_, ⟨_, HA.out.symm⟩, hJx3⟩⟩
    · have hci : ¬ (cur : Int) < (a : Int) + m := by omega
      rw [chn_done hlt, List.append_nil] at hA
      have HA := Lib.hid hA
      clear hA
      gi_wp2
      go_end0
      exact ⟨⟨_, rfl⟩, .inl ⟨_, HA.out.symm, hJs⟩⟩
theorem pieces_stops (n : Nat) (hn : 1 ≤ n) (Ba Bn a m : Nat) (w : World) (ham : a + m ≤ 4096) (t0 : w.cell? ⟨Ba, 0, none⟩ = some (.int .i64 a)) (t1 : w.cell? ⟨Bn, 0, none⟩ = some (.int .i64 m)) (hBa : Ba < w.heap.size) (hBn : Bn < w.heap.size) :
    SeqStopsK Fence.wide n Try.prog 35 #[.pointer (some ⟨Ba, 0, none⟩), .pointer (some ⟨Bn, 0, none⟩)] (encP (e := a + m)) (fun _ _ => True) (fun zs => zs.map (·.1) = allPc a (a + m)) (fun pre => pre.map (·.1) <+: allPc a (a + m)) 4097 w := fun l J Jx W hW hJ _ hY h0 =>
  pieces1_in n hn l Ba Bn W.heap.size a m ham J Jx hJ (fun pre x W h h' => (hY pre x W h h').mono (fun _ _ h => h.imp (fun h => ⟨h.1, h.2.1⟩) id)) W ((hW.cell (p := ⟨Ba, 0, none⟩) hBa).trans t0) ((hW.cell (p := ⟨Bn, 0, none⟩) hBn).trans t1) h0
end Go.Proofs.Ytblhikmhmnkclaa

/- The iterator of package isa: what lines tells, for every text. -/
import Derived.Test.YtgldkmabhmlijaaDoorWord
import Derived.RangeFuncNested
import Derived.RangeFuncBound
import Derived.RangeFuncCalls
import Derived.RangeFuncLeaves
import Derived.Shelf.Abstract
import Derived.Shelf.RegionOpen
import Derived.OwnWalkIn
import Derived.TacticsInMore
import Derived.LoopNIn
import Derived.LoopIn
namespace Go.Proofs.YtgldkmabhmlijaaDoor
open Go.RowKit Go.Sort Go.Shelf
attribute [local go_sem] Oper.semAt_some
def cutN (l : List UInt8) : List UInt8 × List UInt8 × Bool := Lib.cut l [10]
/-- The lines of a text, numbered. -/
def lnE : Nat → Int → List UInt8 → List (Int × ByteArray)
  | 0, _, _ => []
  | f + 1, n, l => (n, ⟨(cutN l).1.toArray⟩) :: (if (cutN l).2.2 = true then lnE f (n + 1) (cutN l).2.1 else [])
def allLn (s : ByteArray) : List (Int × ByteArray) := lnE (s.size + 1) 1 s.data.toList
theorem cutN_lt (l : List UInt8) (h : (cutN l).2.2 = true) : (cutN l).2.1.length < l.length := by
  unfold cutN Lib.cut at *
  by_cases h0 : 0 ≤ Lib.index l [10]
  · rw [if_pos h0]
    have := Lib.index_room l [10] h0
    simp only [List.length_drop, List.length_cons, List.length_nil] at *
    omega
  · rw [if_neg h0] at h; cases h
theorem lnE_len : ∀ (f : Nat) (n : Int) (l : List UInt8), (lnE f n l).length ≤ f
  | 0, _, _ => by simp [lnE]
  | f + 1, n, l => by
    unfold lnE
    split
    · have := lnE_len f (n + 1) (cutN l).2.1; simp only [List.length_cons]; omega
    · simp
/-- A numbered line, of a size that can be. -/
abbrev Ln := { x : Int × ByteArray // x.2.size < 1000000 }
def encL (x : Ln) : Array Value := #[.int .i64 x.1.1, .string x.1.2]
theorem cutN_le (l : List UInt8) : (cutN l).1.length ≤ l.length := by
  unfold cutN Lib.cut; split <;> simp <;> omega
theorem lines_any (s : ByteArray) (w : World) : Calls Tryd.prog 17 #[.string s] w fun e w' => e = .returned (.func (.func 31) #[] #[.pointer (some ⟨w.heap.size, 0, none⟩)]) ∧ w' = w.alloc (.cells #[.string s] 9) := by
  go_enter Tryd.func17, Tryd.ntmps17
  go_wp2
  go_ret
  exact ⟨rfl, rfl⟩
theorem abides_below {β : Type} {B : Nat} {J : β → World → Prop} (h : AbidesFrom B J) {s : β} {W W' : World} (hs : J s W) (hb : Below W.heap.size W W') : J s W' :=
  h s W W' none hs ⟨hb.os, hb.tape, hb.output, hb.size, fun k hk _ => hb.block k hk⟩ (fun r e => by cases e)
theorem bdn' {B : Nat} {w w' : World} (h : Below B w w') (n : Nat) : Below B w (w'.drewN n) := ⟨h.os, h.tape, h.output, h.size, h.block⟩
set_option maxRecDepth 100000 in
set_option maxHeartbeats 2000000 in
theorem lines1_in (n : Nat) (hn : 1 ≤ n) (l Bt n₀ B0 : Nat) (s : ByteArray) (J Jx : List Ln → World → Prop) (hJ : AbidesFrom B0 J) (hs : s.size < 1000000)
    (hY : ∀ pre x W, J pre W → pre.length < s.size + 1 → YieldAt Fence.wide (n - 1) Tryd.prog l (encL x) W fun e W' =>
      (e = .returned (.bool true) ∧ J (pre ++ [x]) W' ∧ Below n₀ W W') ∨ (e = .returned (.bool false) ∧ Jx (pre ++ [x]) W'))
    (W : World) (hE : Env W) (hG : 9 ≤ n₀) (hn₀ : n₀ ≤ W.heap.size) (t0 : W.cell? ⟨Bt, 0, none⟩ = some (.string s)) (h0 : J [] W) :
    CallsIn Fence.wide n Tryd.prog 31 #[.func (.yield l) #[] #[], .pointer (some ⟨Bt, 0, none⟩)] W fun e W' => (∃ v, e = .returned v) ∧
      ((∃ zs, zs.map (·.1) = allLn s ∧ J zs W') ∨ (∃ pre, pre.map (·.1) <+: allLn s ∧ Jx pre W')) := by
  have h1 : Fence.wide.fn 31 := trivial
  have h2 : Fence.wide.fn 32 := trivial
  have hro : Fence.wide.round = none := rfl
  obtain ⟨m, hm⟩ := hE.ml
  have hC := Tryd.strings_Cut s ⟨#[10]⟩ m W (by omega) hm
  have hC' : Calls Tryd.prog 32 #[.string s, .string ⟨#[10]⟩] W fun e w' => e = .returned (.tuple #[.string ⟨(cutN s.data.toList).1.toArray⟩, .string ⟨(cutN s.data.toList).2.1.toArray⟩, .bool (cutN s.data.toList).2.2]) ∧ ∃ n, w' = W.drewN n := hC
  clear hC
  refine callsIn_of_wp Tryd.func31 rfl h1 ?_ hro
  simp only [Tryd.ntmps31, List.size_toArray, List.length_cons, List.length_nil, Nat.reduceAdd, Nat.reduceSub, Array.replicate_succ, Array.replicate_zero, List.push_toArray, List.append_toArray, List.nil_append, List.cons_append]
  gi_wp2_with (gi_at_call 32; refine (callsIn_wide.2 hC').mono ?_; rintro e w1 ⟨rfl, k1, hk1⟩; have hb1 : RowKit.Below W.heap.size W w1 := (by rw [hk1]; exact bdn' (Below.refl _ _) k1); clear hk1; refine Hid.out ?_)
  refine Lib.hid ?_
  gi_wp2_with fail
  gi_loopw [3, 4, 5, 6] (fun a b c d wr => ∃ (pre : List Ln) (f : Nat) (cur : List UInt8) (k : Int), a = .string ⟨(cutN cur).1.toArray⟩ ∧ b = .string ⟨(cutN cur).2.1.toArray⟩ ∧ c = .bool (cutN cur).2.2 ∧ d = .int .i64 k ∧ (allLn s = pre.map (·.1) ++ lnE (f + 1) k cur ∧ pre.length + cur.length ≤ s.size ∧ cur.length ≤ f ∧ k = pre.length + 1) ∧ J pre wr ∧ RowKit.Below n₀ W wr) (fun _ b c _ _ => match b, c with | .string q, .bool true => q.size + 1 | _, _ => 0)
  case atStart => exact ⟨[], s.size, s.data.toList, 1, rfl, rfl, rfl, rfl, ⟨rfl, by simp, by simp, rfl⟩, abides_below hJ h0 hb1, hb1.mono hn₀⟩
  case round =>
    obtain ⟨pre, f, cur, k, rfl, rfl, rfl, rfl, hA, hJs, hB⟩ := hrel
    have HA := Lib.hid hA
    clear hA
    have hsz1 : (⟨(cutN cur).1.toArray⟩ : ByteArray).size < 1000000 := by
      show (cutN cur).1.length < 1000000
      have := cutN_le cur
      have := HA.out
      omega
    obtain ⟨fn, tmps, assign, body, hy0, hR⟩ := hY pre ⟨(k, ⟨(cutN cur).1.toArray⟩), hsz1⟩ wr hJs (by have := HA.out; omega)
    dsimp only [encL] at hy0
    have hkl : k + 1 ≤ 9223372036854775807 ∧ 0 ≤ k := by have := HA.out; omega
    obtain ⟨hkl1, hkl0⟩ := hkl
    by_cases hmore : (cutN cur).2.2 = true
    · have hlt := cutN_lt cur hmore
      have HN : Hid (allLn s = (pre ++ [(⟨(k, ⟨(cutN cur).1.toArray⟩), hsz1⟩ : Ln)]).map (·.1) ++ lnE f (k + 1) (cutN cur).2.1) := by
        simp only [Hid]; rw [HA.out.1, lnE, if_pos hmore]; simp
      have hf1 : 1 ≤ f := by have := HA.out; omega
      rw [hmore]
      gi_wp2
      refine hR.mono ?_
      rintro e W3 (⟨rfl, hJ3, hk3⟩ | ⟨rfl, hJx3⟩)
      · have hB3 : RowKit.Below n₀ W W3 := hB.trans hk3
        have hE3 := hE.keep hB3 hG
        obtain ⟨m3, hm3⟩ := hE3.ml
        have hC3 := Tryd.strings_Cut ⟨(cutN cur).2.1.toArray⟩ ⟨#[10]⟩ m3 W3 (by show (cutN cur).2.1.length < 4294967281; have := HA.out; omega) hm3
        have hC3' : Calls Tryd.prog 32 #[.string ⟨(cutN cur).2.1.toArray⟩, .string ⟨#[10]⟩] W3 fun e w' => e = .returned (.tuple #[.string ⟨(cutN (cutN cur).2.1).1.toArray⟩, .string ⟨(cutN (cutN cur).2.1).2.1.toArray⟩, .bool (cutN (cutN cur).2.1).2.2]) ∧ ∃ n, w' = W3.drewN n := hC3
        clear hC3
        have HJ3 := Lib.hid hJ3
        clear hJ3 hR
        gi_wp2_with (gi_at_call 32; refine (callsIn_wide.2 hC3').mono ?_; rintro e w4 ⟨rfl, k4, hk4⟩; have hb4 : RowKit.Below W3.heap.size W3 w4 := (by rw [hk4]; exact bdn' (Below.refl _ _) k4); clear hk4)
        go_roundw
        case rel =>
          refine ⟨pre ++ [⟨(k, ⟨(cutN cur).1.toArray⟩), hsz1⟩], f - 1, (cutN cur).2.1, k + 1, rfl, rfl, rfl, by go_num, ⟨?_, ?_, ?_, ?_⟩, abides_below hJ HJ3.out hb4, hB3.trans (hb4.mono (Nat.le_trans hn₀ hB3.size))⟩
          · rw [HN.out, show f - 1 + 1 = f from by omega]
          · have := HA.out; simp; omega
          · have := HA.out; omega
          · have := HA.out; simp; omega
        case measure =>
          rcases hmm : (cutN (cutN cur).2.1).2.2 with _ | _
          · simp
          · have := cutN_lt _ hmm
            show (cutN (cutN cur).2.1).2.1.length + 1 < (cutN cur).2.1.length + 1
            omega
      · gi_wp2
        go_end0
        refine ⟨⟨_, rfl⟩, .inr ⟨_, ?_, hJx3⟩⟩
        exact ⟨lnE f (k + 1) (cutN cur).2.1, HN.out.symm⟩
    · have hmf : (cutN cur).2.2 = false := by simpa using hmore
      have HN : Hid (allLn s = (pre ++ [(⟨(k, ⟨(cutN cur).1.toArray⟩), hsz1⟩ : Ln)]).map (·.1)) := by
        simp only [Hid]; rw [HA.out.1, lnE, if_neg hmore]; simp
      rw [hmf]
      gi_wp2
      refine hR.mono ?_
      rintro e W3 (⟨rfl, hJ3, hk3⟩ | ⟨rfl, hJx3⟩)
      · have HJ3 := Lib.hid hJ3
        clear hJ3 hR
        gi_wp2
        go_end0
        exact ⟨⟨_, rfl⟩, .inl ⟨_, HN.out.symm, HJ3.out⟩⟩
      · gi_wp2
        go_end0
        exact ⟨⟨_, rfl⟩, .inr ⟨_, by rw [HN.out]; exact List.prefix_refl _, hJx3⟩⟩
theorem lines_stops (n : Nat) (hn : 1 ≤ n) (Bt n₀ : Nat) (s : ByteArray) (w : World) (hs : s.size < 1000000) (hE : Env w) (hG : 9 ≤ n₀) (hn₀ : n₀ ≤ w.heap.size) (t0 : w.cell? ⟨Bt, 0, none⟩ = some (.string s)) (hBt : Bt < w.heap.size) :
    SeqStopsK Fence.wide n Tryd.prog 31 #[.pointer (some ⟨Bt, 0, none⟩)] encL (Below n₀) (fun zs => zs.map (·.1) = allLn s) (fun pre => pre.map (·.1) <+: allLn s) (s.size + 1) w := fun l J Jx W hW hJ _ hY h0 =>
  lines1_in n hn l Bt n₀ W.heap.size s J Jx hJ hs hY W (hE.below hW) hG (Nat.le_trans hn₀ hW.size) ((hW.cell (p := ⟨Bt, 0, none⟩) hBt).trans t0) h0
end Go.Proofs.YtgldkmabhmlijaaDoor

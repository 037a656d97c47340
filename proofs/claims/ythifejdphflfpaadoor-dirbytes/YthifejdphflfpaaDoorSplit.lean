/- What Split of package dir answers. -/
import Derived.Test.YthifejdphflfpaaDoorFollow
namespace Go.Proofs.YthifejdphflfpaaDoor
open Go.RowKit Go.Sort
/-- The names behind parts, or what is wrong. -/
def splE : List ByteArray → List ByteArray → Int × List ByteArray
  | ns, [] => if 16 < ns.length then (32, []) else (0, ns)
  | ns, p :: ps => if chkE p = 0 then splE (fol ns p) ps else (chkE p, [])
def partsOf (s : ByteArray) : List ByteArray := Lib.splitB ⟨#[47]⟩ 0 (Lib.countB s ⟨#[47]⟩) s
theorem fol_len (ns : List ByteArray) (p : ByteArray) : (fol ns p).length ≤ ns.length + 1 := by
  unfold fol
  split
  · omega
  · split
    · simp; omega
    · simp
set_option maxRecDepth 100000 in
set_option maxHeartbeats 2000000 in
theorem Split_any (s : ByteArray) (m : Int) (w : World) (hs : s.size ≤ 256) (hm : w.cell? ⟨0, 0, none⟩ = some (.int .i64 m)) (hln : (partsOf s).length = Lib.countB s ⟨#[47]⟩ + 1) (hl9 : (partsOf s).length ≤ 1000) :
    Calls Tryd.prog 23 #[.string s] w fun e w' => ∃ v, e = .returned (.tuple #[v, .int .i64 (splE [] (partsOf s)).1]) ∧ w'.ownsRow w.heap.size 9 1 v (splE [] (partsOf s)).2.length (svs (splE [] (partsOf s)).2) ∧ Below w.heap.size w w' := by
  have h1 : ¬ (256 : Int) < (s.size : Int) := by omega
  have HS := Lib.hid (Tryd.strings_Split s ⟨#[47]⟩ m w (by omega) hm (by decide))
  rw [← hln] at HS
  have hps : Lib.splitB ⟨#[47]⟩ 0 (Lib.countB s ⟨#[47]⟩) s = partsOf s := rfl
  rw [hps] at HS
  clear hps hln hm
  generalize partsOf s = ps at *
  obtain ⟨W, hW⟩ : ∃ W, w.alloc (.cells (ps.map Value.string).toArray 9) = W := ⟨_, rfl⟩
  have HW : Hid (Below w.heap.size w W ∧ W.heap.size = w.heap.size + 1 ∧ ∀ (j : Nat) (h : j < ps.length), W.cell? ⟨w.heap.size, j, none⟩ = some (.string ps[j])) := by
    rw [← hW]
    refine ⟨(Below.refl _ _).alloc (Nat.le_refl _) _, by simp, fun j h => ?_⟩
    simp only [World.cell?, heap_new]
    simp [h]
  rw [hW] at HS
  clear hW
  go_enter Tryd.func23, Tryd.ntmps23
  go_wp2_with (go_at_call 37; refine HS.out.mono ?_; rintro e w1 ⟨rfl, hw1⟩; rw [hw1]; clear hw1 w1)
  go_loopw [4, 14] (fun v i wr => ∃ (k : Nat) (ns : List ByteArray), k ≤ ps.length ∧ i = .int .i64 k ∧ ns.length ≤ k ∧ splE [] ps = splE ns (ps.drop k) ∧ wr.ownsRow (w.heap.size + 1) 9 1 v ns.length (svs ns) ∧ Below (w.heap.size + 1) W wr) (fun _ i _ => ps.length - (intOf i).toNat)
  case atStart => exact ⟨0, [], Nat.zero_le _, rfl, Nat.zero_le _, rfl, World.ownsRow_nil _ _ _ _, Below.refl _ _⟩
  case round =>
    obtain ⟨k, ns, hk, rfl, hnk, hr, ho, hb⟩ := hrel
    have HR := Lib.hid hr
    have HB := Lib.hid (HW.out.1.trans (hb.mono (Nat.le_succ _)))
    have hbs : w.heap.size + 1 ≤ wr.heap.size := by have := hb.size; rw [HW.out.2.1] at this; exact this
    have HB1 := Lib.hid hb
    clear hr
    by_cases hlt : k < ps.length
    · have c0 := (hb.cell (p := ⟨w.heap.size, k, none⟩) (Nat.lt_succ_self _)).trans (HW.out.2.2 k hlt)
      have hki : (k : Int) < (ps.length : Int) := by omega
      have hbw : w.heap.size < wr.heap.size := by omega
      have HD : Hid (ps.drop k = ps[k] :: ps.drop (k + 1)) := List.drop_eq_getElem_cons hlt
      obtain ⟨q, hq⟩ : ∃ q, ps[k] = q := ⟨_, rfl⟩
      rw [hq] at c0 HD
      have HC := Lib.hid (checkPart_any q)
      have HF := Lib.hid (follow_any (w.heap.size + 1) _ ns q wr (by omega) hbs ho)
      clear hb hq ho HS
      by_cases hc : chkE q = 0
      · rw [hc] at HC
        have HCC := Lib.hid hc
        clear hc
        go_wp2_with (first
          | (go_at_call 38; refine (HC.out _).mono ?_; rintro e w1 ⟨rfl, hw1⟩; rw [hw1]; clear hw1 w1)
          | (go_at_call 39; refine HF.out.mono ?_; rintro e w2 ⟨v2, rfl, ho2, hb2⟩; have HO2 := Lib.hid ho2; have HB2 := Lib.hid hb2; clear ho2 hb2))
        go_roundw
        case rel =>
          have := fol_len ns q
          exact ⟨k + 1, fol ns q, by omega, by go_num, by omega, by rw [HR.out, HD.out]; show (if chkE q = 0 then _ else _) = _; rw [if_pos HCC.out], HO2.out, HB1.out.trans HB2.out⟩
        case measure => simp [intOf]; omega
      · have hcb : (chkE q != 0) = true := by simpa using hc
        have HCC := Lib.hid hc
        obtain ⟨cq, hcq⟩ : ∃ cq, chkE q = cq := ⟨_, rfl⟩
        rw [hcq] at HC hcb
        have HQ := Lib.hid hcq
        clear hcq hc
        go_wp2_with (go_at_call 38; refine (HC.out _).mono ?_; rintro e w1 ⟨rfl, hw1⟩; rw [hw1]; clear hw1 w1)
        go_ret2
        have e : splE [] ps = (cq, []) := by rw [HR.out, HD.out]; show (if chkE q = 0 then _ else _) = _; rw [if_neg HCC.out, HQ.out]
        exact ⟨_, by rw [e]; rfl, by rw [e]; exact World.ownsRow_nil _ _ _ _, HB.out⟩
    · obtain rfl : k = ps.length := by omega
      have hkk : ¬ (ps.length : Int) < (ps.length : Int) := by omega
      obtain ⟨sp, cp, rfl⟩ := row_form ho
      have HO := Lib.hid (row_mono ho (Nat.le_succ _))
      clear hb ho HS
      by_cases h16 : 16 < ns.length
      · have h16' : (16 : Int) < (ns.length : Int) := by omega
        have e : splE [] ps = (32, []) := by rw [HR.out, List.drop_length]; show (if 16 < ns.length then _ else _) = _; rw [if_pos h16]
        have HE := Lib.hid e
        clear e h16
        go_wp2
        go_ret2
        exact ⟨_, by rw [HE.out]; rfl, by rw [HE.out]; exact World.ownsRow_nil _ _ _ _, HB.out⟩
      · have h16' : ¬ (16 : Int) < (ns.length : Int) := by omega
        have e : splE [] ps = (0, ns) := by rw [HR.out, List.drop_length]; show (if 16 < ns.length then _ else _) = _; rw [if_neg h16]
        have HE := Lib.hid e
        clear e h16
        go_wp2
        go_ret2
        exact ⟨_, by rw [HE.out]; rfl, by rw [HE.out]; exact HO.out, HB.out⟩
theorem Split_all (s : ByteArray) (m : Int) (w : World) (hs : s.size ≤ 256) (hm : w.cell? ⟨0, 0, none⟩ = some (.int .i64 m)) :
    Calls Tryd.prog 23 #[.string s] w fun e w' => ∃ v, e = .returned (.tuple #[v, .int .i64 (splE [] (partsOf s)).1]) ∧ w'.ownsRow w.heap.size 9 1 v (splE [] (partsOf s)).2.length (svs (splE [] (partsOf s)).2) ∧ Below w.heap.size w w' := by
  have hln : (partsOf s).length = Lib.countB s ⟨#[47]⟩ + 1 := Lib.splitB_all ⟨#[47]⟩ (by decide) 0 _ s rfl
  have hc := Lib.countB_le ⟨#[47]⟩ (by decide) s.size s (Nat.le_refl _)
  exact Split_any s m w hs hm hln (by omega)
theorem Split_long (s : ByteArray) (w : World) (hs : 256 < s.size) : Calls Tryd.prog 23 #[.string s] w fun e w' => e = .returned (.tuple #[.slice none 0 0, .int .i64 32]) ∧ w' = w := by
  have h1 : (256 : Int) < (s.size : Int) := by omega
  go_enter Tryd.func23, Tryd.ntmps23
  go_wp2
  go_ret2
  exact ⟨rfl, rfl⟩
end Go.Proofs.YthifejdphflfpaaDoor

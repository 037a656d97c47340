/- What Cut of the reference answers. -/
import Derived.Test.YthifejdphflfpaaDoorRef2
import Derived.Test.YthifejdphflfpaaDoorCut
namespace Go.Proofs.YthifejdphflfpaaDoor
open Go.RowKit Go.Sort
theorem flt_take (x : ByteArray) (l : List Nm) (k : Nat) (h : k < l.length) : flt x (l.take (k + 1)) = flt x (l.take k) ++ (if (l[k].nm.toList == x.toList) = true then [] else [l[k]]) := by
  unfold flt
  rw [List.take_succ_eq_append_getElem h, List.filter_append, List.filter_cons, List.filter_nil]
  by_cases hh : (l[k].nm.toList == x.toList) = true
  · simp [hh]
  · have hh' : (l[k].nm.toList == x.toList) = false := by simpa using hh
    simp [hh']
theorem flt_len (x : ByteArray) (l : List Nm) : (flt x l).length ≤ l.length := List.length_filter_le _ _
theorem flt_in (x : ByteArray) : ∀ l : List Nm, inB l x = false ↔ (flt x l).length = l.length
  | [] => by simp [inB, flt]
  | m :: l => by
    have ih := flt_in x l
    have hl := flt_len x l
    unfold inB flt at *
    rw [List.any_cons, List.filter_cons]
    cases h : (m.nm.toList == x.toList)
    · simp only [Bool.false_or, Bool.not_false, if_true, List.length_cons]; rw [ih]; constructor <;> intro h <;> omega
    · simp only [Bool.true_or, Bool.not_true, Bool.false_eq_true, if_false, List.length_cons]
      constructor
      · intro h; cases h
      · intro h; omega
set_option maxRecDepth 100000 in
set_option maxHeartbeats 2000000 in
theorem refCut_any (p : Option Addr) (cap : Nat) (l : List Nm) (x : ByteArray) (w : World) (hl : l.length ≤ 4398046511104) (hc : NsAt w p l) :
    Calls Tryd.prog 20 #[.slice p l.length cap, .string x] w fun e w' => ∃ v, e = .returned (.tuple #[v, .int .i64 (cutE l x)]) ∧ w'.ownsRow w.heap.size 25 3 v (cutL l x).length (flat (cutL l x)) ∧ Below w.heap.size w w' := by
  have HRT := Lib.hid (refRight_any p cap l w hl hc)
  cases hr : rightL l
  · rw [hr] at HRT
    have hE : cutE l x = 2 := by unfold cutE; simp [hr]
    have hL : cutL l x = [] := by unfold cutL; rw [hE]; rfl
    rw [hE, hL]
    go_enter Tryd.func20, Tryd.ntmps20
    go_wp2_with (go_at_call 13; refine HRT.out.mono ?_; rintro e w1 ⟨rfl, hb1⟩)
    go_ret2
    exact ⟨_, rfl, World.ownsRow_nil _ _ _ _, hb1⟩
  · rw [hr] at HRT
    have h4 := right_len hr
    have hCE : cutE l x = if (flt x l).length = l.length then 20 else 0 := by
      unfold cutE
      rw [if_neg (by simp [hr])]
      by_cases h : (flt x l).length = l.length
      · rw [if_pos h, if_pos ((flt_in x l).2 h)]
      · rw [if_neg h, if_neg (fun e => h ((flt_in x l).1 e))]
    have hCL : cutL l x = if (flt x l).length = l.length then [] else flt x l := by
      unfold cutL; rw [hCE]
      by_cases h : (flt x l).length = l.length
      · rw [if_pos h, if_pos h]; rfl
      · rw [if_neg h, if_neg h]; rfl
    have HCE := Lib.hid hCE
    have HCL := Lib.hid hCL
    clear hCE hCL hl hr
    go_enter Tryd.func20, Tryd.ntmps20
    go_wp2_with (go_at_call 13; refine HRT.out.mono ?_; rintro e w1 ⟨rfl, hb1⟩; refine Hid.out ?_)
    refine Lib.hid ?_
    go_wp2_with fail
    have hOwn0 : OwnP w.heap.size [] (.slice (some ⟨w1.heap.size, 0, none⟩) 0 0) (w1.alloc (.cells #[] 25)) := World.ownsRow_lit (base := w.heap.size) (e := 25) (size := 3) w1 #[] 0 hb1.size (by decide) rfl
    have hB0 : Below w.heap.size w (w1.alloc (.cells #[] 25)) := hb1.alloc hb1.size _
    go_loopw [6, 15] (fun v i wr => ∃ k : Nat, k ≤ l.length ∧ i = .int .i64 k ∧ OwnP w.heap.size (flt x (l.take k)) v wr ∧ Below w.heap.size w wr) (fun _ i _ => l.length - (intOf i).toNat)
    case atStart => exact ⟨0, Nat.zero_le _, rfl, hOwn0, hB0⟩
    case round =>
      obtain ⟨k, hk, rfl, hown, hb⟩ := hrel
      have hbs := hb.size
      clear hb1 hOwn0 hB0
      by_cases hlt : k < l.length
      · have hki : (k : Int) < (l.length : Int) := by omega
        obtain ⟨b, off, rfl, hbl, hq⟩ := hc k hlt
        have hbr : b < wr.heap.size := by omega
        have HT := Lib.hid (flt_take x l k hlt)
        have hln : (flt x (l.take k)).length ≤ 409 := Nat.le_trans (flt_len x _) (by rw [List.length_take]; omega)
        obtain ⟨m, hmm⟩ : ∃ m, l[k] = m := ⟨_, rfl⟩
        rw [hmm] at hq HT
        obtain ⟨c0, c1, c2⟩ := hq.below hb hbl
        obtain ⟨O, hO⟩ : ∃ O, flt x (l.take k) = O := ⟨_, rfl⟩
        rw [hO] at hown HT hln
        have HB := Lib.hid hb
        have HOw := Lib.hid hown
        clear hq hO hc hmm hb hown
        cases he : (m.nm.toList == x.toList)
        · have HN : Hid (flt x (l.take (k + 1)) = O ++ [m]) := by simp only [Hid]; rw [HT.out, he]; rfl
          obtain ⟨X, hX⟩ : ∃ X, wr.alloc (.cells #[.string m.nm, .int .i64 m.kd, .int .i64 m.id] 25) = X := ⟨_, rfl⟩
          have hXm : X.heap[wr.heap.size]? = some (nmB m) := by rw [← hX]; exact heap_new _ _
          have hXB : Below wr.heap.size wr X := by rw [← hX]; exact (Below.refl _ _).alloc (Nat.le_refl _) _
          obtain ⟨e0, e1, e2⟩ := nm_cells hXm
          have hXO : OwnP w.heap.size O u6 X := HOw.out.mono hXB
          have HXO := Lib.hid hXO
          have HXB := Lib.hid (HB.out.trans (hXB.mono hbs))
          have hXz : w.heap.size ≤ X.heap.size := HXB.out.size
          clear hXm hXB hXO HT
          go_wp2_with (at_builtin; refine app_nm rfl _ _ rfl w.heap.size u6 O m rfl HXO.out hXz (by omega) X.heap.size rfl rfl ?_; intro v3 w3 ho3 hb3 hk3 hat3; have HO3 := Lib.hid ho3; have HB3 := Lib.hid hb3; clear ho3 hb3 hk3 hat3)
          go_roundw
          case rel => exact ⟨k + 1, by omega, by go_num, by rw [HN.out]; exact HO3.out, HXB.out.trans HB3.out⟩
          case measure => simp [intOf]; omega
        · have HN : Hid (flt x (l.take (k + 1)) = O) := by simp only [Hid]; rw [HT.out, he]; simp
          clear HT
          go_wp2
          go_roundw
          case rel => exact ⟨k + 1, by omega, by go_num, by rw [HN.out]; exact HOw.out.mono ((Below.refl _ _).alloc (Nat.le_refl _) _), HB.out.alloc hbs _⟩
          case measure => simp [intOf]; omega
      · obtain rfl : k = l.length := by omega
        have hkk : ¬ (l.length : Int) < (l.length : Int) := by omega
        rw [List.take_length] at hown
        obtain ⟨sp, cp, rfl, -, -⟩ := own_rat hown
        have HOw := Lib.hid hown
        clear hown
        by_cases hle : (flt x l).length = l.length
        · have hle' : (((flt x l).length : Int) == (l.length : Int)) = true := by simp [hle]
          have HLE := Lib.hid hle
          clear hle
          go_wp2
          go_ret2
          exact ⟨_, ret_two (by rw [HCE.out, if_pos HLE.out]), by rw [HCL.out, if_pos HLE.out]; exact World.ownsRow_nil _ _ _ _, hb⟩
        · have hle' : (((flt x l).length : Int) == (l.length : Int)) = false := by simp; omega
          have HLE := Lib.hid hle
          clear hle
          go_wp2
          go_ret2
          exact ⟨_, ret_two (by rw [HCE.out, if_neg HLE.out]), by rw [HCL.out, if_neg HLE.out]; exact HOw.out, hb⟩
end Go.Proofs.YthifejdphflfpaaDoor

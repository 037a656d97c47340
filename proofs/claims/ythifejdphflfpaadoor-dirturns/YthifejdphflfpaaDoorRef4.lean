/- What Put of the reference answers. -/
import Derived.Test.YthifejdphflfpaaDoorRef2
import Derived.Test.YthifejdphflfpaaDoorFind
namespace Go.Proofs.YthifejdphflfpaaDoor
open Go.RowKit Go.Sort
/-- How far the new list is. -/
def PutS (l : List Nm) (n : Nm) (k : Nat) (O : List Nm) (b : Bool) : Prop := (b = false ∧ O = l.take k ∧ insL l n = l.take k ++ insL (l.drop k) n) ∨ (b = true ∧ insL l n = O ++ l.drop k)
theorem PutS.len {l : List Nm} {n : Nm} {k : Nat} {O : List Nm} {b : Bool} (h : PutS l n k O b) : O.length ≤ l.length + 1 := by
  rcases h with ⟨_, rfl, _⟩ | ⟨_, h⟩
  · rw [List.length_take]; omega
  · have h1 := (insL_perm n l).length_eq
    rw [h, List.length_append, List.length_cons] at h1
    omega
theorem PutS.next {l : List Nm} {n m : Nm} {k : Nat} {O : List Nm} (h : PutS l n k O true) (hk : k < l.length) (hm : l[k] = m) : PutS l n (k + 1) (O ++ [m]) true := by
  rcases h with ⟨h, _⟩ | ⟨_, h⟩
  · cases h
  · exact .inr ⟨rfl, by rw [h, List.drop_eq_getElem_cons hk, hm]; simp⟩
theorem PutS.stay {l : List Nm} {n m : Nm} {k : Nat} {O : List Nm} (h : PutS l n k O false) (hk : k < l.length) (hm : l[k] = m) (hl : ltB m.nm n.nm = true) : PutS l n (k + 1) (O ++ [m]) false := by
  rcases h with ⟨_, rfl, h⟩ | ⟨h, _⟩
  · refine .inl ⟨rfl, by rw [List.take_succ_eq_append_getElem hk, hm], ?_⟩
    rw [h, List.drop_eq_getElem_cons hk, hm, insL_cons, if_pos hl, List.take_succ_eq_append_getElem hk, hm]
    simp
  · cases h
theorem PutS.lay {l : List Nm} {n m : Nm} {k : Nat} {O : List Nm} (h : PutS l n k O false) (hk : k < l.length) (hm : l[k] = m) (hl : ltB m.nm n.nm = false) : PutS l n (k + 1) ((O ++ [n]) ++ [m]) true := by
  rcases h with ⟨_, rfl, h⟩ | ⟨h, _⟩
  · refine .inr ⟨rfl, ?_⟩
    rw [h, List.drop_eq_getElem_cons hk, hm, insL_cons, if_neg (by simp [hl])]
    simp
  · cases h
theorem PutS.fin {l : List Nm} {n : Nm} {O : List Nm} {b : Bool} (h : PutS l n l.length O b) : insL l n = if b = true then O else O ++ [n] := by
  rcases h with ⟨rfl, rfl, h⟩ | ⟨rfl, h⟩
  · rw [h, List.take_length, List.drop_length]; rfl
  · rw [h, List.drop_length]; simp
set_option maxRecDepth 100000 in
set_option maxHeartbeats 4000000 in
theorem refPut_any (p : Option Addr) (cap : Nat) (l : List Nm) (n : Nm) (w : World) (hl : l.length ≤ 4398046511104) (hc : NsAt w p l) :
    Calls Tryd.prog 18 #[.slice p l.length cap, nmV n] w fun e w' => ∃ v, e = .returned (.tuple #[v, .int .i64 (putE l n)]) ∧ w'.ownsRow w.heap.size 25 3 v (putL l n).length (flat (putL l n)) ∧ Below w.heap.size w w' := by
  unfold nmV
  obtain ⟨W0, hW0⟩ : ∃ W0, w.alloc (.cells #[.string n.nm, .int .i64 n.kd, .int .i64 n.id] 25) = W0 := ⟨_, rfl⟩
  have hm0 : W0.heap[w.heap.size]? = some (nmB n) := by rw [← hW0]; exact heap_new _ _
  have hB0 : Below w.heap.size w W0 := by rw [← hW0]; exact (Below.refl _ _).alloc (Nat.le_refl _) _
  have hs0 : W0.heap.size = w.heap.size + 1 := by rw [← hW0]; simp
  have HRT := Lib.hid (refRight_any p cap l W0 hl (hc.below hB0))
  have HB0 := Lib.hid hB0
  have HM0 := Lib.hid hm0
  have HS0 := Lib.hid hs0
  clear hm0 hB0 hs0
  cases hr : rightL l
  · rw [hr] at HRT
    have hE : putE l n = 2 := by unfold putE; rw [if_pos hr]
    have hL : putL l n = [] := by unfold putL; rw [hE]; rfl
    rw [hE, hL]
    go_enter Tryd.func18, Tryd.ntmps18
    go_wp2_with (go_at_call 13; refine HRT.out.mono ?_; rintro e w1 ⟨rfl, hb1⟩)
    go_ret2
    exact ⟨_, rfl, World.ownsRow_nil _ _ _ _, HB0.out.trans (hb1.mono (by have := HS0.out; omega))⟩
  · rw [hr] at HRT
    have h4 := right_len hr
    have HG := Lib.hid (fun W => Good_any n W)
    have HF := Lib.hid (fun W (h : Below w.heap.size w W) => refFind_any p cap l n.nm W (by unfold maxLen; omega) (fun j hj => by
      obtain ⟨b, off, hp, hbl, hq⟩ := hc j hj
      exact ⟨b, off, hp, Nat.lt_of_lt_of_le hbl h.size, hq.below h hbl⟩))
    rw [show nmV n = .agg #[.string n.nm, .int .i64 n.kd, .int .i64 n.id] from rfl] at HG
    rw [findL_in] at HF
    generalize fnd (findL l n.nm) = q at HF
    unfold nmV at HF
    cases hg : goodN n
    · rw [hg] at HG
      have hE : putE l n = 31 := by unfold putE; rw [if_neg (by simp [hr]), if_pos hg]
      have hL : putL l n = [] := by unfold putL; rw [hE]; rfl
      rw [hE, hL]
      go_enter Tryd.func18, Tryd.ntmps18
      go_wp2_with (first
        | (go_at_call 13; refine HRT.out.mono ?_; rintro e w1 ⟨rfl, hb1⟩; obtain ⟨e0, e1, e2⟩ := nm_cells ((hb1.block _ (by have := HS0.out; omega)).trans HM0.out))
        | (go_at_call 32; refine (HG.out _).mono ?_; rintro e w2 ⟨rfl, hb2⟩))
      go_ret2
      exact ⟨_, rfl, World.ownsRow_nil _ _ _ _, (HB0.out.trans (hb1.mono (by have := HS0.out; omega))).trans (hb2.mono (by have := HS0.out; have := hb1.size; omega))⟩
    · rw [hg] at HG
      cases hin : inB l n.nm
      · rw [hin] at HF
        have HIN := Lib.hid hin
        have HGD := Lib.hid hg
        have HRR := Lib.hid hr
        clear hin hg hr
        go_enter Tryd.func18, Tryd.ntmps18
        go_wp2_with (first
          | (go_at_call 13; refine HRT.out.mono ?_; rintro e w1 ⟨rfl, hb1⟩; have HM1 : Hid (w1.heap[w.heap.size]? = some (nmB n)) := (hb1.block _ (by have := HS0.out; omega)).trans HM0.out; obtain ⟨e0, e1, e2⟩ := nm_cells HM1.out; have HB1 : Hid (Below (w.heap.size + 1) W0 w1) := (by rw [← HS0.out]; exact hb1); clear hb1)
          | (go_at_call 32; refine (HG.out _).mono ?_; rintro e w2 ⟨rfl, hb2⟩; have HM2 : Hid (w2.heap[w.heap.size]? = some (nmB n)) := (hb2.block _ (Array.getElem?_eq_some_iff.1 HM1.out).1).trans HM1.out; clear e0 e1 e2; obtain ⟨e0, e1, e2⟩ := nm_cells HM2.out; have HB2 : Hid (Below (w.heap.size + 1) W0 w2) := HB1.out.trans (hb2.mono (by have := HB1.out.size; have := HS0.out; omega)); clear hb2)
          | (go_at_call 22; refine (HF.out _ (HB0.out.trans (HB2.out.mono (by omega)))).mono ?_; rintro e w3 ⟨rfl, hb3⟩; refine Hid.out ?_))
        refine Lib.hid ?_
        have HM3 : Hid (w3.heap[w.heap.size]? = some (nmB n)) := (hb3.block _ (Array.getElem?_eq_some_iff.1 HM2.out).1).trans HM2.out
        have HB3 : Hid (Below (w.heap.size + 1) W0 w3) := HB2.out.trans (hb3.mono (by have := HB2.out.size; have := HS0.out; omega))
        clear e0 e1 e2 hb3 HRT HG HF hW0
        go_wp2_with fail
        have hz3 := HB3.out.size
        have hq3 : Below (w.heap.size + 1) W0 ((w3.alloc (.cells #[.string q.nm, .int .i64 q.kd, .int .i64 q.id] 25)).alloc (.cells #[] 25)) := (HB3.out.alloc (by have := HS0.out; omega) _).alloc (by have := HS0.out; simp; omega) _
        have hq3m : ((w3.alloc (.cells #[.string q.nm, .int .i64 q.kd, .int .i64 q.id] 25)).alloc (.cells #[] 25)).heap[w.heap.size]? = some (nmB n) := (Below.heap_alloc _ _ _ (by have := (Array.getElem?_eq_some_iff.1 HM3.out).1; simp; omega)).trans ((Below.heap_alloc _ _ _ (Array.getElem?_eq_some_iff.1 HM3.out).1).trans HM3.out)
        have hq3o : OwnP (w.heap.size + 1) [] (.slice (some ⟨w3.heap.size + 1, 0, none⟩) 0 0) ((w3.alloc (.cells #[.string q.nm, .int .i64 q.kd, .int .i64 q.id] 25)).alloc (.cells #[] 25)) := by
          have h := World.ownsRow_lit (base := w.heap.size + 1) (e := 25) (size := 3) (w3.alloc (.cells #[.string q.nm, .int .i64 q.kd, .int .i64 q.id] 25)) #[] 0 (by have := HS0.out; simp; omega) (by decide) rfl
          rw [World.size_alloc] at h
          exact h
        go_loopw [8, 9, 29] (fun v bv i wr => ∃ (k : Nat) (O : List Nm) (b : Bool), k ≤ l.length ∧ i = .int .i64 k ∧ bv = .bool b ∧ PutS l n k O b ∧ OwnP (w.heap.size + 1) O v wr ∧ wr.heap[w.heap.size]? = some (nmB n) ∧ Below (w.heap.size + 1) W0 wr) (fun _ _ i _ => l.length - (intOf i).toNat)
        case atStart => exact ⟨0, [], false, Nat.zero_le _, rfl, rfl, .inl ⟨rfl, rfl, rfl⟩, hq3o, hq3m, hq3⟩
        case round =>
          obtain ⟨k, O, b, hk, rfl, rfl, hS, hown, hmn, hb⟩ := hrel
          have hz := hb.size
          have hs0 := HS0.out
          have hOl := hS.len
          obtain ⟨e0, e1, e2⟩ := nm_cells hmn
          have HB := Lib.hid hb
          have HMn := Lib.hid hmn
          have HOw := Lib.hid hown
          have hln := (Array.getElem?_eq_some_iff.1 hmn).1
          clear hq3 hq3m hq3o HM3 hz3 hb hmn hown hs0
          by_cases hlt : k < l.length
          · have hki : (k : Int) < (l.length : Int) := by omega
            obtain ⟨bb, off, rfl, hbl, hq⟩ := hc k hlt
            have hbr : bb < wr.heap.size := by have := HS0.out; omega
            obtain ⟨m, hmm⟩ : ∃ m, l[k] = m := ⟨_, rfl⟩
            have HMM := Lib.hid hmm
            rw [hmm] at hq
            have hbw : Below w.heap.size w wr := HB0.out.trans (HB.out.mono (by omega))
            obtain ⟨c0, c1, c2⟩ := hq.below hbw hbl
            have hne : Hid ((m.nm.toList == n.nm.toList) = false) := by
              cases h : (m.nm.toList == n.nm.toList)
              · exact Lib.hid rfl
              · have h2 : inB l n.nm = true := by
                  unfold inB; rw [List.any_eq_true]
                  exact ⟨m, by rw [← hmm]; exact List.getElem_mem hlt, h⟩
                rw [HIN.out] at h2; cases h2
            obtain ⟨X, hX⟩ : ∃ X, wr.alloc (.cells #[.string m.nm, .int .i64 m.kd, .int .i64 m.id] 25) = X := ⟨_, rfl⟩
            have hXm : X.heap[wr.heap.size]? = some (nmB m) := by rw [← hX]; exact heap_new _ _
            have hXB : Below wr.heap.size wr X := by rw [← hX]; exact (Below.refl _ _).alloc (Nat.le_refl _) _
            have hXn : X.heap[w.heap.size]? = some (nmB n) := (hXB.block _ hln).trans HMn.out
            obtain ⟨x0, x1, x2⟩ := nm_cells hXm
            obtain ⟨n0, n1, n2⟩ := nm_cells hXn
            have HXO := Lib.hid (OwnP.mono HOw.out hXB)
            have HXB := Lib.hid (HB.out.trans (hXB.mono (by have := HS0.out; omega)))
            have HXM := Lib.hid hXm
            have HXN := Lib.hid hXn
            have hXz : w.heap.size + 1 ≤ X.heap.size := by have := hXB.size; have := HS0.out; omega
            have hwz : wr.heap.size < X.heap.size := (Array.getElem?_eq_some_iff.1 hXm).1
            have HSt := Lib.hid hS
            clear hXm hXB hXn hmm hq hc e0 e1 e2 hS hbw
            cases b
            · cases hlb : Op.bytesLess m.nm.toList n.nm.toList
              · have hne' := hne.out
                go_wp2_with (at_builtin; refine app_nm rfl _ _ rfl (w.heap.size + 1) u8 O n rfl HXO.out hXz (by omega) X.heap.size rfl rfl ?_; intro v3 w3' ho3 hb3 hk3 hat3; refine Hid.out ?_)
                refine Lib.hid ?_
                have HO4 := Lib.hid ho3
                have HB4 := Lib.hid (HXB.out.trans hb3)
                have HNB : ∀ g, u8.ownBlock = some g → g ≠ w.heap.size ∧ g ≠ wr.heap.size := fun g hg => ⟨by have := (World.ownsRow.lt HXO.out g hg).1; omega, fun e => by
                  subst e; have := (World.ownsRow.lt HOw.out _ hg).2; omega⟩
                have hm4 : w3'.heap[wr.heap.size]? = some (nmB m) := (hk3 _ hwz (fun e => (HNB _ e.symm).2 rfl)).trans HXM.out
                have hn4 : w3'.heap[w.heap.size]? = some (nmB n) := (hk3 _ (by omega) (fun e => (HNB _ e.symm).1 rfl)).trans HXN.out
                have HV4 := Lib.hid hat3
                have hz4 : w.heap.size + 1 ≤ w3'.heap.size := by have := hb3.size; omega
                obtain ⟨y0, y1, y2⟩ := nm_cells hm4
                have HN4 := Lib.hid hn4
                have hl4 : ((O ++ [n]).length + 1) * 32 ≤ 140737488355328 := by rw [List.length_append]; simp; omega
                clear ho3 hb3 hk3 hat3 hm4 hn4 x0 x1 x2 n0 n1 n2 hX HNB
                go_wp2_with (at_builtin; refine app_nm rfl _ _ rfl (w.heap.size + 1) v3 (O ++ [n]) m rfl HO4.out hz4 hl4 w3'.heap.size rfl rfl ?_; intro v5 w5 ho5 hb5 hk5 hat5; have HO5 := Lib.hid ho5; have HB5 := Lib.hid hb5; have HK5 := Lib.hid hk5; clear ho5 hb5 hk5 hat5)
                go_roundw
                case rel => exact ⟨k + 1, (O ++ [n]) ++ [m], true, by omega, by go_num, rfl, HSt.out.lay hlt HMM.out hlb, HO5.out, (HK5.out _ (by omega) (fun e => by have := (World.ownsRow.lt HO4.out _ e.symm).1; omega)).trans HN4.out, HB4.out.trans HB5.out⟩
                case measure => simp [intOf]; omega
              · go_wp2_with (at_builtin; refine app_nm rfl _ _ rfl (w.heap.size + 1) u8 O m rfl HXO.out hXz (by omega) X.heap.size rfl rfl ?_; intro v5 w5 ho5 hb5 hk5 hat5; have HO5 := Lib.hid ho5; have HB5 := Lib.hid hb5; have HK5 := Lib.hid hk5; clear ho5 hb5 hk5 hat5)
                go_roundw
                case rel => exact ⟨k + 1, O ++ [m], false, by omega, by go_num, rfl, HSt.out.stay hlt HMM.out hlb, HO5.out, (HK5.out _ (by omega) (fun e => by have := (World.ownsRow.lt HXO.out _ e.symm).1; omega)).trans HXN.out, HXB.out.trans HB5.out⟩
                case measure => simp [intOf]; omega
            · go_wp2_with (at_builtin; refine app_nm rfl _ _ rfl (w.heap.size + 1) u8 O m rfl HXO.out hXz (by omega) X.heap.size rfl rfl ?_; intro v5 w5 ho5 hb5 hk5 hat5; have HO5 := Lib.hid ho5; have HB5 := Lib.hid hb5; have HK5 := Lib.hid hk5; clear ho5 hb5 hk5 hat5)
              go_roundw
              case rel => exact ⟨k + 1, O ++ [m], true, by omega, by go_num, rfl, HSt.out.next hlt HMM.out, HO5.out, (HK5.out _ (by omega) (fun e => by have := (World.ownsRow.lt HXO.out _ e.symm).1; omega)).trans HXN.out, HXB.out.trans HB5.out⟩
              case measure => simp [intOf]; omega
          · obtain rfl : k = l.length := by omega
            have hkk : ¬ (l.length : Int) < (l.length : Int) := by omega
            have hfin := hS.fin
            have hgood : ∀ m ∈ insL l n, m.nm.size ≤ 32 := fun m hm => by
              rcases List.mem_cons.1 ((insL_perm n l).mem_iff.1 hm) with rfl | hm
              · exact (goodN_size HGD.out).2
              · exact (goodN_size (((right_iff l).1 HRR.out).1 m hm)).2
            have hlen2 : (insL l n).length ≤ 4398046511104 := by rw [(insL_perm n l).length_eq, List.length_cons]; omega
            have hputE : putE l n = if sizeL (insL l n) ≤ 4096 then 0 else 27 := by
              rw [putE_room HRR.out HGD.out HIN.out, sizeL_perm (insL_perm n l)]
              have e : sizeL (n :: l) = ((n.nm.size : Int) + 10) + sizeL l := rfl
              rw [e]
              by_cases hh : sizeL l + (n.nm.size + 10) ≤ 4096
              · rw [if_pos hh, if_pos (by omega)]
              · rw [if_neg hh, if_neg (by omega)]
            have hputL : putL l n = if sizeL (insL l n) ≤ 4096 then insL l n else [] := by
              unfold putL; rw [hputE]
              by_cases hh : sizeL (insL l n) ≤ 4096
              · rw [if_pos hh, if_pos hh]; rfl
              · rw [if_neg hh, if_neg hh]; rfl
            have HPE := Lib.hid hputE
            have HPL := Lib.hid hputL
            have HGOOD := Lib.hid hgood
            have HLEN2 := Lib.hid hlen2
            have HSZ : Hid (∀ (v : Value) (W : World), OwnP (w.heap.size + 1) (insL l n) v W → Calls Tryd.prog 33 #[v] W fun e w' => e = .returned (.int .i64 (sizeL (insL l n))) ∧ Below W.heap.size W w') := fun v W ho => by
              obtain ⟨p', c', rfl, -, hR⟩ := own_rat ho
              exact Size_any p' c' (insL l n) W HLEN2.out HGOOD.out hR.row
            clear hgood hlen2 hputE hputL hS hc
            cases b
            · rw [if_neg (by decide)] at hfin
              have HFin := Lib.hid hfin
              clear hfin
              have hbz : w.heap.size + 1 ≤ wr.heap.size := by have := HS0.out; omega
              go_wp2_with (at_builtin; refine app_nm rfl _ _ rfl (w.heap.size + 1) u8 O n rfl HOw.out hbz (by omega) wr.heap.size rfl rfl ?_; intro v5 w5 ho5 hb5 hk5 hat5; refine Hid.out ?_)
              refine Lib.hid ?_
              rw [← HFin.out] at ho5
              have HO5 := Lib.hid ho5
              have HB5 := Lib.hid (HB.out.trans hb5)
              obtain ⟨p', c', rfl, -, hR⟩ := own_rat ho5
              clear ho5 hb5 hk5 hat5 e0 e1 e2 hR
              by_cases hh : sizeL (insL l n) ≤ 4096
              · rw [if_pos hh] at HPE HPL
                go_wp2_with (go_at_call 33; refine (HSZ.out _ _ HO5.out).mono ?_; rintro e w6 ⟨rfl, hb6⟩)
                go_ret2
                exact ⟨_, by rw [HPE.out]; rfl, by rw [HPL.out]; exact OwnP.le (OwnP.mono HO5.out hb6) (by omega), HB0.out.trans ((HB5.out.trans (hb6.mono (by have := HB5.out.size; have := HS0.out; omega))).mono (by omega))⟩
              · rw [if_neg hh] at HPE HPL
                go_wp2_with (go_at_call 33; refine (HSZ.out _ _ HO5.out).mono ?_; rintro e w6 ⟨rfl, hb6⟩)
                go_ret2
                exact ⟨_, by rw [HPE.out]; rfl, by rw [HPL.out]; exact World.ownsRow_nil _ _ _ _, HB0.out.trans ((HB5.out.trans (hb6.mono (by have := HB5.out.size; have := HS0.out; omega))).mono (by omega))⟩
            · rw [if_pos rfl] at hfin
              have HO5 : Hid (OwnP (w.heap.size + 1) (insL l n) u8 wr) := by simp only [Hid]; rw [hfin]; exact HOw.out
              obtain ⟨p', c', rfl, -, hR⟩ := own_rat HO5.out
              clear hfin e0 e1 e2 hR HOw
              have HB5 := HB
              by_cases hh : sizeL (insL l n) ≤ 4096
              · rw [if_pos hh] at HPE HPL
                go_wp2_with (go_at_call 33; refine (HSZ.out _ _ HO5.out).mono ?_; rintro e w6 ⟨rfl, hb6⟩)
                go_ret2
                exact ⟨_, by rw [HPE.out]; rfl, by rw [HPL.out]; exact OwnP.le (OwnP.mono HO5.out hb6) (by omega), HB0.out.trans ((HB5.out.trans (hb6.mono (by have := HB5.out.size; have := HS0.out; omega))).mono (by omega))⟩
              · rw [if_neg hh] at HPE HPL
                go_wp2_with (go_at_call 33; refine (HSZ.out _ _ HO5.out).mono ?_; rintro e w6 ⟨rfl, hb6⟩)
                go_ret2
                exact ⟨_, by rw [HPE.out]; rfl, by rw [HPL.out]; exact World.ownsRow_nil _ _ _ _, HB0.out.trans ((HB5.out.trans (hb6.mono (by have := HB5.out.size; have := HS0.out; omega))).mono (by omega))⟩
      · rw [hin] at HF
        have hE : putE l n = 21 := by unfold putE; rw [if_neg (by simp [hr]), if_neg (by simp [hg]), if_pos hin]
        have hL : putL l n = [] := by unfold putL; rw [hE]; rfl
        rw [hE, hL]
        go_enter Tryd.func18, Tryd.ntmps18
        go_wp2_with (first
          | (go_at_call 13; refine HRT.out.mono ?_; rintro e w1 ⟨rfl, hb1⟩; have HM1 : Hid (w1.heap[w.heap.size]? = some (nmB n)) := (hb1.block _ (by have := HS0.out; omega)).trans HM0.out; obtain ⟨e0, e1, e2⟩ := nm_cells HM1.out; have HB1 : Hid (Below (w.heap.size + 1) W0 w1) := (by rw [← HS0.out]; exact hb1); clear hb1)
          | (go_at_call 32; refine (HG.out _).mono ?_; rintro e w2 ⟨rfl, hb2⟩; have HM2 : Hid (w2.heap[w.heap.size]? = some (nmB n)) := (hb2.block _ (Array.getElem?_eq_some_iff.1 HM1.out).1).trans HM1.out; clear e0 e1 e2; obtain ⟨e0, e1, e2⟩ := nm_cells HM2.out; have HB2 : Hid (Below (w.heap.size + 1) W0 w2) := HB1.out.trans (hb2.mono (by have := HB1.out.size; have := HS0.out; omega)); clear hb2)
          | (go_at_call 22; refine (HF.out _ (HB0.out.trans (HB2.out.mono (by omega)))).mono ?_; rintro e w3 ⟨rfl, hb3⟩; have HB3 : Hid (Below (w.heap.size + 1) W0 w3) := HB2.out.trans (hb3.mono (by have := HB2.out.size; have := HS0.out; omega)); clear hb3))
        go_ret2
        exact ⟨_, rfl, World.ownsRow_nil _ _ _ _, (HB0.out.trans (HB3.out.mono (by omega))).alloc (by have := HB3.out.size; have := HS0.out; omega) _⟩
end Go.Proofs.YthifejdphflfpaaDoor

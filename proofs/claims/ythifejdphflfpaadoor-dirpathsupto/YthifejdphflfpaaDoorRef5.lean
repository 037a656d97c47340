/- What Split of the reference answers. -/
import Derived.Test.YthifejdphflfpaaDoorWords
import Derived.Maps.AppendAt
import Derived.Lib.IndexLaws
namespace Go.Proofs.YthifejdphflfpaaDoor
open Go.RowKit Go.Sort
theorem chk_zero {p : ByteArray} {i : Nat} (hi : i < p.size) (h : p[i] = 0) : chkE p = 31 := by
  unfold chkE
  have hl : p.data.toList.length = p.size := by simp
  have hg : p.data.toList[i]'(by omega) = 0 := by rw [← h]; simp [ByteArray.getElem_eq_getElem_data]
  rw [if_pos]
  rw [decide_eq_true_eq]
  have h1 := Lib.indexByte_ge p.data.toList 0
  rcases Int.lt_or_le (Lib.indexByte p.data.toList 0) 0 with h2 | h2
  · have := Lib.indexByte_none (l := p.data.toList) (c := 0) (by omega) i
    rw [List.getElem?_eq_getElem (by omega), hg] at this
    exact absurd rfl this
  · exact h2
theorem chk_none {p : ByteArray} (h : ∀ i, (hi : i < p.size) → p[i] ≠ 0) : chkE p = if 32 < p.size then 32 else 0 := by
  unfold chkE
  have hl : p.data.toList.length = p.size := by simp
  rw [if_neg]
  rw [decide_eq_true_eq]
  intro h2
  obtain ⟨i, hi⟩ : ∃ i : Nat, Lib.indexByte p.data.toList 0 = (i : Int) := ⟨(Lib.indexByte p.data.toList 0).toNat, by omega⟩
  obtain ⟨h3, _⟩ := Lib.indexByte_some hi
  obtain ⟨hil, hv⟩ := List.getElem?_eq_some_iff.1 h3
  refine h i (by omega) ?_
  rw [← hv]; simp [ByteArray.getElem_eq_getElem_data]
/-- No part is longer than the whole. -/
theorem wdA_sizes (c : UInt8) : ∀ (l a : List UInt8), ∀ x ∈ wdA c a l, x.length ≤ a.length + l.length
  | [], a, x, hx => by simp [wdA] at hx; simp [hx]
  | y :: l, a, x, hx => by
    rw [wdA] at hx
    split at hx
    · rcases List.mem_cons.1 hx with rfl | hx
      · simp
      · have := wdA_sizes c l [] x hx; simp at this ⊢; omega
    · have := wdA_sizes c l _ x hx; simp at this ⊢; omega
/-- Texts appended to a row of one's own. -/
theorem app_strs {W : World} {ops : Array Oper} {rest : List Oper} {o : Oper} {a : Act} {Q : Exit → Act → World → Prop} (hgd : o.guard = none) (s x : Operand)
    (ho : o.op = .call { callee := .builtin .append, args := #[s, x], argTypes := #[44, 44] }) (base : Nat) (v : Value) (xs ys : List ByteArray) (hs : a.eval s = v) (hown : W.ownsRow base 9 1 v xs.length (sts xs)) (hb : base ≤ W.heap.size) (hn : xs.length + ys.length < 1099511627778)
    (ad : Addr) (n c : Nat) (hny : n = ys.length) (hx : a.eval x = .slice (some ad) n c) (hsrc : ∀ j u, (sts ys)[j]? = some u → W.cell? (ad.add j) = some u)
    (h : ∀ v' w', w'.ownsRow base 9 1 v' (xs ++ ys).length (sts (xs ++ ys)) → Below base W w' → (∀ k, k < W.heap.size → some k ≠ v.ownBlock → w'.heap[k]? = W.heap[k]?) → (v'.ownBlock = v.ownBlock ∨ v'.ownBlock = some W.heap.size) → wpList Tryd.prog ops Q rest (a.put o.dst v') w') : wpList Tryd.prog ops Q (o :: rest) a W := by
  subst hny
  obtain ⟨i0, hi, hz0, hz1, hz2⟩ := info_parts' strInfo
  refine wpList_append_own_at _ hgd s x 44 ho base 9 i0 (.string ⟨#[]⟩) 1 16 Tryd.underlying44 hi hz0 hz1 hz2 rfl (by decide) v xs.length (sts xs) hs hown ad ys.length c (sts ys) hx (by simp [sts]) hsrc (fun u hu => by obtain ⟨q, _, rfl⟩ := List.mem_map.1 hu; rfl) (by unfold maxLen; omega) (by omega) hb ?_
  intro v' w' h1 h2 _ h3
  refine h v' w' ?_ (Below.grown (Below.refl _ _) h2 hb (fun j hj => (hown.lt j hj).1)) (fun k hk hne => h2.block k hk hne) h3
  rw [List.length_append, show sts (xs ++ ys) = sts xs ++ sts ys from by simp [sts]]
  exact h1
set_option maxRecDepth 100000 in
set_option maxHeartbeats 4000000 in
theorem refSplit_any (s : ByteArray) (w : World) (hs : s.size ≤ 256) :
    Calls Tryd.prog 24 #[.string s] w fun e w' => ∃ v, e = .returned (.tuple #[v, .int .i64 (splE [] (partsOf s)).1]) ∧ w'.ownsRow w.heap.size 9 1 v (splE [] (partsOf s)).2.length (svs (splE [] (partsOf s)).2) ∧ Below w.heap.size w w' := by
  have h1 : ¬ (256 : Int) < (s.size : Int) := by omega
  have hps := parts_bas s
  have hwl := Words_any s 47 (w.alloc (.cells #[] 9)) (by omega)
  have hpl : (partsOf s).length ≤ 257 := by
    have hln : (partsOf s).length = Lib.countB s ⟨#[47]⟩ + 1 := Lib.splitB_all ⟨#[47]⟩ (by decide) 0 _ s rfl
    have hc := Lib.countB_le ⟨#[47]⟩ (by decide) s.size s (Nat.le_refl _)
    omega
  have hsz : ∀ x ∈ partsOf s, x.size ≤ 256 := fun x hx => by
    rw [hps] at hx
    obtain ⟨y, hy, rfl⟩ := List.mem_map.1 hx
    have := wdA_sizes 47 s.data.toList [] y hy
    have hl : s.data.toList.length = s.size := by simp
    show y.toArray.size ≤ 256
    simp at this ⊢; omega
  rw [← hps] at hwl
  clear hps
  generalize partsOf s = ps at *
  have HW := Lib.hid hwl
  rw [show ((47 : UInt8).toNat : Int) = 47 from rfl] at HW
  clear hwl
  go_enter Tryd.func24, Tryd.ntmps24
  go_wp2_with (go_at_call 40; refine HW.out.mono ?_; rintro e w2 ⟨v2, rfl, ho2, hb2⟩; refine Hid.out ?_)
  refine Lib.hid ?_
  have hz2 : w.heap.size + 1 ≤ w2.heap.size := by have := hb2.size; simpa using this
  have hb02 : Below w.heap.size w w2 := ((Below.refl w.heap.size w).alloc (Nat.le_refl _) _).trans (hb2.mono (by simp))
  have hOw0 : w2.ownsRow w.heap.size 9 1 (.slice (some ⟨w.heap.size, 0, none⟩) 0 0) ([] : List ByteArray).length (sts []) := by
    have h := World.ownsRow_lit (base := w.heap.size) (e := 9) (size := 1) w #[] 0 (Nat.le_refl _) (by decide) rfl
    exact row_same h fun k hk => by
      obtain rfl : w.heap.size = k := by simpa [Value.ownBlock] using hk
      exact hb2.block _ (by simp)
  rw [World.size_alloc] at ho2
  have hpos : 0 < ps.length ∨ ps = [] := by cases ps <;> simp
  obtain ⟨pp, pc, rfl, hpp⟩ : ∃ pp pc, v2 = .slice pp ps.length pc ∧ (0 < ps.length → ∃ g, pp = some ⟨g, 0, none⟩ ∧ w.heap.size < g ∧ g < w2.heap.size ∧ ∀ j, (h : j < ps.length) → w2.cell? ⟨g, j, none⟩ = some (.string ps[j])) := by
    rcases hpos with h0 | h0
    · obtain ⟨g, c, hv, hg, hbg, hcl⟩ := sts_cells ho2 h0
      exact ⟨_, c, hv, fun _ => ⟨g, rfl, by omega, hg, hcl⟩⟩
    · obtain ⟨sp, cp, hv⟩ := row_form ho2
      rcases ho2.2 with ⟨hv, _⟩ | ⟨g, c, cur, hv, _⟩
      · exact ⟨none, 0, by rw [hv, h0]; rfl, fun h => by rw [h0] at h; simp at h⟩
      · exact ⟨_, c, hv, fun h => by rw [h0] at h; simp at h⟩
  clear ho2 hpos HW hb2
  go_wp2_with fail
  go_loopw [4, 15] (fun v i wr => ∃ (k : Nat) (ns : List ByteArray), k ≤ ps.length ∧ i = .int .i64 k ∧ ns.length ≤ k ∧ splE [] ps = splE ns (ps.drop k) ∧ wr.ownsRow w.heap.size 9 1 v ns.length (sts ns) ∧ (∀ g, pp = some ⟨g, 0, none⟩ → 0 < ps.length → v.ownBlock ≠ some g ∧ wr.heap[g]? = w2.heap[g]?) ∧ Below w.heap.size w wr ∧ w2.heap.size ≤ wr.heap.size) (fun _ i _ => ps.length - (intOf i).toNat)
  case atStart => exact ⟨0, [], Nat.zero_le _, rfl, Nat.zero_le _, rfl, hOw0, fun g hg h0 => ⟨fun he => by
    have := Option.some.inj (show some w.heap.size = some g from he)
    obtain ⟨g', hg', h3, _⟩ := hpp h0
    rw [hg] at hg'
    simp at hg', rfl⟩, hb02, Nat.le_refl _⟩
  case round =>
    obtain ⟨wo, rfl⟩ : ∃ wo, wo = wr := ⟨_, rfl⟩
    obtain ⟨k, ns, hk, rfl, hnk, hr, hown, hap, hb, hz⟩ := hrel
    have HR := Lib.hid hr
    have HOw := Lib.hid hown
    have HB := Lib.hid hb
    have hzw := hb.size
    clear hr hOw0
    by_cases hlt : k < ps.length
    · have h0 : 0 < ps.length := by omega
      obtain ⟨g, rfl, hg1, hg2, hcl⟩ := hpp h0
      obtain ⟨hap1, hap2⟩ := hap g rfl h0
      have hgw : g < wo.heap.size := by omega
      have c0 : wo.cell? ⟨g, k, none⟩ = some (.string ps[k]) := by
        have := hcl k hlt
        simp only [World.cell?] at this ⊢
        rw [hap2]; exact this
      have HD : Hid (ps.drop k = ps[k] :: ps.drop (k + 1)) := List.drop_eq_getElem_cons hlt
      obtain ⟨q, hq⟩ : ∃ q, ps[k] = q := ⟨_, rfl⟩
      have hq256 : q.size ≤ 256 := by rw [← hq]; exact hsz _ (List.getElem_mem hlt)
      rw [hq] at c0 HD
      have hki : (k : Int) < (ps.length : Int) := by omega
      have HAP : Hid (u4.ownBlock ≠ some g ∧ wo.heap[g]? = w2.heap[g]?) := ⟨hap1, hap2⟩
      clear hap hap1 hap2 hq hown hb
      go_wp2_with fail
      go_loopw [7] (fun iv wi => ∃ i : Nat, i ≤ q.size ∧ iv = .int .i64 i ∧ (∀ j, (h : j < q.size) → j < i → q[j] ≠ 0) ∧ wo = wi) (fun iv _ => q.size - (intOf iv).toNat)
      case atStart => exact ⟨0, Nat.zero_le _, rfl, fun j _ h => by omega, rfl⟩
      case round =>
        obtain ⟨i, hi, rfl, hno, hww⟩ := hrel
        subst hww
        have HNo := Lib.hid hno
        clear hno
        by_cases hil : i < q.size
        · have hii : (i : Int) < (q.size : Int) := by omega
          by_cases e0 : q[i] = 0
          · have f0 : ((q[i].toNat : Int) == 0) = true := by rw [e0]; rfl
            have HZ := Lib.hid (chk_zero hil e0)
            clear e0
            go_wp2
            go_ret2
            have e : splE [] ps = (31, []) := by rw [HR.out, HD.out]; show (if chkE q = 0 then _ else _) = _; rw [HZ.out]; rfl
            exact ⟨_, by rw [e]; rfl, by rw [e]; exact World.ownsRow_nil _ _ _ _, HB.out⟩
          · have f0 : ((q[i].toNat : Int) == 0) = false := by
              rw [beq_eq_false_iff_ne]; intro e; exact e0 (UInt8.toNat_inj.1 (by show _ = 0; omega))
            have HE := Lib.hid e0
            clear e0
            go_wp2
            go_roundw
            case rel =>
              refine ⟨i + 1, by omega, by go_num, fun j hj hji => ?_, trivial⟩
              by_cases hh : j = i
              · subst hh; exact HE.out
              · exact HNo.out j hj (by omega)
            case measure => simp [intOf]; omega
        · obtain rfl : i = q.size := by omega
          have hii : ¬ (q.size : Int) < (q.size : Int) := by omega
          have HCk := Lib.hid (chk_none (fun j hj => HNo.out j hj hj))
          clear HNo
          by_cases h32 : 32 < q.size
          · have h32' : (32 : Int) < (q.size : Int) := by omega
            rw [if_pos h32] at HCk
            clear h32
            go_wp2
            go_ret2
            have e : splE [] ps = (32, []) := by rw [HR.out, HD.out]; show (if chkE q = 0 then _ else _) = _; rw [HCk.out]; rfl
            exact ⟨_, by rw [e]; rfl, by rw [e]; exact World.ownsRow_nil _ _ _ _, HB.out⟩
          · have h32' : ¬ (32 : Int) < (q.size : Int) := by omega
            rw [if_neg h32] at HCk
            have HST : Hid (splE [] ps = splE (fol ns q) (ps.drop (k + 1))) := by
              simp only [Hid]; rw [HR.out, HD.out]; show (if chkE q = 0 then _ else _) = _; rw [if_pos HCk.out]
            clear h32 HCk
            cases hem : q.toList.isEmpty
            · cases hdo : (q.toList == [46])
              · cases hdd : (q.toList == [46, 46])
                · have hf : fol ns q = ns ++ [q] := by
                    unfold fol
                    rw [if_neg, if_neg]
                    · intro h; rw [h] at hdd; simp at hdd
                    · rintro (h | h)
                      · rw [h] at hem; simp at hem
                      · rw [h] at hdo; simp at hdo
                  rw [hf] at HST
                  have hOA : Hid ((wo.alloc (.cells #[.string q] 9)).ownsRow w.heap.size 9 1 u4 ns.length (sts ns)) := HOw.out.alloc _
                  have hcA : ∀ j u, (sts [q])[j]? = some u → (wo.alloc (.cells #[.string q] 9)).cell? ((⟨wo.heap.size, 0, none⟩ : Addr).add j) = some u := cell_one_new wo (.string q) 9
                  have HCA := Lib.hid hcA
                  have hzA : w.heap.size ≤ (wo.alloc (.cells #[.string q] 9)).heap.size := by simp; omega
                  have hbA : Hid (Below w.heap.size w (wo.alloc (.cells #[.string q] 9))) := HB.out.alloc hzw _
                  clear hf hcA
                  go_wp2_with (at_builtin; refine app_strs rfl _ _ rfl w.heap.size u4 ns [q] rfl hOA.out hzA (by simp; omega) ⟨wo.heap.size, 0, none⟩ 1 1 rfl rfl HCA.out ?_; intro v5 w5 ho5 hb5 hk5 hat5; have HO5 := Lib.hid ho5; have HB5 := Lib.hid hb5; have HK5 := Lib.hid hk5; have HT5 := Lib.hid hat5; clear ho5 hb5 hk5 hat5)
                  go_roundw
                  case rel =>
                    refine ⟨k + 1, ns ++ [q], by omega, by go_num, by rw [List.length_append]; simp; omega, HST.out, HO5.out, fun g' hg' _ => ?_, hbA.out.trans HB5.out, by have := HB5.out.size; simp at this; omega⟩
                    obtain rfl : g = g' := by simpa using hg'
                    refine ⟨fun he => ?_, (HK5.out g (by simp; omega) (fun e => HAP.out.1 e.symm)).trans ((Below.heap_alloc _ _ _ hgw).trans HAP.out.2)⟩
                    rcases HT5.out with h | h
                    · rw [h] at he; exact HAP.out.1 he
                    · rw [h] at he; have := Option.some.inj he; simp at this; omega
                  case measure => simp [intOf]; omega
                · have hf : fol ns q = ns.take (ns.length - 1) := by
                    unfold fol
                    rw [if_neg, if_pos]
                    · simpa using hdd
                    · rintro (h | h)
                      · rw [h] at hem; simp at hem
                      · rw [h] at hdo; simp at hdo
                  rw [hf] at HST
                  clear hf
                  by_cases hn0 : 0 < ns.length
                  · obtain ⟨sp0, cap0, hv0, -, hcap1, hcap2⟩ := row_take HOw.out (ns.length - 1) (by omega)
                    obtain ⟨gn, cn, hv, hgn, hbgn, hcln⟩ := sts_cells HOw.out hn0
                    rw [hv0] at hv
                    simp only [Value.slice.injEq, true_and] at hv
                    obtain ⟨rfl, rfl⟩ := hv
                    subst hv0
                    obtain ⟨N1, hN1⟩ : ∃ N1, ns.length - 1 = N1 := ⟨_, rfl⟩
                    have hN1i : (ns.length : Int) - 1 = (N1 : Int) := by omega
                    have hN1c : (N1 : Int) ≤ (cap0 : Int) := by omega
                    have hTl : (ns.take N1).length = N1 := by rw [List.length_take]; omega
                    rw [hN1] at HST
                    have hOA : Hid ((wo.alloc (.cells #[] 9)).ownsRow w.heap.size 9 1 (.slice (some ⟨wo.heap.size, 0, none⟩) 0 0) ([] : List ByteArray).length (sts [])) := World.ownsRow_lit (base := w.heap.size) (e := 9) (size := 1) wo #[] 0 hzw (by decide) rfl
                    have hcA : Hid (∀ j u, (sts (ns.take N1))[j]? = some u → (wo.alloc (.cells #[] 9)).cell? ((⟨gn, 0, none⟩ : Addr).add j) = some u) := fun j u hu => by
                      unfold sts at hu
                      rw [List.getElem?_map] at hu
                      have hj : j < (ns.take N1).length := by
                        rcases Nat.lt_or_ge j (ns.take N1).length with h | h
                        · exact h
                        · rw [List.getElem?_eq_none h] at hu; cases hu
                      rw [List.getElem?_eq_getElem hj, List.getElem_take] at hu
                      simp only [Option.map_some, Option.some.injEq] at hu
                      rw [addr_plus, ← hu, Nat.zero_add]
                      exact (((Below.refl wo.heap.size wo).alloc (Nat.le_refl _) _).cell (p := ⟨gn, j, none⟩) hgn).trans (hcln j (by omega))
                    have hzA : w.heap.size ≤ (wo.alloc (.cells #[] 9)).heap.size := by simp; omega
                    have hbA : Hid (Below w.heap.size w (wo.alloc (.cells #[] 9))) := HB.out.alloc hzw _
                    have HTl := Lib.hid hTl
                    have HN1 := Lib.hid hN1
                    clear hcln hTl hN1 hcap1 hcap2
                    go_wp2_with (at_builtin; refine app_strs rfl _ _ rfl w.heap.size (.slice (some ⟨wo.heap.size, 0, none⟩) 0 0) [] (ns.take N1) rfl hOA.out hzA (by have := HTl.out; simp; omega) ⟨gn, 0, none⟩ N1 cap0 HTl.out.symm rfl hcA.out ?_; intro v5 w5 ho5 hb5 hk5 hat5; have HO5 := Lib.hid ho5; have HB5 := Lib.hid hb5; have HK5 := Lib.hid hk5; have HT5 := Lib.hid hat5; clear ho5 hb5 hk5 hat5)
                    go_roundw
                    case rel =>
                      refine ⟨k + 1, ns.take N1, by omega, by go_num, by have := HTl.out; omega, HST.out, HO5.out, fun g' hg' _ => ?_, hbA.out.trans HB5.out, by have := HB5.out.size; simp at this; omega⟩
                      obtain rfl : g = g' := by simpa using hg'
                      refine ⟨fun he => ?_, (HK5.out g (by simp; omega) (fun e => by have := Option.some.inj (show some g = some wo.heap.size from e); omega)).trans ((Below.heap_alloc _ _ _ hgw).trans HAP.out.2)⟩
                      rcases HT5.out with h | h
                      · rw [h] at he; have := Option.some.inj (show some wo.heap.size = some g from he); omega
                      · rw [h] at he; have := Option.some.inj he; simp at this; omega
                    case measure => simp [intOf]; omega
                  · obtain rfl : ns = [] := List.length_eq_zero_iff.1 (by omega)
                    obtain ⟨sp, cp, rfl⟩ := row_form HOw.out
                    go_wp2
                    go_roundw
                    case rel => exact ⟨k + 1, [], by omega, by go_num, by simp, HST.out, HOw.out, fun g' hg' _ => by
                      obtain rfl : g = g' := by simpa using hg'
                      exact HAP.out, HB.out, hz⟩
                    case measure => simp [intOf]; omega
              · have hf : fol ns q = ns := by unfold fol; rw [if_pos]; right; simpa using hdo
                rw [hf] at HST
                clear hf
                go_wp2
                go_roundw
                case rel => exact ⟨k + 1, ns, by omega, by go_num, by omega, HST.out, HOw.out, fun g' hg' _ => by
                  obtain rfl : g = g' := by simpa using hg'
                  exact HAP.out, HB.out, hz⟩
                case measure => simp [intOf]; omega
            · have hf : fol ns q = ns := by unfold fol; rw [if_pos]; left; simpa using hem
              rw [hf] at HST
              clear hf
              go_wp2
              go_roundw
              case rel => exact ⟨k + 1, ns, by omega, by go_num, by omega, HST.out, HOw.out, fun g' hg' _ => by
                obtain rfl : g = g' := by simpa using hg'
                exact HAP.out, HB.out, hz⟩
              case measure => simp [intOf]; omega
    · obtain rfl : k = ps.length := by omega
      have hkk : ¬ (ps.length : Int) < (ps.length : Int) := by omega
      obtain ⟨sp, cp, rfl⟩ := row_form HOw.out
      clear hown hb hpp hap
      by_cases h16 : 16 < ns.length
      · have h16' : (16 : Int) < (ns.length : Int) := by omega
        have e : splE [] ps = (32, []) := by rw [HR.out, List.drop_length]; show (if 16 < ns.length then _ else _) = _; rw [if_pos h16]
        have HE := Lib.hid e
        clear e h16
        go_wp2
        go_ret2
        exact ⟨_, by rw [HE.out]; rfl, by rw [HE.out]; exact World.ownsRow_nil _ _ _ _, HB.out⟩
      · have h16' : ¬ (16 : Int) < (ns.length : Int) := by omega
        have e : splE [] ps = (0, ns) := by rw [HR.out, List.drop_length]; show (if 16 < ns.length then _ else _) = _; rw [if_neg h16]
        have HE := Lib.hid e
        clear e h16
        go_wp2
        go_ret2
        exact ⟨_, by rw [HE.out]; rfl, by rw [HE.out]; exact HOw.out, HB.out⟩
end Go.Proofs.YthifejdphflfpaaDoor

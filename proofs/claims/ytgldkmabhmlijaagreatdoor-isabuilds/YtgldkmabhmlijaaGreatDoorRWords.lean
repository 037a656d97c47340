/- What Words of the reference answers. -/
import Derived.Test.YtgldkmabhmlijaaGreatDoorRPar
import Derived.Test.YtgldkmabhmlijaaGreatDoorDigits
import Derived.Laws.OwnMore
namespace Go.Proofs.YtgldkmabhmlijaaGreatDoor
open Go.RowKit Go.Sort
def toB (l : List UInt8) : ByteArray := ⟨l.toArray⟩
def bas (l : List (List UInt8)) : List ByteArray := l.map toB
def sts (l : List ByteArray) : List Value := l.map Value.string
theorem toB_list (q : ByteArray) : toB q.data.toList = q := ByteArray.ext (by simp [toB])
theorem list_toB (l : List UInt8) : (toB l).data.toList = l := by simp [toB]
theorem strInfo : (Tryz.prog.info? 9).map (fun i => (i.zero, i.size, i.bytes)) = some (some (.string ⟨#[]⟩), 1, 16) := by kernel_rfl
theorem app_str {W : World} {ops : Array Oper} {rest : List Oper} {o : Oper} {a : Act} {Q : Exit → Act → World → Prop} (hgd : o.guard = none) (s x : Operand)
    (ho : o.op = .call { callee := .builtin .append, args := #[s, x], argTypes := #[36, 36] }) (base : Nat) (v : Value) (xs : List ByteArray) (y : ByteArray) (hs : a.eval s = v) (hown : W.ownsRow base 9 1 v xs.length (sts xs)) (hb : base ≤ W.heap.size) (hn : xs.length < 1099511627778)
    (B : Nat) (hx : a.eval x = .slice (some ⟨B, 0, none⟩) 1 1) (hsrc : W.cell? ⟨B, 0, none⟩ = some (.string y))
    (h : ∀ v' w', w'.ownsRow base 9 1 v' (xs ++ [y]).length (sts (xs ++ [y])) → Below base W w' → W.grownBy w' v.ownBlock → wpList Tryz.prog ops Q rest (a.put o.dst v') w') : wpList Tryz.prog ops Q (o :: rest) a W := by
  obtain ⟨i0, hi, hz0, hz1, hz2⟩ := info_parts strInfo
  refine wpList_append_own _ hgd s x 36 ho base 9 i0 (.string ⟨#[]⟩) 1 16 Tryz.underlying36 hi hz0 hz1 hz2 rfl (by decide) v xs.length (sts xs) hs hown ⟨B, 0, none⟩ 1 1 [.string y] hx rfl (fun j u hu => ?_) (fun u hu => by simp at hu; subst hu; rfl) (by unfold maxLen; omega) (by omega) hb ?_
  · match j, hu with
    | 0, hu => simp at hu; subst hu; simpa [Addr.add] using hsrc
  · intro v' w' h1 h2 _
    refine h v' w' ?_ (Below.grown (Below.refl _ _) h2 hb (fun j hj => (hown.lt j hj).1)) h2
    rw [List.length_append, show sts (xs ++ [y]) = sts xs ++ [.string y] from by simp [sts]]
    exact h1
theorem sts_cells {w : World} {base : Nat} {v : Value} {l : List ByteArray} (h : w.ownsRow base 9 1 v l.length (sts l)) (h1 : 1 ≤ l.length) : ∃ g cap, v = .slice (some ⟨g, 0, none⟩) l.length cap ∧ g < w.heap.size ∧ base ≤ g ∧ ∀ j (hj : j < l.length), w.cell? ⟨g, j, none⟩ = some (.string l[j]) := by
  have hlt := h.lt
  rcases h.2 with ⟨_, h0⟩ | ⟨g, c, cur, hv, _, _⟩
  · omega
  · subst hv
    have hcl := h.cells (g := g) rfl
    have := hlt g rfl
    refine ⟨g, c, rfl, this.2, this.1, fun j hj => ?_⟩
    have := hcl j (.string l[j]) (by unfold sts; rw [List.getElem?_map, List.getElem?_eq_getElem hj]; rfl)
    rcases Nat.eq_zero_or_pos j with rfl | hj0
    · simpa [Addr.add] using this
    · have hj1 : j ≠ 0 := by omega
      simpa [Addr.add, hj1] using this
set_option maxRecDepth 100000 in
set_option maxHeartbeats 2000000 in
theorem Words_any (s : ByteArray) (c : UInt8) (w : World) (hs : s.size < 1000000) : Calls Tryz.prog 18 #[.string s, .int .u8 (c.toNat : Int)] w fun e w' => ∃ v, e = .returned v ∧ w'.ownsRow w.heap.size 9 1 v (bas (wdA c [] s.data.toList)).length (sts (bas (wdA c [] s.data.toList))) ∧ Below w.heap.size w w' := by
  have hl : s.data.toList.length = s.size := by simp
  go_enter Tryz.func18, Tryz.ntmps18
  go_wp2_with fail
  have hO0 : (w.alloc (.cells #[] 9)).ownsRow w.heap.size 9 1 (.slice (some ⟨w.heap.size, 0, none⟩) 0 0) (bas []).length (sts (bas [])) := World.ownsRow_lit (base := w.heap.size) (e := 9) (size := 1) w #[] 0 (Nat.le_refl _) (by decide) rfl
  have hB0 : Below w.heap.size w (w.alloc (.cells #[] 9)) := (Below.refl _ _).alloc (Nat.le_refl _) _
  go_loopw [5, 6, 7] (fun v qv iv wr => ∃ (k : Nat) (O : List (List UInt8)) (q : ByteArray), qv = .string q ∧ iv = .int .i64 k ∧ k ≤ s.size ∧ wdA c [] s.data.toList = O ++ wdA c q.data.toList (s.data.toList.drop k) ∧ O.length ≤ k ∧ q.size ≤ k ∧ wr.ownsRow w.heap.size 9 1 v (bas O).length (sts (bas O)) ∧ Below w.heap.size w wr) (fun _ _ iv _ => s.size - (intOf iv).toNat)
  case atStart => exact ⟨0, [], ⟨#[]⟩, rfl, rfl, by omega, rfl, Nat.le_refl _, Nat.le_refl _, hO0, hB0⟩
  case round =>
    clear hO0 hB0
    obtain ⟨k, O, q, rfl, rfl, hk, hwd, hOk, hqk, how, hbr⟩ := hrel
    have hz := hbr.size
    have HW := Lib.hid hwd
    clear hwd
    have hbl : (bas O).length = O.length := by simp [bas]
    by_cases hlt : k < s.size
    · have hki : (k : Int) < (s.size : Int) := by omega
      have hb : s[k].toNat = byS s k := byS_get s k hlt
      have hb256 := byS_lt s k
      have hdr : s.data.toList.drop k = s[k] :: s.data.toList.drop (k + 1) := by
        rw [List.drop_eq_getElem_cons (by rw [hl]; exact hlt)]; simp [ByteArray.getElem_eq_getElem_data]
      have HD := Lib.hid hdr
      clear hdr
      by_cases he : s[k] = c
      · have hq : ((byS s k : Int) == (c.toNat : Int)) = true := by rw [← hb, he]; simp
        have HN : Hid (wdA c [] s.data.toList = (O ++ [q.data.toList]) ++ wdA c [] (s.data.toList.drop (k + 1))) := by
          simp only [Hid]; rw [HW.out, HD.out, wdA, if_pos he]; simp
        have HOw := Lib.hid (how.alloc (.cells #[.string q] 9))
        have hzA : w.heap.size ≤ (wr.alloc (.cells #[.string q] 9)).heap.size := by simp; omega
        have hbX : Below w.heap.size w (wr.alloc (.cells #[.string q] 9)) := hbr.alloc hz _
        clear how he
        go_wp2_with (at_builtin; refine app_str rfl _ _ rfl w.heap.size u5 (bas O) q rfl HOw.out hzA (by omega) wr.heap.size rfl (by simp [go_sem]) ?_; intro v' w5 hown' hb5 hg5; clear hg5; have HO := Lib.hid hown'; have HB := Lib.hid hb5; clear hown' hb5)
        go_roundw
        case rel =>
          refine ⟨k + 1, O ++ [q.data.toList], ⟨#[]⟩, rfl, by go_num, by omega, HN.out, by rw [List.length_append]; simp; omega, Nat.zero_le _, ?_, hbX.trans (HB.out)⟩
          have : bas (O ++ [q.data.toList]) = bas O ++ [q] := by simp [bas, toB_list]
          rw [this]; exact HO.out
        case measure => simp [intOf]; omega
      · have hq : ((byS s k : Int) == (c.toNat : Int)) = false := by
          rw [← hb]; simp only [beq_eq_false_iff_ne]; intro e; exact he (UInt8.toNat_inj.1 (by omega))
        have HN : Hid (wdA c [] s.data.toList = O ++ wdA c (q.data.toList ++ [s[k]]) (s.data.toList.drop (k + 1))) := by
          simp only [Hid]; rw [HW.out, HD.out, wdA, if_neg he]
        have hcv := conv1 wr (byS s k : Int) (by omega)
        have hdg : UInt8.ofNat ((byS s k : Int)).toNat = s[k] := by rw [← hb]; simp
        rw [hdg] at hcv
        have hsz : q.size + (⟨#[s[k]]⟩ : ByteArray).size ≤ 9223372036854775807 := by
          have : (⟨#[s[k]]⟩ : ByteArray).size = 1 := rfl
          omega
        have hqq : (q ++ ⟨#[s[k]]⟩ : ByteArray).data.toList = q.data.toList ++ [s[k]] := by simp [ByteArray.data_append]
        have hqz : (q ++ ⟨#[s[k]]⟩ : ByteArray).size = q.size + 1 := by rw [ByteArray.size_append]; rfl
        rw [← hqq] at HN
        clear hqq hdg he
        have HQZ := Lib.hid hqz
        have HHow := Lib.hid how
        clear hqz how
        generalize hq2 : (q ++ ⟨#[s[k]]⟩ : ByteArray) = q2 at HN HQZ
        go_wp2
        go_roundw
        case rel => exact ⟨k + 1, O, q2, rfl, by go_num, by omega, HN.out, by omega, by have := HQZ.out; omega, HHow.out.alloc _, hbr.alloc hz _⟩
        case measure => simp [intOf]; omega
    · obtain rfl : k = s.size := by omega
      have hki : ¬ (s.size : Int) < (s.size : Int) := by omega
      have HN : Hid (wdA c [] s.data.toList = O ++ [q.data.toList]) := by
        simp only [Hid]; rw [HW.out, List.drop_eq_nil_of_le (by omega), wdA]
      have HOw := Lib.hid (how.alloc (.cells #[.string q] 9))
      have hzA : w.heap.size ≤ (wr.alloc (.cells #[.string q] 9)).heap.size := by simp; omega
      have hbX : Below w.heap.size w (wr.alloc (.cells #[.string q] 9)) := hbr.alloc hz _
      clear how
      go_wp2_with (at_builtin; refine app_str rfl _ _ rfl w.heap.size u5 (bas O) q rfl HOw.out hzA (by omega) wr.heap.size rfl (by simp [go_sem]) ?_; intro v' w5 hown' hb5 hg5; clear hg5; have HO := Lib.hid hown'; have HB := Lib.hid hb5; clear hown' hb5)
      go_ret
      have : bas (O ++ [q.data.toList]) = bas O ++ [q] := by simp [bas, toB_list]
      refine ⟨_, rfl, ?_, hbX.trans HB.out⟩
      rw [HN.out, this]; exact HO.out
end Go.Proofs.YtgldkmabhmlijaaGreatDoor

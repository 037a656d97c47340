/- The words of a text between bytes: what Words of the reference answers, and that they are the parts of strings.Split. -/
import Derived.Test.YthifejdphflfpaaDoorLives
import Derived.Laws.OwnMore
import Derived.Lib.IndexLaws
import Derived.Lib.IndexBytes
import Derived.Lib.SplitLaws
namespace Go.Proofs.YthifejdphflfpaaDoor
open Go.RowKit Go.Sort
/-- The parts of a text between bytes c; a stands ahead of the first. -/
def wdA (c : UInt8) : List UInt8 → List UInt8 → List (List UInt8)
  | a, [] => [a]
  | a, x :: l => if x = c then a :: wdA c [] l else wdA c (a ++ [x]) l
theorem wdA_miss (c : UInt8) : ∀ (l a : List UInt8), c ∉ l → wdA c a l = [a ++ l]
  | [], a, _ => by simp [wdA]
  | x :: l, a, h => by
    have hx : x ≠ c := fun e => h (by simp [e])
    rw [wdA, if_neg hx, wdA_miss c l _ (fun hm => h (by simp [hm]))]; simp
theorem wdA_hit (c : UInt8) (b : List UInt8) : ∀ (l a : List UInt8), c ∉ l → wdA c a (l ++ c :: b) = (a ++ l) :: wdA c [] b
  | [], a, _ => by simp [wdA]
  | x :: l, a, h => by
    have hx : x ≠ c := fun e => h (by simp [e])
    rw [List.cons_append, wdA, if_neg hx, wdA_hit c b l _ (fun hm => h (by simp [hm]))]; simp
def byS (s : ByteArray) (i : Nat) : Nat := (s.data.getD i 0).toNat
theorem byS_lt (s : ByteArray) (i : Nat) : byS s i < 256 := UInt8.toNat_lt _
theorem byS_get (s : ByteArray) (i : Nat) (h : i < s.size) : s[i].toNat = byS s i := by
  simp [byS, ByteArray.getElem_eq_getElem_data, Array.getD, h]
theorem conv1 (w : World) (x : Int) (h : 0 ≤ x ∧ x < 256) : Sem.run Tryd.prog (convert 51 9 (.slice (some ⟨w.heap.size, 0, none⟩) 1 1)) (w.alloc (.cells #[.int .u8 x] 5)) = .ok (.string ⟨#[UInt8.ofNat x.toNat]⟩) (w.alloc (.cells #[.int .u8 x] 5)) := by
  have := run_convert_bytes_back (P := Tryd.prog) (w.alloc (.cells #[.int .u8 x] 5)) 51 9 5 ⟨w.heap.size, 0, none⟩ 1 [UInt8.ofNat x.toNat] Tryd.underlying51 Tryd.underlying5 Tryd.underlying9 (fun j hj => by
    have hj0 : j = 0 := by simp at hj; exact hj
    subst hj0
    show (w.alloc (.cells #[.int .u8 x] 5)).cell? ⟨w.heap.size, 0, none⟩ = some (.int .u8 ((UInt8.ofNat x.toNat).toNat : Int))
    rw [World.cell?_alloc_new, UInt8.toNat_ofNat']
    simp; omega)
  exact this
def toB (l : List UInt8) : ByteArray := ⟨l.toArray⟩
def bas (l : List (List UInt8)) : List ByteArray := l.map toB
def sts (l : List ByteArray) : List Value := l.map Value.string
theorem toB_list (q : ByteArray) : toB q.data.toList = q := ByteArray.ext (by simp [toB])
theorem list_toB (l : List UInt8) : (toB l).data.toList = l := by simp [toB]
theorem strInfo : (Tryd.prog.info? 9).map (fun i => (i.zero, i.size, i.bytes)) = some (some (.string ⟨#[]⟩), 1, 16) := by kernel_rfl
theorem app_str {W : World} {ops : Array Oper} {rest : List Oper} {o : Oper} {a : Act} {Q : Exit → Act → World → Prop} (hgd : o.guard = none) (s x : Operand)
    (ho : o.op = .call { callee := .builtin .append, args := #[s, x], argTypes := #[44, 44] }) (base : Nat) (v : Value) (xs : List ByteArray) (y : ByteArray) (hs : a.eval s = v) (hown : W.ownsRow base 9 1 v xs.length (sts xs)) (hb : base ≤ W.heap.size) (hn : xs.length < 1099511627778)
    (B : Nat) (hx : a.eval x = .slice (some ⟨B, 0, none⟩) 1 1) (hsrc : W.cell? ⟨B, 0, none⟩ = some (.string y))
    (h : ∀ v' w', w'.ownsRow base 9 1 v' (xs ++ [y]).length (sts (xs ++ [y])) → Below base W w' → W.grownBy w' v.ownBlock → wpList Tryd.prog ops Q rest (a.put o.dst v') w') : wpList Tryd.prog ops Q (o :: rest) a W := by
  obtain ⟨i0, hi, hz0, hz1, hz2⟩ := info_parts' strInfo
  refine wpList_append_own _ hgd s x 44 ho base 9 i0 (.string ⟨#[]⟩) 1 16 Tryd.underlying44 hi hz0 hz1 hz2 rfl (by decide) v xs.length (sts xs) hs hown ⟨B, 0, none⟩ 1 1 [.string y] hx rfl (fun j u hu => ?_) (fun u hu => by simp at hu; subst hu; rfl) (by unfold maxLen; omega) (by omega) hb ?_
  · match j, hu with
    | 0, hu => simp at hu; subst hu; simpa [Addr.add] using hsrc
  · intro v' w' h1 h2 _
    refine h v' w' ?_ (Below.grown (Below.refl _ _) h2 hb (fun j hj => (hown.lt j hj).1)) h2
    rw [List.length_append, show sts (xs ++ [y]) = sts xs ++ [.string y] from by simp [sts]]
    exact h1
theorem sts_cells {w : World} {base : Nat} {v : Value} {l : List ByteArray} (h : w.ownsRow base 9 1 v l.length (sts l)) (h1 : 1 ≤ l.length) : ∃ g cap, v = .slice (some ⟨g, 0, none⟩) l.length cap ∧ g < w.heap.size ∧ base ≤ g ∧ ∀ j (hj : j < l.length), w.cell? ⟨g, j, none⟩ = some (.string l[j]) := by
  have hlt := h.lt
  rcases h.2 with ⟨_, h0⟩ | ⟨g, c, cur, hv, _, _⟩
  · omega
  · subst hv
    have hcl := h.cells (g := g) rfl
    have := hlt g rfl
    refine ⟨g, c, rfl, this.2, this.1, fun j hj => ?_⟩
    have := hcl j (.string l[j]) (by unfold sts; rw [List.getElem?_map, List.getElem?_eq_getElem hj]; rfl)
    rcases Nat.eq_zero_or_pos j with rfl | hj0
    · simpa [Addr.add] using this
    · have hj1 : j ≠ 0 := by omega
      simpa [Addr.add, hj1] using this
set_option maxRecDepth 100000 in
set_option maxHeartbeats 2000000 in
theorem Words_any (s : ByteArray) (c : UInt8) (w : World) (hs : s.size < 1000000) : Calls Tryd.prog 40 #[.string s, .int .u8 (c.toNat : Int)] w fun e w' => ∃ v, e = .returned v ∧ w'.ownsRow w.heap.size 9 1 v (bas (wdA c [] s.data.toList)).length (sts (bas (wdA c [] s.data.toList))) ∧ Below w.heap.size w w' := by
  have hl : s.data.toList.length = s.size := by simp
  go_enter Tryd.func40, Tryd.ntmps40
  go_wp2_with fail
  have hO0 : (w.alloc (.cells #[] 9)).ownsRow w.heap.size 9 1 (.slice (some ⟨w.heap.size, 0, none⟩) 0 0) (bas []).length (sts (bas [])) := World.ownsRow_lit (base := w.heap.size) (e := 9) (size := 1) w #[] 0 (Nat.le_refl _) (by decide) rfl
  have hB0 : Below w.heap.size w (w.alloc (.cells #[] 9)) := (Below.refl _ _).alloc (Nat.le_refl _) _
  go_loopw [5, 6, 7] (fun v qv iv wr => ∃ (k : Nat) (O : List (List UInt8)) (q : ByteArray), qv = .string q ∧ iv = .int .i64 k ∧ k ≤ s.size ∧ wdA c [] s.data.toList = O ++ wdA c q.data.toList (s.data.toList.drop k) ∧ O.length ≤ k ∧ q.size ≤ k ∧ wr.ownsRow w.heap.size 9 1 v (bas O).length (sts (bas O)) ∧ Below w.heap.size w wr) (fun _ _ iv _ => s.size - (intOf iv).toNat)
  case atStart => exact ⟨0, [], ⟨#[]⟩, rfl, rfl, by omega, rfl, Nat.le_refl _, Nat.le_refl _, hO0, hB0⟩
  case round =>
    clear hO0 hB0
    obtain ⟨k, O, q, rfl, rfl, hk, hwd, hOk, hqk, how, hbr⟩ := hrel
    have hz := hbr.size
    have HW := Lib.hid hwd
    clear hwd
    have hbl : (bas O).length = O.length := by simp [bas]
    by_cases hlt : k < s.size
    · have hki : (k : Int) < (s.size : Int) := by omega
      have hb : s[k].toNat = byS s k := byS_get s k hlt
      have hb256 := byS_lt s k
      have hdr : s.data.toList.drop k = s[k] :: s.data.toList.drop (k + 1) := by
        rw [List.drop_eq_getElem_cons (by rw [hl]; exact hlt)]; simp [ByteArray.getElem_eq_getElem_data]
      have HD := Lib.hid hdr
      clear hdr
      by_cases he : s[k] = c
      · have hq : ((byS s k : Int) == (c.toNat : Int)) = true := by rw [← hb, he]; simp
        have HN : Hid (wdA c [] s.data.toList = (O ++ [q.data.toList]) ++ wdA c [] (s.data.toList.drop (k + 1))) := by
          simp only [Hid]; rw [HW.out, HD.out, wdA, if_pos he]; simp
        have HOw := Lib.hid (how.alloc (.cells #[.string q] 9))
        have hzA : w.heap.size ≤ (wr.alloc (.cells #[.string q] 9)).heap.size := by simp; omega
        have hbX : Below w.heap.size w (wr.alloc (.cells #[.string q] 9)) := hbr.alloc hz _
        clear how he
        go_wp2_with (at_builtin; refine app_str rfl _ _ rfl w.heap.size u5 (bas O) q rfl HOw.out hzA (by omega) wr.heap.size rfl (by simp [go_sem]) ?_; intro v' w5 hown' hb5 hg5; clear hg5; have HO := Lib.hid hown'; have HB := Lib.hid hb5; clear hown' hb5)
        go_roundw
        case rel =>
          refine ⟨k + 1, O ++ [q.data.toList], ⟨#[]⟩, rfl, by go_num, by omega, HN.out, by rw [List.length_append]; simp; omega, Nat.zero_le _, ?_, hbX.trans (HB.out)⟩
          have : bas (O ++ [q.data.toList]) = bas O ++ [q] := by simp [bas, toB_list]
          rw [this]; exact HO.out
        case measure => simp [intOf]; omega
      · have hq : ((byS s k : Int) == (c.toNat : Int)) = false := by
          rw [← hb]; simp only [beq_eq_false_iff_ne]; intro e; exact he (UInt8.toNat_inj.1 (by omega))
        have HN : Hid (wdA c [] s.data.toList = O ++ wdA c (q.data.toList ++ [s[k]]) (s.data.toList.drop (k + 1))) := by
          simp only [Hid]; rw [HW.out, HD.out, wdA, if_neg he]
        have hcv := conv1 wr (byS s k : Int) (by omega)
        have hdg : UInt8.ofNat ((byS s k : Int)).toNat = s[k] := by rw [← hb]; simp
        rw [hdg] at hcv
        have hsz : q.size + (⟨#[s[k]]⟩ : ByteArray).size ≤ 9223372036854775807 := by
          have : (⟨#[s[k]]⟩ : ByteArray).size = 1 := rfl
          omega
        have hqq : (q ++ ⟨#[s[k]]⟩ : ByteArray).data.toList = q.data.toList ++ [s[k]] := by simp [ByteArray.data_append]
        have hqz : (q ++ ⟨#[s[k]]⟩ : ByteArray).size = q.size + 1 := by rw [ByteArray.size_append]; rfl
        rw [← hqq] at HN
        clear hqq hdg he
        have HQZ := Lib.hid hqz
        have HHow := Lib.hid how
        clear hqz how
        generalize hq2 : (q ++ ⟨#[s[k]]⟩ : ByteArray) = q2 at HN HQZ
        go_wp2
        go_roundw
        case rel => exact ⟨k + 1, O, q2, rfl, by go_num, by omega, HN.out, by omega, by have := HQZ.out; omega, HHow.out.alloc _, hbr.alloc hz _⟩
        case measure => simp [intOf]; omega
    · obtain rfl : k = s.size := by omega
      have hki : ¬ (s.size : Int) < (s.size : Int) := by omega
      have HN : Hid (wdA c [] s.data.toList = O ++ [q.data.toList]) := by
        simp only [Hid]; rw [HW.out, List.drop_eq_nil_of_le (by omega), wdA]
      have HOw := Lib.hid (how.alloc (.cells #[.string q] 9))
      have hzA : w.heap.size ≤ (wr.alloc (.cells #[.string q] 9)).heap.size := by simp; omega
      have hbX : Below w.heap.size w (wr.alloc (.cells #[.string q] 9)) := hbr.alloc hz _
      clear how
      go_wp2_with (at_builtin; refine app_str rfl _ _ rfl w.heap.size u5 (bas O) q rfl HOw.out hzA (by omega) wr.heap.size rfl (by simp [go_sem]) ?_; intro v' w5 hown' hb5 hg5; clear hg5; have HO := Lib.hid hown'; have HB := Lib.hid hb5; clear hown' hb5)
      go_ret
      have : bas (O ++ [q.data.toList]) = bas O ++ [q] := by simp [bas, toB_list]
      refine ⟨_, rfl, ?_, hbX.trans HB.out⟩
      rw [HN.out, this]; exact HO.out
theorem split_wdA : ∀ (n : Nat) (l : List UInt8), l.length ≤ n → Lib.splitK [47] 0 (Lib.count l [47]) l = wdA 47 [] l
  | 0, l, h => by
    have : l = [] := List.length_eq_zero_iff.1 (by omega)
    subst this; rfl
  | n + 1, l, h => by
    by_cases hi : Lib.indexByte l 47 = -1
    · have hno : (47 : UInt8) ∉ l := fun hm => by
        obtain ⟨k, hk, e⟩ := List.getElem_of_mem hm
        have := Lib.indexByte_none hi k
        rw [List.getElem?_eq_getElem hk, e] at this
        exact this rfl
      have h0 : Lib.count l [47] = 0 := by rw [Lib.count_one]; exact List.count_eq_zero.2 hno
      rw [h0, wdA_miss 47 l [] hno]; rfl
    · have hg := Lib.indexByte_ge l 47
      obtain ⟨i, hi'⟩ : ∃ i : Nat, Lib.indexByte l 47 = (i : Int) := ⟨(Lib.indexByte l 47).toNat, by omega⟩
      obtain ⟨h1, h2⟩ := Lib.indexByte_some hi'
      obtain ⟨hil, hv⟩ := List.getElem?_eq_some_iff.1 h1
      have hsp : l = l.take i ++ 47 :: l.drop (i + 1) := by
        conv => lhs; rw [← List.take_append_drop i l, List.drop_eq_getElem_cons hil, hv]
      have hno : (47 : UInt8) ∉ l.take i := fun hm => by
        obtain ⟨k, hk, e⟩ := List.getElem_of_mem hm
        rw [List.length_take] at hk
        rw [List.getElem_take] at e
        have := h2 k (by omega)
        rw [List.getElem?_eq_getElem (by omega), e] at this
        exact this rfl
      have hc : Lib.count l [47] = Lib.count (l.drop (i + 1)) [47] + 1 := by
        rw [Lib.count_one, Lib.count_one]
        conv => lhs; rw [hsp]
        rw [List.count_append, List.count_cons_self, List.count_eq_zero.2 hno]; omega
      have ih := split_wdA n (l.drop (i + 1)) (by rw [List.length_drop]; omega)
      rw [hc, Lib.splitK, Lib.index_one, hi']
      have hb : ((i : Int) == -1) = false := by rw [beq_eq_false_iff_ne]; omega
      rw [hb]
      simp only [Bool.false_eq_true, if_false, Int.toNat_natCast, Nat.add_zero, List.length_cons, List.length_nil, Nat.zero_add]
      rw [ih]
      conv => rhs; rw [hsp]
      rw [wdA_hit 47 _ _ _ hno, List.nil_append]
theorem parts_bas (s : ByteArray) : partsOf s = bas (wdA 47 [] s.data.toList) := by
  unfold partsOf
  have h1 := Lib.splitB_data ⟨#[47]⟩ 0 (Lib.countB s ⟨#[47]⟩) s
  have h2 : Lib.countB s ⟨#[47]⟩ = Lib.count s.data.toList [47] := rfl
  rw [h2] at h1 ⊢
  rw [show (⟨#[47]⟩ : ByteArray).data.toList = [47] from rfl, split_wdA _ _ (Nat.le_refl _)] at h1
  rw [← h1]
  unfold bas
  rw [List.map_map]
  conv => lhs; rw [← List.map_id (Lib.splitB ⟨#[47]⟩ 0 (Lib.count s.data.toList [47]) s)]
  refine List.map_congr_left fun q _ => ?_
  exact (toB_list q).symm
end Go.Proofs.YthifejdphflfpaaDoor

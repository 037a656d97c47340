/- What List of package isa answers, for every text of a size that can be. -/
import Derived.Test.YtgldkmabhmlijaaDoorJoins
import Derived.Test.YtgldkmabhmlijaaDoorBackLaw
import Derived.Laws.OwnMore
namespace Go.Proofs.YtgldkmabhmlijaaDoor
open Go.RowKit Go.Sort
def sts (l : List ByteArray) : List Value := l.map Value.string
/-- The instructions of the first n times four bytes, if all are. -/
def lisN : List UInt8 → Nat → Option (List Cod)
  | _, 0 => some []
  | l, n + 1 => match decC (tB (l.take 4)) with
    | none => none
    | some c => (lisN (l.drop 4) n).map (c :: ·)
theorem map_map_app (o : Option (List Cod)) (cs : List Cod) (c : Cod) : (o.map (c :: ·)).map (cs ++ ·) = o.map ((cs ++ [c]) ++ ·) := by
  cases o <;> simp
theorem strInfo : (Tryd.prog.info? 9).map (fun i => (i.zero, i.size, i.bytes)) = some (some (.string ⟨#[]⟩), 1, 16) := by kernel_rfl
theorem app_str {W : World} {ops : Array Oper} {rest : List Oper} {o : Oper} {a : Act} {Q : Exit → Act → World → Prop} (hgd : o.guard = none) (s x : Operand)
    (ho : o.op = .call { callee := .builtin .append, args := #[s, x], argTypes := #[29, 29] }) (base : Nat) (v : Value) (xs : List ByteArray) (y : ByteArray) (hs : a.eval s = v) (hown : W.ownsRow base 9 1 v xs.length (sts xs)) (hb : base ≤ W.heap.size) (hn : xs.length < 1099511627778)
    (B : Nat) (hx : a.eval x = .slice (some ⟨B, 0, none⟩) 1 1) (hsrc : W.cell? ⟨B, 0, none⟩ = some (.string y))
    (h : ∀ v' w', w'.ownsRow base 9 1 v' (xs ++ [y]).length (sts (xs ++ [y])) → Below base W w' → wpList Tryd.prog ops Q rest (a.put o.dst v') w') : wpList Tryd.prog ops Q (o :: rest) a W := by
  obtain ⟨i0, hi, hz0, hz1, hz2⟩ := info_parts strInfo
  refine wpList_append_own _ hgd s x 29 ho base 9 i0 (.string ⟨#[]⟩) 1 16 Tryd.underlying29 hi hz0 hz1 hz2 rfl (by decide) v xs.length (sts xs) hs hown ⟨B, 0, none⟩ 1 1 [.string y] hx rfl (fun j u hu => ?_) (fun u hu => by simp at hu; subst hu; rfl) (by unfold maxLen; omega) (by omega) hb ?_
  · match j, hu with
    | 0, hu => simp at hu; subst hu; simpa [Addr.add] using hsrc
  · intro v' w' h1 h2 _
    refine h v' w' ?_ (Below.grown (Below.refl _ _) h2 hb (fun j hj => (hown.lt j hj).1))
    rw [List.length_append, show sts (xs ++ [y]) = sts xs ++ [.string y] from by simp [sts]]
    exact h1
def txts (cs : List Cod) : List ByteArray := cs.map fun c => tB (textC c)
/-- What List owes. -/
def LRs (B : Nat) (LR : Option (List Cod)) (v : Value) (er : Int) (w' : World) : Prop := (LR = none ∧ v = .slice none 0 0 ∧ er = 12) ∨ ∃ cs, LR = some cs ∧ w'.ownsRow B 9 1 v (txts cs).length (sts (txts cs)) ∧ er = 0
set_option maxRecDepth 100000 in
set_option maxHeartbeats 4000000 in
theorem List_no (s : ByteArray) (w : World) (h4 : s.size % 4 ≠ 0) : Calls Tryd.prog 8 #[.string s] w fun e w' => e = .returned (.tuple #[.slice none 0 0, .int .i64 12]) ∧ Below w.heap.size w w' := by
  have hz : (((s.size : Int)).tmod 4 == 0) = false := by
    rw [Int.tmod_eq_emod_of_nonneg (by omega)]; simp only [beq_eq_false_iff_ne]; omega
  go_enter Tryd.func8, Tryd.ntmps8
  go_wp2
  go_ret2
  exact ⟨rfl, Below.refl _ _⟩
set_option maxRecDepth 100000 in
set_option maxHeartbeats 4000000 in
theorem List_yes (s : ByteArray) (N : Nat) (w : World) (hE : Env w) (hs : s.size = 4 * N) (hN : N < 1000000) : Calls Tryd.prog 8 #[.string s] w fun e w' => (∃ v er, e = .returned (.tuple #[v, .int .i64 er]) ∧ LRs w.heap.size (lisN s.data.toList N) v er w') ∧ Below w.heap.size w w' := by
  have hz : (((s.size : Int)).tmod 4 == 0) = true := by
    rw [Int.tmod_eq_emod_of_nonneg (by omega)]; simp only [beq_iff_eq]; omega
  have hz2 : ((s.size : Int)).tmod 4 = 0 := by rw [Int.tmod_eq_emod_of_nonneg (by omega)]; omega
  obtain ⟨LR, hLR⟩ : ∃ LR, LR = lisN s.data.toList N := ⟨_, rfl⟩
  rw [← hLR]
  have HLR := Lib.hid hLR
  have HSN := Lib.hid hs
  clear hLR hs
  go_enter Tryd.func8, Tryd.ntmps8
  go_wp2_with fail
  go_loopw [0, 4] (fun qv v wr => ∃ (m : Nat) (cs : List Cod) (q : ByteArray), qv = .string q ∧ q.size = 4 * m ∧ cs.length + m = N ∧ LR = (lisN q.data.toList m).map (cs ++ ·) ∧ wr.ownsRow w.heap.size 9 1 v (txts cs).length (sts (txts cs)) ∧ Below w.heap.size w wr) (fun qv _ _ => match qv with | .string q => q.size | _ => 0)
  case atStart => exact ⟨N, [], s, rfl, HSN.out, by simp, by rw [HLR.out]; cases lisN s.data.toList N <;> simp, World.ownsRow_nil _ _ _ _, Below.refl _ _⟩
  case round =>
    obtain ⟨m, cs, q, rfl, hq, hcm, hLr, how, hbr⟩ := hrel
    have HL := Lib.hid hLr
    have HQs := Lib.hid hq
    have HCm := Lib.hid hcm
    have hcl : cs.length < 1000000 := by omega
    have hz := hbr.size
    have htl : (txts cs).length = cs.length := List.length_map ..
    clear hLr
    by_cases hm : m = 0
    · have he : q.toList.isEmpty = true := by
        rw [ByteArray.toList_eq, List.isEmpty_iff]
        have : q.data.toList.length = q.size := by simp
        exact List.eq_nil_of_length_eq_zero (by omega)
      have HL2 : Hid (LR = some cs) := by simp only [Hid]; rw [HL.out, hm, lisN]; simp
      have HO := Lib.hid how
      clear how hm hq hcm
      go_wp2
      go_ret2
      exact ⟨⟨_, _, rfl, by rw [HL2.out]; exact .inr ⟨cs, rfl, HO.out, rfl⟩⟩, hbr⟩
    · have he : q.toList.isEmpty = false := by
        rw [ByteArray.toList_eq]
        have : q.data.toList.length = q.size := by simp
        cases hl : q.data.toList with
        | nil => rw [hl] at this; simp at this; omega
        | cons x l => rfl
      obtain ⟨m', rfl⟩ : ∃ m', m = m' + 1 := ⟨m - 1, by omega⟩
      have hq4 : (4 : Int) ≤ (q.size : Int) := by omega
      have hx4 : q.extract 0 4 = tB (q.data.toList.take 4) := by
        apply ByteArray.ext; apply Array.toList_inj.1
        rw [ByteArray.data_extract, Array.toList_extract, tB_list]
        simp
      have hxr : (q.extract 4 q.size).data.toList = q.data.toList.drop 4 := by
        rw [ByteArray.data_extract, Array.toList_extract]
        simp only [List.extract_eq_take_drop]
        exact List.take_of_length_le (by rw [List.length_drop]; simp)
      have hxs : (q.extract 4 q.size).size = 4 * m' := by rw [ByteArray.size_extract]; omega
      have HD := Lib.hid (fun V => Decode_any (q.extract 0 4) V)
      have hln : lisN q.data.toList (m' + 1) = match decC (q.extract 0 4) with | none => none | some c => (lisN (q.data.toList.drop 4) m').map (c :: ·) := by rw [lisN, hx4]
      have HXr := Lib.hid hxr
      have HXs := Lib.hid hxs
      clear hxr hxs hx4 hm hq hcm
      rcases hdc : decC (q.extract 0 4) with _ | c
      · rw [hdc] at HD hln
        have HD' : Hid (∀ V, Calls Tryd.prog 11 #[.string (q.extract 0 4)] V fun e w' => e = .returned (.tuple #[.agg #[.int .i64 0, .int .i64 0, .int .i64 0, .int .i64 0, .int .i64 0], .int .i64 12]) ∧ Below V.heap.size V w') := HD
        have HL2 : Hid (LR = none) := by simp only [Hid]; rw [HL.out, hln]; rfl
        obtain ⟨q4, hq4e⟩ : ∃ q4, q.extract 0 4 = q4 := ⟨_, rfl⟩
        rw [hq4e] at HD'
        clear hln hdc HD how
        go_wp2_with (first | (go_at_call 11; refine (HD'.out _).mono ?_; rintro e w2 ⟨rfl, hb2⟩))
        go_ret2
        first
          | exact ⟨⟨_, _, rfl, by rw [HL2.out]; exact .inl ⟨rfl, rfl, rfl⟩⟩, hbr.trans (hb2.mono hz)⟩
          | exact ⟨⟨_, _, rfl, by rw [HL2.out]; exact .inl ⟨rfl, rfl, rfl⟩⟩, (hbr.trans (hb2.mono hz)).alloc (hbr.trans (hb2.mono hz)).size _⟩
      · rw [hdc] at HD hln
        obtain ⟨hr, _⟩ := dec_some hdc
        have HD' : Hid (∀ V, Calls Tryd.prog 11 #[.string (q.extract 0 4)] V fun e w' => e = .returned (.tuple #[.agg #[.int .i64 c.op, .int .i64 c.a, .int .i64 c.b, .int .i64 c.c, .int .i64 c.n], .int .i64 0]) ∧ Below V.heap.size V w') := HD
        have HTx : Hid (∀ V, Env V → Calls Tryd.prog 7 #[.agg #[.int .i64 c.op, .int .i64 c.a, .int .i64 c.b, .int .i64 c.c, .int .i64 c.n]] V fun e w' => e = .returned (.tuple #[.string (tB (textC c)), .int .i64 0]) ∧ Below V.heap.size V w') := fun V hV => Text_yes c V hV hr
        have HL2 : Hid (LR = (lisN (q.extract 4 q.size).data.toList m').map ((cs ++ [c]) ++ ·)) := by
          simp only [Hid]; rw [HL.out, hln, HXr.out]; simp only; rw [map_map_app]
        have HTt : Hid (txts cs ++ [tB (textC c)] = txts (cs ++ [c])) := by simp only [Hid]; simp [txts]
        obtain ⟨qr, hqr⟩ : ∃ qr, q.extract 4 q.size = qr := ⟨_, rfl⟩
        rw [hqr] at HL2 HXs
        obtain ⟨q4, hq4e⟩ : ∃ q4, q.extract 0 4 = q4 := ⟨_, rfl⟩
        rw [hq4e] at HD'
        generalize tB (textC c) = tb at HTx HTt
        have hEr := hE.below hbr
        have HO := Lib.hid how
        clear hln hdc HD how hr HXr
        go_wp2_with (first | (go_at_call 11; refine (HD'.out _).mono ?_; rintro e w2 ⟨rfl, hb2⟩; refine Hid.out ?_))
        refine Lib.hid ?_
        have hbA : Below w2.heap.size w2 (w2.alloc (.cells #[.int .i64 c.op, .int .i64 c.a, .int .i64 c.b, .int .i64 c.c, .int .i64 c.n] 25)) := (Below.refl _ _).alloc (Nat.le_refl _) _
        have hEa := (hEr.below hb2).below hbA
        have hB2 := hbr.trans (hb2.mono hz)
        have HO2 : Hid (w2.ownsRow w.heap.size 9 1 u4 (txts cs).length (sts (txts cs))) := HO.out.kept (grown_below hb2 none) (by cases hq : u4.ownBlock <;> simp)
        clear hb2
        go_wp2_with (first | (go_at_call 7; refine (HTx.out _ hEa).mono ?_; rintro e w3 ⟨rfl, hb3⟩; refine Hid.out ?_))
        refine Lib.hid ?_
        have hB3 : Below w.heap.size w w3 := (hB2.trans (hbA.mono hB2.size)).trans (hb3.mono (by have := hB2.size; simp; omega))
        have ho3 : w3.ownsRow w.heap.size 9 1 u4 (txts cs).length (sts (txts cs)) := (HO2.out.kept (grown_below hbA none) (by cases hq : u4.ownBlock <;> simp)).kept (grown_below hb3 none) (by cases hq : u4.ownBlock <;> simp)
        have hz3 := hB3.size
        have HO3 := Lib.hid (ho3.alloc (.cells #[.string tb] 9))
        have hzA : w.heap.size ≤ (w3.alloc (.cells #[.string tb] 9)).heap.size := by simp; omega
        have hbX : Below w.heap.size w (w3.alloc (.cells #[.string tb] 9)) := hB3.alloc hz3 _
        clear hB2 hbA hb3 ho3 HO HO2
        go_wp2_with (at_builtin; refine app_str rfl _ _ rfl w.heap.size u4 (txts cs) tb rfl HO3.out hzA (by omega) w3.heap.size rfl (by simp [go_sem]) ?_; intro v' w5 hown' hb5; have HOw := Lib.hid hown'; have HB5 := Lib.hid hb5; clear hown' hb5)
        go_roundw
        case rel =>
          refine ⟨m', cs ++ [c], qr, rfl, HXs.out, by have := HCm.out; simp; omega, HL2.out, ?_, hbX.trans HB5.out⟩
          rw [← HTt.out]; exact HOw.out
        case measure => show qr.size < q.size; have := HXs.out; have := HQs.out; omega
end Go.Proofs.YtgldkmabhmlijaaDoor

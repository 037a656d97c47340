/- What Encode of package dir answers, for every list. -/
import Derived.Test.YthifejdphflfpaaDoorOrdM
import Derived.Lib.AppendStr
import Derived.Lib.ConvBytes
import Derived.Laws.AppendOwn
import Derived.Laws.AppendOwnNone
import Derived.Laws.BitsAllLaws
namespace Go.Proofs.YthifejdphflfpaaDoor
open Go.RowKit Go.Sort
theorem byteInfo : (Tryd.prog.info? 5).map (fun i => (i.zero, i.size, i.bytes)) = some (some (.int .u8 0), 1, 1) := by kernel_rfl
/-- Whatever is no block of bytes is as it was. -/
def Keep8 (w w' : World) : Prop := ∀ (b : Nat) (cs : Array Value) (t : TypeId) (fz : Nat × Nat), w.heap[b]? = some (Obj.cells cs t fz) → t ≠ 5 → w'.heap[b]? = some (Obj.cells cs t fz)
theorem Keep8.tr {a b c : World} (h1 : Keep8 a b) (h2 : Keep8 b c) : Keep8 a c := fun k cs t fz h hn => h2 k cs t fz (h1 k cs t fz h hn) hn
theorem own_not {w : World} {base e size n b : Nat} {v : Value} {xs : List Value} {cs : Array Value} {t : TypeId} {fz : Nat × Nat} (h : w.ownsRow base e size v n xs) (hb : w.heap[b]? = some (.cells cs t fz)) (hne : t ≠ e) : some b ≠ v.ownBlock := by
  intro he
  rcases h.2 with ⟨rfl, _⟩ | ⟨g, cap, cur, rfl, _, hh, _⟩
  · simp [Value.ownBlock] at he
  · simp only [Value.ownBlock, Option.some.injEq] at he
    subst he
    rw [hb] at hh
    simp only [Option.some.injEq, Obj.cells.injEq] at hh
    exact hne hh.2.1
theorem app_u8 {W : World} {ops : Array Oper} {rest : List Oper} {o : Oper} {a : Act} {Q : Exit → Act → World → Prop} (hgd : o.guard = none) (s x : Operand)
    (ho : o.op = .call { callee := .builtin .append, args := #[s, x], argTypes := #[51, 51] }) (base : Nat) (v : Value) (xs : List UInt8) (y c : Int) (hc : y % 256 = c) (hs : a.eval s = v) (hown : W.ownsRow base 5 1 v xs.length (u8s xs)) (hb : base ≤ W.heap.size) (hn : xs.length < 1099511627778)
    (g : Nat) (hg : g = W.heap.size) (hx : a.eval x = .slice (some ⟨g, 0, none⟩) 1 1)
    (h : ∀ v' w', w'.ownsRow base 5 1 v' (xs ++ [bU y]).length (u8s (xs ++ [bU y])) → Below base W w' → Keep8 W w' → wpList Tryd.prog ops Q rest (a.put o.dst v') w') : wpList Tryd.prog ops Q (o :: rest) a (W.alloc (.cells #[.int .u8 c] 5)) := by
  subst hg
  obtain ⟨i0, hi, hz0, hz1, hz2⟩ := info_parts' byteInfo
  have hbW : Below base W (W.alloc (.cells #[.int .u8 c] 5)) := (Below.refl _ _).alloc hb _
  have hoA := hown.alloc (.cells #[.int .u8 c] 5)
  refine wpList_append_own _ hgd s x 51 ho base 5 i0 (.int .u8 0) 1 1 Tryd.underlying51 hi hz0 hz1 hz2 rfl (by decide) v xs.length (u8s xs) hs hoA ⟨W.heap.size, 0, none⟩ 1 1 [.int .u8 c] hx rfl (fun j u hu => ?_) (fun u hu => by simp at hu; subst hu; rfl) (by unfold maxLen; omega) (by omega) (by simp; omega) ?_
  · match j, hu with
    | 0, hu => simp at hu; subst hu; simp [Addr.add, go_sem]
  · intro v' w' h1 h2 _
    refine h v' w' ?_ (Below.grown hbW h2 (by simp; omega) (fun j hj => (hown.lt j hj).1)) (fun b cs t fz hh hne => ?_)
    · rw [List.length_append, u8s_append, u8s_one, hc]; exact h1
    · have hlt := (Array.getElem?_eq_some_iff.1 hh).1
      have hh' : (W.alloc (.cells #[.int .u8 c] 5)).heap[b]? = some (.cells cs t fz) := (Below.heap_alloc _ _ _ hlt).trans hh
      exact (h2.block b (by simp; omega) (own_not hoA hh' hne)).trans hh'
theorem app_text {W : World} {ops : Array Oper} {rest : List Oper} {o : Oper} {a : Act} {Q : Exit → Act → World → Prop} (hgd : o.guard = none) (s x : Operand)
    (ho : o.op = .call { callee := .builtin .append, args := #[s, x], argTypes := #[51, 9] }) (base : Nat) (v : Value) (xs : List UInt8) (y : ByteArray) (hs : a.eval s = v) (hown : W.ownsRow base 5 1 v xs.length (u8s xs)) (hb : base ≤ W.heap.size) (hn : xs.length + y.size < 1099511627778)
    (hx : a.eval x = .string y)
    (h : ∀ v' w', w'.ownsRow base 5 1 v' (xs ++ y.data.toList).length (u8s (xs ++ y.data.toList)) → Below base W w' → Keep8 W w' → wpList Tryd.prog ops Q rest (a.put o.dst v') w') : wpList Tryd.prog ops Q (o :: rest) a W := by
  obtain ⟨i0, hi, hz0, hz1, hz2⟩ := info_parts' byteInfo
  refine Lib.wpList_append_own_string _ hgd s x 51 9 ho base 5 i0 Tryd.underlying51 Tryd.underlying9 hi hz0 hz1 hz2 v xs.length (u8s xs) hs hown y hx (by unfold maxLen; omega) (by omega) hb ?_
  intro v' w' h1 h2 _
  refine h v' w' ?_ (Below.grown (Below.refl _ _) h2 hb (fun j hj => (hown.lt j hj).1)) (fun b cs t fz hh hne => ?_)
  · rw [List.length_append, u8s_append, show y.data.toList.length = y.size from by simp, show u8s y.data.toList = Lib.strCells y from rfl]
    exact h1
  · exact (h2.block b (Array.getElem?_eq_some_iff.1 hh).1 (own_not hown hh hne)).trans hh
theorem nm_cells {w : World} {b : Nat} {m : Nm} (h : w.heap[b]? = some (nmB m)) : NmAt w b 0 m := by
  refine ⟨?_, ?_, ?_⟩ <;> (simp only [World.cell?, h, nmB]; rfl)
/-- The bytes of a list that is a directory. -/
def encE (l : List Nm) : Int := if rightL l = true then 0 else 2
def encS (l : List Nm) : ByteArray := if rightL l = true then ⟨(encB l).toArray⟩ else ⟨#[]⟩
set_option maxRecDepth 100000 in
set_option maxHeartbeats 2000000 in
theorem Encode_any (p : Option Addr) (cap : Nat) (l : List Nm) (w : World) (hm : l.length ≤ maxLen) (hc : NsAt w p l) :
    Calls Tryd.prog 14 #[.slice p l.length cap] w fun e w' => e = .returned (.tuple #[.string (encS l), .int .i64 (encE l)]) ∧ Below w.heap.size w w' := by
  have HRT := Lib.hid (Right_any p cap l w hm hc)
  cases hr : rightL l
  · rw [hr] at HRT
    have h1 : encE l = 2 := by unfold encE; rw [if_neg (by simp [hr])]
    have h2 : encS l = ⟨#[]⟩ := by unfold encS; rw [if_neg (by simp [hr])]
    rw [h1, h2]
    go_enter Tryd.func14, Tryd.ntmps14
    go_wp2_with (go_at_call 12; refine HRT.out.mono ?_; rintro e w1 ⟨rfl, hb1⟩)
    go_ret2
    exact ⟨rfl, hb1⟩
  · rw [hr] at HRT
    have h1 : encE l = 0 := by unfold encE; rw [if_pos hr]
    have h2 : encS l = ⟨(encB l).toArray⟩ := by unfold encS; rw [if_pos hr]
    rw [h1, h2]
    clear h1 h2
    obtain ⟨hg, _, hsz⟩ := right_all hr
    have HG := Lib.hid (List.all_eq_true.1 hg)
    have hln := right_len hr
    have HLEN := Lib.hid (fun k => encB_len (l.take k))
    have HSZ := Lib.hid (fun k => Int.le_trans (sizeL_take l k) hsz)
    clear hg hr hsz
    go_enter Tryd.func14, Tryd.ntmps14
    go_wp2_with (go_at_call 12; refine HRT.out.mono ?_; rintro e w1 ⟨rfl, hb1⟩; refine Hid.out ?_)
    refine Lib.hid ?_
    go_wp2_with fail
    go_loopw [4, 13] (fun r i wr => ∃ k : Nat, k ≤ l.length ∧ i = .int .i64 k ∧ wr.ownsRow w.heap.size 5 1 r (encB (l.take k)).length (u8s (encB (l.take k))) ∧ Below w.heap.size w wr) (fun _ i _ => l.length - (intOf i).toNat)
    case atStart => exact ⟨0, Nat.zero_le _, rfl, World.ownsRow_nil _ _ _ _, hb1⟩
    case round =>
      obtain ⟨k, hk, rfl, hown, hB⟩ := hrel
      obtain ⟨wo, rfl⟩ : ∃ wo, wo = wr := ⟨_, rfl⟩
      have hz := hB.size
      clear hb1
      by_cases hlt : k < l.length
      · obtain ⟨b, off, rfl, hbl, hq⟩ := hc k hlt
        obtain ⟨c0, c1, c2⟩ := hq.below hB hbl
        have hbw : b < wo.heap.size := Nat.lt_of_lt_of_le hbl hz
        have hgs := goodN_size (HG.out _ (List.getElem_mem hlt))
        have HT := Lib.hid (encB_take l k hlt)
        have hel := HLEN.out k
        have hes := HSZ.out k
        have hll : (encB (l.take k)).length ≤ 4096 := by omega
        obtain ⟨m, hmm⟩ : ∃ m, l[k] = m := ⟨_, rfl⟩
        obtain ⟨O, hO⟩ : ∃ O, encB (l.take k) = O := ⟨_, rfl⟩
        rw [hmm] at c0 c1 c2 hgs HT
        rw [hO] at HT hll hown
        have hki : (k : Int) < (l.length : Int) := by omega
        clear hc hq hmm hO hel hes
        obtain ⟨X, hX⟩ : ∃ X, wo.alloc (.cells #[.string m.nm, .int .i64 m.kd, .int .i64 m.id] 25) = X := ⟨_, rfl⟩
        have hXs : w.heap.size ≤ X.heap.size := by rw [← hX]; simp; omega
        have hXm : X.heap[wo.heap.size]? = some (nmB m) := by rw [← hX]; exact heap_new _ _
        have hXB : Below w.heap.size w X := by rw [← hX]; exact hB.alloc hz _
        have hXo : X.ownsRow w.heap.size 5 1 u4 O.length (u8s O) := by rw [← hX]; exact hown.alloc _
        obtain ⟨e0, e1, e2⟩ := nm_cells hXm
        have HXo := Lib.hid hXo
        have HXB := Lib.hid hXB
        have HXm := Lib.hid hXm
        clear hown hXo hXB hXm
        go_wp2_with (at_builtin; refine app_u8 rfl _ _ rfl w.heap.size u4 O m.nm.size _ (by omega) rfl HXo.out hXs (by omega) X.heap.size rfl rfl ?_; intro v2 w2 ho2 hb2 hk2; refine Hid.out ?_)
        refine Lib.hid ?_
        have HM2 := Lib.hid (hk2 _ _ _ _ HXm.out (by decide))
        have HB2 := Lib.hid (HXB.out.trans hb2)
        have HO2 := Lib.hid ho2
        have hz2 : w.heap.size ≤ w2.heap.size := HB2.out.size
        clear hk2 ho2 hb2 e0 e1 e2 hX hXs HXo HXB HXm
        obtain ⟨e0, e1, e2⟩ := nm_cells HM2.out
        have hl2 : (O ++ [bU m.nm.size]).length + m.nm.size < 1099511627778 := by simp; omega
        go_wp2_with (at_builtin; refine app_text rfl _ _ rfl w.heap.size v2 _ m.nm rfl HO2.out hz2 hl2 rfl ?_; intro v3 w3 ho3 hb3 hk3; refine Hid.out ?_)
        refine Lib.hid ?_
        have HM3 := Lib.hid (hk3 _ _ _ _ HM2.out (by decide))
        have HB3 := Lib.hid (HB2.out.trans hb3)
        have HO3 := Lib.hid ho3
        have hz3 : w.heap.size ≤ w3.heap.size := HB3.out.size
        clear hk3 ho3 hb3 e0 e1 e2 HO2 HM2 hz2 hl2
        obtain ⟨e0, e1, e2⟩ := nm_cells HM3.out
        have hl3 : (O ++ [bU m.nm.size] ++ m.nm.data.toList).length < 1099511627778 := by
          have : m.nm.data.toList.length = m.nm.size := by simp
          rw [List.length_append, List.length_append, this]; simp; omega
        go_wp2_with (at_builtin; refine app_u8 rfl _ _ rfl w.heap.size v3 _ m.kd _ (by omega) rfl HO3.out hz3 hl3 w3.heap.size rfl rfl ?_; intro v4 w4 ho4 hb4 hk4; refine Hid.out ?_)
        refine Lib.hid ?_
        have HM4 := Lib.hid (hk4 _ _ _ _ HM3.out (by decide))
        have HB4 := Lib.hid (HB3.out.trans hb4)
        have HO4 := Lib.hid ho4
        have hP : encB (l.take (k + 1)) = (O ++ [bU m.nm.size] ++ m.nm.data.toList ++ [bU m.kd]) ++ numK m.id 8 := by rw [HT.out, entB]; simp
        have hPl : (O ++ [bU m.nm.size] ++ m.nm.data.toList ++ [bU m.kd]).length < 1000000 := by
          have : m.nm.data.toList.length = m.nm.size := by simp
          rw [List.length_append, List.length_append, List.length_append, this]; simp; omega
        obtain ⟨P, hPP⟩ : ∃ P, O ++ [bU m.nm.size] ++ m.nm.data.toList ++ [bU m.kd] = P := ⟨_, rfl⟩
        rw [hPP] at hP hPl HO4
        have HP := Lib.hid hP
        clear hk4 ho4 hb4 e0 e1 e2 HO3 HM3 hz3 hl3 hP hPP HT
        go_wp2_with fail
        go_loopw [4, 34] (fun r i w5 => ∃ j : Nat, j ≤ 8 ∧ i = .int .i64 j ∧ w5.ownsRow w.heap.size 5 1 r (P ++ numK m.id j).length (u8s (P ++ numK m.id j)) ∧ Below w.heap.size w w5 ∧ w5.heap[wo.heap.size]? = some (nmB m)) (fun _ i _ => 8 - (intOf i).toNat)
        case atStart => exact ⟨0, by omega, rfl, by simp only [numK, List.range_zero, List.map_nil, List.append_nil]; exact HO4.out, HB4.out, HM4.out⟩
        case round =>
          obtain ⟨j, hj, rfl, hown, hB5, hM5⟩ := hrel
          obtain ⟨e0, e1, e2⟩ := nm_cells hM5
          have hz5 := hB5.size
          clear HB4 HM4 HO4
          by_cases hlt2 : j < 8
          · have hj8 : (j : Int) < 8 := by omega
            have hNl : (P ++ numK m.id j).length < 1099511627778 := by rw [List.length_append, numK_len]; omega
            have HN := Lib.hid (numK_succ m.id j)
            have HOw := Lib.hid hown
            have HM5 := Lib.hid hM5
            clear hown hM5
            go_wp2_with (at_builtin; refine app_u8 rfl _ _ rfl w.heap.size u4 (P ++ numK m.id j) (m.id / 2 ^ (8 * j)) _ rfl rfl HOw.out hz5 hNl wr.heap.size rfl rfl ?_; intro v6 w6 ho6 hb6 hk6; have HO6 := Lib.hid ho6; have HM6 := Lib.hid (hk6 _ _ _ _ HM5.out (by decide)); have HB6 := Lib.hid hb6; clear ho6 hb6 hk6)
            go_roundw
            case rel =>
              exact ⟨j + 1, by omega, by go_num, by rw [HN.out, ← List.append_assoc]; exact HO6.out, hB5.trans HB6.out, HM6.out⟩
            case measure => simp [intOf]; omega
          · obtain rfl : j = 8 := by omega
            have hj8 : ¬ ((8 : Nat) : Int) < 8 := by omega
            go_wp2
            go_roundw
            case rel => exact ⟨k + 1, by omega, by go_num, by rw [HP.out]; exact hown, hB5⟩
            case measure => simp [intOf]; omega
      · obtain rfl : k = l.length := by omega
        have hkk : ¬ (l.length : Int) < (l.length : Int) := by omega
        rw [List.take_length] at hown
        obtain ⟨S, hS⟩ : ∃ S, encB l = S := ⟨_, rfl⟩
        rw [hS] at hown
        have HS := Lib.hid hS
        clear hS
        rcases hown.2 with ⟨rfl, h0⟩ | ⟨g, c, _, hv, _⟩
        · have := List.length_eq_zero_iff.1 h0
          subst this
          clear hown
          have hcv : ∀ w, Sem.run Tryd.prog (convert 51 9 (.slice none 0 0)) w = .ok (.string ⟨#[]⟩) w := fun w => by
            rw [run_convert_bytes_string w 51 9 5 none 0 0 Tryd.underlying51 Tryd.underlying5 Tryd.underlying9]
            rfl
          go_wp2
          go_ret2
          exact ⟨by rw [HS.out]; rfl, hB⟩
        · subst hv
          have hcl := hown.cells (g := g) rfl
          have hcv := run_convert_bytes_back (P := Tryd.prog) wo 51 9 5 ⟨g, 0, none⟩ c S Tryd.underlying51 Tryd.underlying5 Tryd.underlying9 (fun j hj => hcl j _ (by unfold u8s; rw [List.getElem?_map, List.getElem?_eq_getElem hj]; rfl))
          clear hown hcl
          go_wp2
          go_ret2
          exact ⟨by rw [HS.out]; rfl, hB⟩
end Go.Proofs.YthifejdphflfpaaDoor

/- What must lie in memory for label's texts, and what parseEntry of package label answers. -/
import Derived.Test.YtfpjeclbilhgdaaDoorTextsM
import Derived.Test.YtfpjeclbilhgdaaDoorShelf2
import Derived.Lib.Hide
namespace Go.Proofs.YtfpjeclbilhgdaaDoor
open Go.RowKit Go.Sort
def Pow (w : World) : Prop := Lib.TabIs Tryd.prog w "internal/strconv.uint64pow10" .u64 Lib.pow10Tab
/-- What the package variables hold, as far as anything here asks it. -/
structure Env (w : World) : Prop where
  big : 6 ≤ w.heap.size
  pow : Pow w
  ml : ∃ m, w.cell? ⟨1, 0, none⟩ = some (.int .i64 m)
theorem powNamed : Tryd.prog.globalNamed "internal/strconv.uint64pow10" = some 0 := by kernel_rfl
theorem Env.keep {w w' : World} {n : Nat} (h : Env w) (hb : Below n w w') (hn : 6 ≤ n) : Env w' where
  big := Nat.le_trans h.big hb.size
  pow := by
    have hp := h.pow
    unfold Pow Lib.TabIs World.var? at hp ⊢
    rw [powNamed] at hp ⊢
    simp only [Option.bind_some] at hp ⊢
    rw [hb.block _ (by omega)]
    exact hp
  ml := by obtain ⟨m, hm⟩ := h.ml; exact ⟨m, (hb.cell (p := ⟨1, 0, none⟩) (by show 1 < n; omega)).trans hm⟩
theorem Env.below {w w' : World} (h : Env w) (hb : Below w.heap.size w w') : Env w' := h.keep hb h.big
theorem pcT_F (s : ByteArray) : ∀ k, k ≤ s.size → pcT s k = pcF (s.data.toList.take k)
  | 0, _ => rfl
  | k + 1, h => by
    have hl : s.data.toList.length = s.size := by simp
    rw [pcT, pcT_F s k (by omega), List.take_succ_eq_append_getElem (by omega), pcF_snoc]
    have hb : s[k].toNat = byS s k := byS_get s k (by omega)
    have hg : s.data.toList[k]'(by omega) = s[k] := by simp [ByteArray.getElem_eq_getElem_data]
    rw [hg, hb]
theorem pcS_F (s : ByteArray) : pcS s = (pcF s.data.toList).getD 0 := by
  have hl : s.data.toList.length = s.size := by simp
  unfold pcS
  rw [pcT_F s s.size (Nat.le_refl _), ← hl, List.take_length]
theorem plS_L (s : ByteArray) : plS s = lvL s.data.toList := by
  have hl : s.data.toList.length = s.size := by simp
  unfold plS
  split
  · rename_i h1
    obtain ⟨x, hx⟩ : ∃ x, s.data.toList = [x] := List.length_eq_one_iff.1 (by omega)
    have hb : byS s 0 = x.toNat := by
      have h0 : s[0].toNat = byS s 0 := byS_get s 0 (by omega)
      have hg : s.data.toList[0]'(by omega) = s[0] := by simp [ByteArray.getElem_eq_getElem_data]
      rw [← h0, ← hg]; simp [hx]
    rw [hb, hx]
    unfold plv lvL
    have key : ∀ n : Nat, n < 256 → (x.toNat = n ↔ x = UInt8.ofNat n) := fun n hn => by
      rw [← UInt8.toNat_inj, UInt8.toNat_ofNat']; constructor <;> intro h <;> omega
    by_cases e1 : x.toNat = 42
    · rw [if_pos e1, (key 42 (by decide)).1 e1]; rfl
    · by_cases e2 : x.toNat = 48
      · rw [if_neg e1, if_pos e2, (key 48 (by decide)).1 e2]; rfl
      · by_cases e3 : x.toNat = 49
        · rw [if_neg e1, if_neg e2, if_pos e3, (key 49 (by decide)).1 e3]; rfl
        · by_cases e4 : x.toNat = 50
          · rw [if_neg e1, if_neg e2, if_neg e3, if_pos e4, (key 50 (by decide)).1 e4]; rfl
          · by_cases e5 : x.toNat = 51
            · rw [if_neg e1, if_neg e2, if_neg e3, if_neg e4, if_pos e5, (key 51 (by decide)).1 e5]; rfl
            · by_cases e6 : x.toNat = 74
              · rw [if_neg e1, if_neg e2, if_neg e3, if_neg e4, if_neg e5, if_pos e6, (key 74 (by decide)).1 e6]; rfl
              · rw [if_neg e1, if_neg e2, if_neg e3, if_neg e4, if_neg e5, if_neg e6]
                split <;> first | rfl | (rename_i h; simp only [List.cons.injEq, and_true] at h; subst h; exact absurd rfl ‹_›)
  · rename_i h1
    unfold lvL
    split <;> first | rfl | (rename_i h; rw [h] at hl; exact absurd hl.symm h1)
theorem en_bool (l : List UInt8) : (enL l).isSome = (decide (0 < (pcF (Lib.cut l [58]).1).getD 0) && (lvL (Lib.cut l [58]).2.1).isSome) := by
  unfold enL
  cases pcF (Lib.cut l [58]).1 with
  | none => simp
  | some n =>
    cases lvL (Lib.cut l [58]).2.1 with
    | none => simp
    | some v => simp only [Option.getD_some]; by_cases h : 0 < n <;> simp [h]
theorem en_val {l : List UInt8} {x : Int × Int} (h : enL l = some x) : (pcF (Lib.cut l [58]).1).getD 0 = x.1 ∧ (lvL (Lib.cut l [58]).2.1).getD 0 = x.2 := by
  unfold enL at h
  split at h
  · rename_i n v hn hv
    split at h
    · cases h; rw [hn, hv]; exact ⟨rfl, rfl⟩
    · cases h
  · cases h
set_option maxRecDepth 100000 in
set_option maxHeartbeats 2000000 in
theorem parseEntry_any (s : ByteArray) (w : World) (hE : Env w) (hs : s.size < 4294967281) : Calls Tryd.prog 20 #[.string s] w fun e w' => (∃ a b, e = .returned (.tuple #[.agg #[.int .i64 a, .int .i64 b], .bool (enL s.data.toList).isSome]) ∧ ∀ x, enL s.data.toList = some x → a = x.1 ∧ b = x.2) ∧ Below w.heap.size w w' := by
  have hbA : Below w.heap.size w (w.alloc (.cells #[.int .i64 0, .int .i64 0] 35)) := (Below.refl _ _).alloc (Nat.le_refl _) _
  obtain ⟨m, hm⟩ := (hE.below hbA).ml
  have hC := Tryd.strings_Cut s ⟨#[58]⟩ m _ hs hm
  have HC : Hid (Calls Tryd.prog 42 #[.string s, .string ⟨#[58]⟩] (w.alloc (.cells #[.int .i64 0, .int .i64 0] 35)) fun e w' => e = .returned (.tuple #[.string ⟨(Lib.cut s.data.toList [58]).1.toArray⟩, .string ⟨(Lib.cut s.data.toList [58]).2.1.toArray⟩, .bool (Lib.cut s.data.toList [58]).2.2]) ∧ ∃ n, w' = (w.alloc (.cells #[.int .i64 0, .int .i64 0] 35)).drewN n) := hC
  have hb0 := en_bool s.data.toList
  have HV := Lib.hid (fun x => @en_val s.data.toList x)
  have hcl : (Lib.cut s.data.toList [58]).1.length ≤ s.size := by
    have hl : s.data.toList.length = s.size := by simp
    unfold Lib.cut; split <;> simp <;> omega
  obtain ⟨cu, hcu⟩ : ∃ cu, cu = Lib.cut s.data.toList [58] := ⟨_, rfl⟩
  rw [← hcu] at HC hb0 hcl HV
  clear hcu hC
  obtain ⟨bf, ⟨af, fd⟩⟩ := cu
  dsimp only at HC hb0 hcl HV
  have HP := Lib.hid (fun V => parseCat_any ⟨bf.toArray⟩ V (by show bf.length ≤ maxLen; unfold maxLen; omega))
  have HLv := Lib.hid (fun V => parseLevel_any ⟨af.toArray⟩ V)
  simp only [pcS_F, plS_L] at HP HLv
  rw [hb0]
  clear hb0
  generalize (pcF bf).getD 0 = cn at HP HV ⊢
  generalize decide (0 < cn) = db at HP ⊢
  generalize lvL af = lo at HLv HV ⊢
  generalize (enL s.data.toList) = EL at HV ⊢
  go_enter Tryd.func20, Tryd.ntmps20
  go_wp2_with (first
    | (go_at_call 42; refine HC.out.mono ?_; rintro e w1 ⟨rfl, k1, hk1⟩; have hb1 : RowKit.Below (w.alloc (.cells #[.int .i64 0, .int .i64 0] 35)).heap.size (w.alloc (.cells #[.int .i64 0, .int .i64 0] 35)) w1 := (by rw [hk1]; exact ⟨rfl, rfl, rfl, Nat.le_refl _, fun _ _ => rfl⟩); clear hk1; refine Hid.out ?_))
  refine Lib.hid ?_
  go_wp2_with (first
    | (go_at_call 43; refine (HP.out _).mono ?_; rintro e w2 ⟨rfl, hb2⟩)
    | (go_at_call 19; refine (HLv.out _).mono ?_; rintro e w3 ⟨rfl, hb3⟩; refine Hid.out ?_))
  refine Lib.hid ?_
  have hb12 := hb1.trans (hb2.mono hb1.size)
  have hb13 := hb12.trans (hb3.mono hb12.size)
  have r0 : w3.cell? ⟨w.heap.size, 0, none⟩ = some (.int .i64 0) := (hb13.cell (p := ⟨w.heap.size, 0, none⟩) (by simp)).trans (by simp [go_sem])
  have r1 : w3.cell? ⟨w.heap.size, 1, none⟩ = some (.int .i64 0) := (hb13.cell (p := ⟨w.heap.size, 1, none⟩) (by simp)).trans (by simp [go_sem])
  have rf : ∀ o, w3.frozen? ⟨w.heap.size, o, none⟩ = false := fun o => (hb13.frozen (p := ⟨w.heap.size, o, none⟩) (by simp)).trans (by simp [go_sem])
  have f0 := rf 0
  have f1 := rf 1
  have HB3 : Hid (Below w.heap.size w w3) := hbA.trans (hb13.mono (by simp))
  clear hb1 hb2 hb3 hb12 hb13 hbA rf
  have HX : Hid (Below w.heap.size w ((w3.setCell ⟨w.heap.size, 0, none⟩ (.int .i64 cn)).setCell ⟨w.heap.size, 1, none⟩ (.int .i64 (lo.getD 0)))) := (HB3.out.setCell (p := ⟨w.heap.size, 0, none⟩) (Nat.le_refl _) _).setCell (p := ⟨w.heap.size, 1, none⟩) (Nat.le_refl _) _
  cases db with
  | true =>
    go_wp2
    exact bodyPost_ret (v := .tuple #[.agg #[.int .i64 cn, .int .i64 (lo.getD 0)], .bool lo.isSome]) (by simp [results, Tryd.results20, go_sem, r0, r1]) rfl ⟨⟨cn, lo.getD 0, by rw [Bool.true_and], fun x hx => HV.out x hx⟩, HX.out⟩
  | false =>
    go_wp2
    exact bodyPost_ret (v := .tuple #[.agg #[.int .i64 cn, .int .i64 (lo.getD 0)], .bool false]) (by simp [results, Tryd.results20, go_sem, r0, r1]) rfl ⟨⟨cn, lo.getD 0, by rw [Bool.false_and], fun x hx => HV.out x hx⟩, HX.out⟩
end Go.Proofs.YtfpjeclbilhgdaaDoor

/- What Parse of package label answers, for every text of a size that can be. -/
import Derived.Test.YtfpjeclbilhgdaaDoorParseE
import Derived.Test.YtfpjeclbilhgdaaDoorRightL
namespace Go.Proofs.YtfpjeclbilhgdaaDoor
open Go.RowKit Go.Sort
def preW : List (List UInt8) → Option (Int × List (Int × Int))
  | [] => none
  | w :: ws => match lvL w, allE ws with
    | some d, some xs => some (d, xs)
    | _, _ => none
theorem hasP (L : List UInt8) : Lib.hasPrefix L [123] = true ↔ L.head? = some 123 := by
  unfold Lib.hasPrefix
  cases L with
  | nil => simp
  | cons x t => simp [List.isPrefixOf]; exact eq_comm
theorem sufS (L : List UInt8) : Lib.hasSuffix L [125] = true ↔ L.getLast? = some 125 := by
  unfold Lib.hasSuffix
  constructor
  · intro h
    obtain ⟨t, ht⟩ := List.isSuffixOf_iff_suffix.1 h
    rw [← ht, List.getLast?_concat]
  · intro h
    rw [List.isSuffixOf_iff_suffix]
    refine ⟨L.dropLast, ?_⟩
    have hne : L ≠ [] := fun e => by subst e; cases h
    have := List.dropLast_concat_getLast hne
    rw [List.getLast?_eq_some_getLast hne] at h
    rw [← Option.some.inj h]; exact this
/-- The words of a text between its braces. -/
def wdsL (L : List UInt8) : List (List UInt8) := Lib.splitK [32] 0 (min 18 ((Lib.trimSuffix (Lib.trimPrefix L [123]) [125]).length + 1) - 1) (Lib.trimSuffix (Lib.trimPrefix L [123]) [125])
theorem pre_of (L : List UInt8) : preL L = if Lib.hasPrefix L [123] = true ∧ Lib.hasSuffix (Lib.trimPrefix L [123]) [125] = true then preW (wdsL L) else none := by
  by_cases h1 : Lib.hasPrefix L [123] = true
  · have e1 : Lib.trimPrefix L [123] = L.tail := by
      unfold Lib.trimPrefix; rw [if_pos h1]; simp
    by_cases h2 : Lib.hasSuffix (Lib.trimPrefix L [123]) [125] = true
    · have e2 : Lib.trimSuffix (Lib.trimPrefix L [123]) [125] = L.tail.dropLast := by
        unfold Lib.trimSuffix; rw [if_pos h2, e1, List.dropLast_eq_take]; rfl
      rw [if_pos ⟨h1, h2⟩]
      rw [e1] at h2
      unfold preL wdsL
      rw [if_pos ⟨(hasP L).1 h1, (sufS _).1 h2⟩, e2]
      cases Lib.splitK [32] 0 (min 18 (L.tail.dropLast.length + 1) - 1) L.tail.dropLast <;> rfl
    · rw [if_neg (fun h => h2 h.2)]
      rw [e1] at h2
      unfold preL
      rw [if_neg (fun h => h2 ((sufS _).2 h.2))]
  · rw [if_neg (fun h => h1 h.1)]
    unfold preL
    rw [if_neg (fun h => h1 ((hasP L).2 h.1))]
theorem allE_snoc : ∀ (a : List (List UInt8)) (w : List UInt8), allE (a ++ [w]) = match allE a, enL w with | some xs, some x => some (xs ++ [x]) | _, _ => none
  | [], w => by
    rw [List.nil_append, allE, allE, allE]
    cases enL w <;> rfl
  | b :: a, w => by
    rw [List.cons_append, allE, allE_snoc a w, allE]
    cases enL b with
    | none => cases allE a <;> cases enL w <;> rfl
    | some y => cases allE a <;> cases enL w <;> rfl
theorem allE_bad : ∀ {ws : List (List UInt8)} {w : List UInt8}, w ∈ ws → enL w = none → allE ws = none
  | b :: ws, w, h, hw => by
    rw [allE]
    rcases List.mem_cons.1 h with rfl | h
    · rw [hw]
    · rw [allE_bad h hw]; cases enL b <;> rfl
def pD (o : Option (Int × List (Int × Int))) : Int := match o with | none => 0 | some x => rD x.1 x.2
def pX (o : Option (Int × List (Int × Int))) : List (Int × Int) := match o with | none => [] | some x => rL x.1 x.2
def pE (o : Option (Int × List (Int × Int))) : Int := match o with | none => 2 | some x => rE x.1 x.2
theorem splitB_sizes (sep : ByteArray) : ∀ (k : Nat) (s : ByteArray), ∀ x ∈ Lib.splitB sep 0 k s, x.size ≤ s.size
  | 0, s, x, hx => by simp [Lib.splitB] at hx; rw [hx]; exact Nat.le_refl _
  | k + 1, s, x, hx => by
    rw [Lib.splitB] at hx
    split at hx
    · simp at hx; rw [hx]; exact Nat.le_refl _
    · rcases List.mem_cons.1 hx with rfl | hx
      · rw [ByteArray.size_extract]; omega
      · have := splitB_sizes sep k _ x hx
        rw [ByteArray.size_extract] at this; omega
set_option maxRecDepth 100000 in
set_option maxHeartbeats 4000000 in
theorem Parse_any (s : ByteArray) (w : World) (hE : Env w) (hs : s.size < 4294967281) : Calls Tryd.prog 7 #[.string s] w fun e w' => ∃ v, e = .returned (.tuple #[.agg #[.int .i64 (pD (preL s.data.toList)), v], .int .i64 (pE (preL s.data.toList))]) ∧ Rw w.heap.size w' v (pX (preL s.data.toList)) ∧ Below w.heap.size w w' := by
  have hl : s.data.toList.length = s.size := by simp
  have hpre := pre_of s.data.toList
  have hl1 : (Lib.trimPrefix s.data.toList [123]).length ≤ s.size := by unfold Lib.trimPrefix; split <;> simp <;> omega
  have hl2 : (Lib.trimSuffix (Lib.trimPrefix s.data.toList [123]) [125]).length ≤ s.size := by
    unfold Lib.trimSuffix; split
    · rw [List.length_take]; omega
    · exact hl1
  have HC1 : Hid (∀ V, Calls Tryd.prog 16 #[.string s, .string ⟨#[123]⟩] V fun e w' => e = .returned (.tuple #[.string ⟨(Lib.trimPrefix s.data.toList [123]).toArray⟩, .bool (Lib.hasPrefix s.data.toList [123])]) ∧ w' = V) := fun V => Tryd.strings_CutPrefix s ⟨#[123]⟩ V
  have HC2 : Hid (∀ V, Calls Tryd.prog 17 #[.string ⟨(Lib.trimPrefix s.data.toList [123]).toArray⟩, .string ⟨#[125]⟩] V fun e w' => e = .returned (.tuple #[.string ⟨(Lib.trimSuffix (Lib.trimPrefix s.data.toList [123]) [125]).toArray⟩, .bool (Lib.hasSuffix (Lib.trimPrefix s.data.toList [123]) [125])]) ∧ w' = V) := fun V => Tryd.strings_CutSuffix ⟨(Lib.trimPrefix s.data.toList [123]).toArray⟩ ⟨#[125]⟩ V (by show (Lib.trimPrefix s.data.toList [123]).length ≤ _; omega)
  have hbA : Below w.heap.size w (w.alloc (.cells #[.int .i64 0, .slice none 0 0] 24)) := (Below.refl _ _).alloc (Nat.le_refl _) _
  obtain ⟨m, hm⟩ := (hE.below hbA).ml
  obtain ⟨q, hq⟩ : ∃ q : ByteArray, q = ⟨(Lib.trimSuffix (Lib.trimPrefix s.data.toList [123]) [125]).toArray⟩ := ⟨_, rfl⟩
  have hqs : q.size ≤ s.size := by rw [hq]; exact hl2
  have hSp := Tryd.strings_SplitN q ⟨#[32]⟩ 18 m _ (by omega) hm (by decide) (by decide) (by decide)
  rw [World.size_alloc] at hSp
  have hwl : (Lib.splitB ⟨#[32]⟩ 0 (min 18 (q.size + 1) - 1) q).map (·.data.toList) = wdsL s.data.toList := by
    rw [Lib.splitB_data, hq]; rfl
  have hwn : 1 ≤ (Lib.splitB ⟨#[32]⟩ 0 (min 18 (q.size + 1) - 1) q).length := by
    rw [← List.length_map (f := (·.data.toList)), hwl]
    have := spl_ne (min 18 ((Lib.trimSuffix (Lib.trimPrefix s.data.toList [123]) [125]).length + 1) - 1) (Lib.trimSuffix (Lib.trimPrefix s.data.toList [123]) [125])
    unfold wdsL
    cases h : Lib.splitK [32] 0 (min 18 ((Lib.trimSuffix (Lib.trimPrefix s.data.toList [123]) [125]).length + 1) - 1) (Lib.trimSuffix (Lib.trimPrefix s.data.toList [123]) [125]) with
    | nil => exact absurd h this
    | cons x l => simp
  have hwsz := splitB_sizes ⟨#[32]⟩ (min 18 (q.size + 1) - 1) q
  have hw18 := Lib.splitB_length_le ⟨#[32]⟩ 0 (min 18 (q.size + 1) - 1) q
  rw [← hq] at HC2
  generalize Lib.hasPrefix s.data.toList [123] = op at HC1 hpre
  generalize Lib.hasSuffix (Lib.trimPrefix s.data.toList [123]) [125] = cl at HC2 hpre
  obtain ⟨q1, hq1⟩ : ∃ q1 : ByteArray, q1 = ⟨(Lib.trimPrefix s.data.toList [123]).toArray⟩ := ⟨_, rfl⟩
  rw [← hq1] at HC1 HC2
  obtain ⟨PR, hPR⟩ : ∃ PR, PR = preL s.data.toList := ⟨_, rfl⟩
  rw [← hPR] at hpre ⊢
  rw [← hwl] at hpre
  obtain ⟨ws, hws⟩ : ∃ ws, ws = Lib.splitB ⟨#[32]⟩ 0 (min 18 (q.size + 1) - 1) q := ⟨_, rfl⟩
  obtain ⟨cpw, hcpw⟩ : ∃ cpw, cpw = min 18 (q.size + 1) := ⟨_, rfl⟩
  rw [← hws] at hSp hpre hwn hwsz hw18
  rw [← hcpw] at hSp
  have hcw : ws.length ≤ cpw := by omega
  have HPre := Lib.hid hpre
  have HSz : Hid (∀ x ∈ ws, x.size < 4294967281) := fun x hx => by have := hwsz x hx; omega
  have HCe : Hid (∀ j (h : j < ws.length), (Lib.cellsOf ws cpw)[j]? = some (.string ws[j])) := fun j hj => by
    simp only [Lib.cellsOf, List.getElem?_toArray]
    rw [List.getElem?_append_left (by simpa using hj), List.getElem?_map, List.getElem?_eq_getElem hj]; rfl
  clear hq hq1 hPR hpre hwl hws hwsz hl hl1 hl2 hcpw hqs
  go_enter Tryd.func7, Tryd.ntmps7
  go_wp2_with (first
    | (go_at_call 16; refine (HC1.out _).mono ?_; rintro e w' ⟨rfl, hw'⟩; rw [hw']; clear hw' w')
    | (go_at_call 17; refine (HC2.out _).mono ?_; rintro e w' ⟨rfl, hw'⟩; rw [hw']; clear hw' w')
    | (go_at_call 18; refine hSp.mono ?_; rintro e w1 ⟨rfl, hw1⟩; have HW1 := Lib.hid hw1; clear hw1; refine Hid.out ?_))
  refine Lib.hid ?_
  have hw1 := HW1.out
  have hb1 : Below w.heap.size w w1 := by rw [hw1]; exact hbA.alloc (by simp) _
  have hz1 : w1.heap.size = w.heap.size + 2 := by rw [hw1]; simp
  have HCw : Hid (∀ j (h : j < ws.length), w1.cell? ⟨w.heap.size + 1, j, none⟩ = some (.string ws[j])) := fun j hj => by
    have e := World.cell?_alloc_new (w.alloc (.cells #[.int .i64 0, .slice none 0 0] 24)) (Lib.cellsOf ws cpw) 9 j
    rw [World.size_alloc] at e
    rw [hw1, e]; exact HCe.out j hj
  have r0 : w1.cell? ⟨w.heap.size, 0, none⟩ = some (.int .i64 0) := by rw [hw1]; simp [go_sem]
  have r1 : w1.cell? ⟨w.heap.size, 1, none⟩ = some (.slice none 0 0) := by rw [hw1]; simp [go_sem]
  have rf : ∀ o, w1.frozen? ⟨w.heap.size, o, none⟩ = false := fun o => by rw [hw1]; simp [go_sem]
  have hE1 := hE.below hb1
  clear hw1 HW1 hSp hm HCe hbA
  have y0 := HCw.out 0 (by omega)
  have hn0 : (0 : Int) < (ws.length : Int) := by omega
  have hnN : 0 < ws.length := by omega
  have HLv := Lib.hid (fun V => parseLevel_any ws[0] V)
  simp only [plS_L] at HLv
  obtain ⟨lo, hlo⟩ : ∃ lo, lo = lvL ws[0].data.toList := ⟨_, rfl⟩
  rw [← hlo] at HLv
  have HLo := Lib.hid hlo
  clear hlo
  generalize hq0 : ws[0] = q0 at y0 HLv
  clear hq0
  go_wp2_with (first
    | (go_at_call 19; refine (HLv.out _).mono ?_; rintro e w2 ⟨rfl, hb2⟩; refine Hid.out ?_))
  refine Lib.hid ?_
  replace r0 := (hb2.cell (p := ⟨w.heap.size, 0, none⟩) (by simp; omega)).trans r0
  replace r1 := (hb2.cell (p := ⟨w.heap.size, 1, none⟩) (by simp; omega)).trans r1
  have rf2 : ∀ o, w2.frozen? ⟨w.heap.size, o, none⟩ = false := fun o => (hb2.frozen (p := ⟨w.heap.size, o, none⟩) (by simp; omega)).trans (rf o)
  have HC2w : Hid (∀ j (h : j < ws.length), w2.cell? ⟨w.heap.size + 1, j, none⟩ = some (.string ws[j])) := fun j hj => (hb2.cell (p := ⟨w.heap.size + 1, j, none⟩) (by simp; omega)).trans (HCw.out j hj)
  have hB2 : Below w.heap.size w w2 := hb1.trans (hb2.mono (by omega))
  have hE2 := hE.below hB2
  have hz2 : w.heap.size + 2 ≤ w2.heap.size := by have := hb2.size; omega
  have f0 := rf2 0
  have f1 := rf2 1
  have HX0 : Hid (Below w.heap.size w ((w2.setCell ⟨w.heap.size, 0, none⟩ (.int .i64 0)).setCell ⟨w.heap.size, 1, none⟩ (.slice none 0 0))) := (hB2.setCell (p := ⟨w.heap.size, 0, none⟩) (Nat.le_refl _) _).setCell (p := ⟨w.heap.size, 1, none⟩) (Nat.le_refl _) _
  clear hb2 HCw rf y0 hb1 hz1
  by_cases hok : op = true ∧ cl = true ∧ lo.isSome = true
  · obtain ⟨rfl, rfl, hls⟩ := hok
    obtain ⟨d, hd⟩ := Option.isSome_iff_exists.1 hls
    subst hd
    obtain ⟨i0, hi, hzi0, hzi1, hzi2⟩ := info_parts info30
    obtain ⟨TL, hTL⟩ : ∃ TL, TL = (ws.drop 1).map (·.data.toList) := ⟨_, rfl⟩
    have hTn : TL.length + 1 = ws.length := by rw [hTL, List.length_map, List.length_drop]; omega
    have HTg : Hid (∀ k (h : k < TL.length) (h2 : 1 + k < ws.length), ws[1 + k].data.toList = TL[k]) := fun k h h2 => by
      simp only [hTL, List.getElem_map, List.getElem_drop]
    have HPs : Hid (PR = (allE TL).map fun xs => (d, xs)) := by
      simp only [Hid]
      rw [HPre.out, if_pos ⟨rfl, rfl⟩]
      have hlo := HLo.out
      cases hw : ws with
      | nil => rw [hw] at hnN; simp at hnN
      | cons x t =>
        simp only [hw, List.getElem_cons_zero] at hlo
        rw [List.map_cons, preW, ← hlo, hTL, hw]
        simp only [List.drop_succ_cons, List.drop_zero]
        cases allE (t.map (·.data.toList)) <;> rfl
    have hn18 : ws.length ≤ 18 := by omega
    clear hTL HPre hls
    have HFail : Hid (allE TL = none → PR = none) := fun h => by rw [HPs.out, h]; rfl
    have hbL : Below w2.heap.size w2 (w2.alloc (.cells #[.int .i64 d, .slice none 0 0] 24)) := (Below.refl _ _).alloc (Nat.le_refl _) _
    have hlb0 : (w2.alloc (.cells #[.int .i64 d, .slice none 0 0] 24)).heap[w2.heap.size]? = some (.cells #[.int .i64 d, .slice none 0 0] 24 (0, 0)) := World.alloc_heap_new _ _
    have h1c : (1 : Int) ≤ (ws.length : Int) := by omega
    have h1cc : (ws.length : Int) ≤ (cpw : Int) := by omega
    have hTi : (ws.length : Int) - 1 = (TL.length : Int) := by omega
    go_upto_region 9 with fail
    all_goals
      go_loopw [49] (fun r wr => ∃ (k : Nat) (xs : List (Int × Int)) (v : Value), k ≤ TL.length ∧ r = .int .i64 k ∧ allE (TL.take k) = some xs ∧ xs.length = k ∧ wr.ownsRow (w2.heap.size + 1) 35 2 v xs.length (flat xs) ∧ Below w2.heap.size w2 wr ∧ w2.heap.size + 1 ≤ wr.heap.size ∧ (wr.cell? ⟨w2.heap.size, 0, none⟩ = some (.int .i64 d) ∧ wr.cell? ⟨w2.heap.size, 1, none⟩ = some v) ∧ (∀ o, wr.frozen? ⟨w2.heap.size, o, none⟩ = false)) (fun r _ => match r with | .int _ k => (TL.length - k).toNat | _ => 0)
      case atStart => exact ⟨0, [], .slice none 0 0, Nat.zero_le _, rfl, by rw [List.take_zero]; rfl, rfl, World.ownsRow_nil _ _ _ _, hbL, by simp, ⟨by simp [go_sem], by simp [go_sem]⟩, fun o => by simp [go_sem]⟩
      case round =>
        obtain ⟨k, xs, v, hk, rfl, hal, hxl, hown, hB, hz, ⟨l0, l1⟩, lf⟩ := hrel
        replace r0 := (hB.cell (p := ⟨w.heap.size, 0, none⟩) (by simp; omega)).trans r0
        replace r1 := (hB.cell (p := ⟨w.heap.size, 1, none⟩) (by simp; omega)).trans r1
        replace rf2 : ∀ o, wr.frozen? ⟨w.heap.size, o, none⟩ = false := fun o => (hB.frozen (p := ⟨w.heap.size, o, none⟩) (by simp; omega)).trans (rf2 o)
        clear f0 f1 HX0 hlb0 hbL
        have hBw : Below w.heap.size w wr := hB2.trans (hB.mono (by omega))
        by_cases hlt : k < TL.length
        · first
            | (exfalso; omega)
            | (have hk2 : 1 + k < ws.length := by omega
               have yc : wr.cell? ⟨w.heap.size + 1, 1 + k, none⟩ = some (.string ws[1 + k]) := (hB.cell (p := ⟨w.heap.size + 1, 1 + k, none⟩) (by simp; omega)).trans (HC2w.out (1 + k) hk2)
               have hP := parseEntry_any ws[1 + k] wr (hE2.below hB) (HSz.out _ (List.getElem_mem _))
               rw [HTg.out k hlt hk2] at hP
               generalize ws[1 + k] = wk at yc hP
               have hlti : (k : Int) < (TL.length : Int) := by omega
               have hki : (0 : Int) ≤ (k : Int) := by omega
               cases hen : enL TL[k] with
               | none =>
                 have HPn : Hid (PR = none) := HFail.out (allE_bad (List.getElem_mem hlt) hen)
                 rw [hen, Option.isSome_none] at hP
                 go_wp2_with (first | (go_at_call 20; refine hP.mono ?_; rintro e w4 ⟨⟨a, b, rfl, -⟩, hb4⟩; refine Hid.out ?_))
                 refine Lib.hid ?_
                 have y0 := (hb4.cell (p := ⟨w.heap.size, 0, none⟩) (by simp; omega)).trans r0
                 have y1 := (hb4.cell (p := ⟨w.heap.size, 1, none⟩) (by simp; omega)).trans r1
                 have yf : ∀ o, w4.frozen? ⟨w.heap.size, o, none⟩ = false := fun o => (hb4.frozen (p := ⟨w.heap.size, o, none⟩) (by simp; omega)).trans (rf2 o)
                 have hz4 : w.heap.size < w4.heap.size := by have := hb4.size; omega
                 have hA0 : Below w4.heap.size ((w4.setCell ⟨w.heap.size, 0, none⟩ (.int .i64 0)).setCell ⟨w.heap.size, 1, none⟩ (.slice none 0 0)) (((w4.setCell ⟨w.heap.size, 0, none⟩ (.int .i64 0)).setCell ⟨w.heap.size, 1, none⟩ (.slice none 0 0)).alloc (.cells #[.int .i64 a, .int .i64 b] 35)) := (Below.refl _ _).alloc (by simp) _
                 have z0 : (((w4.setCell ⟨w.heap.size, 0, none⟩ (.int .i64 0)).setCell ⟨w.heap.size, 1, none⟩ (.slice none 0 0)).alloc (.cells #[.int .i64 a, .int .i64 b] 35)).cell? ⟨w.heap.size, 0, none⟩ = some (.int .i64 0) := (hA0.cell (p := ⟨w.heap.size, 0, none⟩) (by simp; omega)).trans (by simp [go_sem, y0])
                 have z1 : (((w4.setCell ⟨w.heap.size, 0, none⟩ (.int .i64 0)).setCell ⟨w.heap.size, 1, none⟩ (.slice none 0 0)).alloc (.cells #[.int .i64 a, .int .i64 b] 35)).cell? ⟨w.heap.size, 1, none⟩ = some (.slice none 0 0) := (hA0.cell (p := ⟨w.heap.size, 1, none⟩) (by simp; omega)).trans (by simp [go_sem, y1])
                 have HX : Hid (Below w.heap.size w (((w4.setCell ⟨w.heap.size, 0, none⟩ (.int .i64 0)).setCell ⟨w.heap.size, 1, none⟩ (.slice none 0 0)).alloc (.cells #[.int .i64 a, .int .i64 b] 35))) := (((hBw.trans (hb4.mono hBw.size)).setCell (p := ⟨w.heap.size, 0, none⟩) (Nat.le_refl _) _).setCell (p := ⟨w.heap.size, 1, none⟩) (Nat.le_refl _) _).alloc (by simp; omega) _
                 clear hb4 hP hown l0 l1 lf hA0
                 go_wp2
                 exact bodyPost_ret (v := .tuple #[.agg #[.int .i64 0, .slice none 0 0], .int .i64 2]) (by simp [results, Tryd.results7, go_sem, z0, z1]) rfl ⟨.slice none 0 0, by rw [HPn.out]; rfl, by rw [HPn.out]; exact .inl ⟨rfl, rfl⟩, HX.out⟩
               | some x =>
                 obtain ⟨x1, x2⟩ := x
                 have HS : Hid (allE (TL.take (k + 1)) = some (xs ++ [(x1, x2)])) := by
                   simp only [Hid]
                   rw [List.take_succ_eq_append_getElem hlt, allE_snoc, hal, hen]
                 rw [hen, Option.isSome_some] at hP
                 go_wp2_with (first | (go_at_call 20; refine hP.mono ?_; rintro e w4 ⟨⟨a, b, rfl, hab⟩, hb4⟩; refine Hid.out ?_))
                 refine Lib.hid ?_
                 obtain ⟨ha, hb⟩ := hab _ rfl
                 simp only at ha hb
                 subst ha hb
                 have hz4 : wr.heap.size ≤ w4.heap.size := hb4.size
                 have hown4 := own_belowN hown hb4 (Nat.le_refl _)
                 have m0 := (hb4.cell (p := ⟨w2.heap.size, 0, none⟩) (by simp; omega)).trans l0
                 have m1 := (hb4.cell (p := ⟨w2.heap.size, 1, none⟩) (by simp; omega)).trans l1
                 have mf : ∀ o, w4.frozen? ⟨w2.heap.size, o, none⟩ = false := fun o => (hb4.frozen (p := ⟨w2.heap.size, o, none⟩) (by simp; omega)).trans (lf o)
                 have hB4 : Below w2.heap.size w2 w4 := hB.trans (hb4.mono hB.size)
                 clear hb4 hP hown l0 l1 lf r0 r1 rf2 hB hBw yc hab
                 have hWb : Below (w2.heap.size + 1) w4 ((w4.alloc (.cells #[.int .i64 a, .int .i64 b] 35)).alloc (.cells #[.int .i64 a, .int .i64 b] 35)) := (((Below.refl _ w4).alloc (by omega) _).alloc (by simp; omega) _)
                 have hnews : Hid (∀ j u, [Value.int .i64 a, Value.int .i64 b][j]? = some u → ((w4.alloc (.cells #[.int .i64 a, .int .i64 b] 35)).alloc (.cells #[.int .i64 a, .int .i64 b] 35)).cell? ((⟨w4.heap.size + 1, 0, none⟩ : Addr).add j) = some u) := by
                   have := cell_two_new (w4.alloc (.cells #[.int .i64 a, .int .i64 b] 35)) (.int .i64 a) (.int .i64 b) 35
                   rw [World.size_alloc] at this
                   exact this
                 have hownA := ((hown4.alloc (.cells #[.int .i64 a, .int .i64 b] 35)).alloc (.cells #[.int .i64 a, .int .i64 b] 35))
                 have hlen : xs.length + 1 ≤ maxLen := by unfold maxLen; omega
                 have hlen16 : (xs.length + 1) * 16 ≤ 140737488355328 := by omega
                 have hone : Hid (∀ u ∈ [Value.int .i64 a, Value.int .i64 b], u.oneCell' = true) := fun x hx => by simp at hx; rcases hx with rfl | rfl <;> rfl
                 have HZ : Hid (xs.length = k) := hxl
                 clear hxl hal
                 have hz2' : w2.heap.size < w4.heap.size := by omega
                 go_wp2_with (at_builtin; refine wpList_append_own _ rfl _ _ 22 rfl (w2.heap.size + 1) 35 i0 (.agg #[.int .i64 0, .int .i64 0]) 2 16 Tryd.underlying22 hi hzi0 hzi1 hzi2 rfl (by decide) _ _ _ rfl hownA ⟨w4.heap.size + 1, 0, none⟩ 1 1 [.int .i64 a, .int .i64 b] rfl rfl hnews.out hone.out hlen hlen16 (by simp; omega) ?_; intro v' w3 hown' hgrow3 hnil3; obtain ⟨g', cap', rfl⟩ := ownsRow_succ hown'; have hb3 : Below (w2.heap.size + 1) w4 w3 := Below.grown hWb hgrow3 (by simp; omega) (fun j hj => (hown4.lt _ hj).1); have l0' := (hb3.cell (p := ⟨w2.heap.size, 0, none⟩) (by simp)).trans m0; have l1' := (hb3.cell (p := ⟨w2.heap.size, 1, none⟩) (by simp)).trans m1; have lf' : ∀ o, w3.frozen? ⟨w2.heap.size, o, none⟩ = false := (fun o => (hb3.frozen (p := ⟨w2.heap.size, o, none⟩) (by simp)).trans (mf o)))
                 have hz3 : w4.heap.size ≤ w3.heap.size := hb3.size
                 have hBf : Below w2.heap.size w3 (w3.setCell ⟨w2.heap.size, 1, none⟩ (.slice (some ⟨g', 0, none⟩) (xs.length + 1) cap')) := (Below.refl _ _).setCell (p := ⟨w2.heap.size, 1, none⟩) (Nat.le_refl _) _
                 go_roundw
                 case rel =>
                   refine ⟨k + 1, xs ++ [(a, b)], .slice (some ⟨g', 0, none⟩) (xs.length + 1) cap', by omega, by simp, HS.out, by rw [List.length_append, HZ.out]; rfl, ?_, (hB4.trans (hb3.mono (by omega))).trans (hBf.mono (by omega)), by simp; omega, ⟨by simp [go_sem, l0'], World.cell?_setCell_same' _ _ _ (by rw [l1']; rfl)⟩, fun o => by rw [World.frozen?_setCell]; exact lf' o⟩
                   rw [List.length_append, flat_append]
                   exact ownsRow_setCell_below hown' (by simp) _
                 case measure => simp; omega)
        · obtain rfl : k = TL.length := by omega
          have HPd : Hid (PR = some (d, xs)) := by
            simp only [Hid]
            rw [List.take_length] at hal
            rw [HPs.out, hal]; rfl
          have hP := rightL_any (w2.heap.size + 1) d v xs wr (by unfold maxLen; omega) (Rw.own hown (Nat.le_refl _))
          clear hxl hal
          obtain ⟨pv, cv, rfl, hcv, hlv'⟩ := own_out hown
          clear hcv
          go_wp2_with (go_at_call 21; refine hP.mono ?_; rintro e w5 ⟨v5, rfl, hR5, hb5⟩; refine Hid.out ?_)
          refine Lib.hid ?_
          obtain ⟨p5, c5, rfl, hc5, hl5⟩ := hR5.out
          have y0 := (hb5.cell (p := ⟨w.heap.size, 0, none⟩) (by simp; omega)).trans r0
          have y1 := (hb5.cell (p := ⟨w.heap.size, 1, none⟩) (by simp; omega)).trans r1
          have yf : ∀ o, w5.frozen? ⟨w.heap.size, o, none⟩ = false := fun o => (hb5.frozen (p := ⟨w.heap.size, o, none⟩) (by simp; omega)).trans (rf2 o)
          clear hP hc5
          go_wp2
          refine bodyPost_ret (by simp [results, Tryd.results7, go_sem, y0, y1]; rfl) rfl ⟨_, by rw [HPd.out]; rfl, ?_, ?_⟩
          · rw [HPd.out]; exact Rw.mono (Rw.set (Rw.set hR5 (by simp; omega) _) (by simp; omega) _) (by omega)
          · exact ((hBw.trans (hb5.mono hBw.size)).setCell (p := ⟨w.heap.size, 0, none⟩) (Nat.le_refl _) _).setCell (p := ⟨w.heap.size, 1, none⟩) (Nat.le_refl _) _
  · have HPn : Hid (PR = none) := by
      simp only [Hid]
      rw [HPre.out]
      by_cases h2 : op = true ∧ cl = true
      · rw [if_pos h2]
        have hlo : lvL ws[0].data.toList = none := by
          rw [← HLo.out]
          cases h : lo with
          | none => rfl
          | some v => exact absurd ⟨h2.1, h2.2, by rw [h]; rfl⟩ hok
        cases hw : ws with
        | nil => rfl
        | cons x t => simp only [hw, List.getElem_cons_zero] at hlo; rw [List.map_cons, preW, hlo]
      · rw [if_neg h2]
    generalize hls : lo.isSome = ls at hok ⊢
    clear hls
    cases op <;> cases cl <;> cases ls <;> first
      | exact absurd ⟨rfl, rfl, rfl⟩ hok
      | (clear hok
         go_wp2
         exact bodyPost_ret (v := .tuple #[.agg #[.int .i64 0, .slice none 0 0], .int .i64 2]) (by simp [results, Tryd.results7, go_sem, r0, r1]) rfl ⟨.slice none 0 0, by rw [HPn.out]; rfl, by rw [HPn.out]; exact .inl ⟨rfl, rfl⟩, HX0.out⟩)
end Go.Proofs.YtfpjeclbilhgdaaDoor

/- What Read of package label answers, for every string. -/
import Derived.Test.YtibnmiigfiofmaaDoorNumber
import Derived.Test.YtibnmiigfiofmaaDoorPut
import Derived.Laws.Strings2
namespace Go.Proofs.YtibnmiigfiofmaaDoor
open Go.RowKit Go.Sort

def rD (d : Int) (xs : List (Int × Int)) : Int := if rightS d xs = true then d else 0
def rL (d : Int) (xs : List (Int × Int)) : List (Int × Int) := if rightS d xs = true then xs else []
def rE (d : Int) (xs : List (Int × Int)) : Int := if rightS d xs = true then 0 else 2

set_option maxHeartbeats 400000 in
theorem rightL_any (B : Nat) (d : Int) (v : Value) (xs : List (Int × Int)) (w : World) (hm : xs.length ≤ maxLen) (hR : Rw B w v xs) :
    Calls Tryd.prog 67 #[.agg #[.int .i64 d, v]] w fun e w' => ∃ v', e = .returned (.tuple #[.agg #[.int .i64 (rD d xs), v'], .int .i64 (rE d xs)]) ∧ Rw B w' v' (rL d xs) ∧ Below w.heap.size w w' := by
  obtain ⟨p, cap, rfl, hc, hcap⟩ := hR.out
  have hW : Below w.heap.size w ((w.alloc (.cells #[.int .i64 d, .slice p xs.length cap] 24)).alloc (.cells #[.int .i64 0, .slice none 0 0] 24)) := by go_grown
  have hRi := Right_any d p cap xs _ hm (hc.below hW)
  clear hc
  by_cases hr : rightS d xs = true
  · rw [hr] at hRi
    have HD : Hid (rD d xs = d ∧ rL d xs = xs ∧ rE d xs = 0) := by simp [Hid, rD, rL, rE, hr]
    go_enter Tryd.func67, Tryd.ntmps67
    go_wp2_with (go_at_call 10; refine hRi.mono ?_; rintro e w5 ⟨rfl, hb5⟩; refine Hid.out ?_)
    refine Lib.hid ?_
    have a0 : w5.cell? ⟨w.heap.size, 0, none⟩ = some (.int .i64 d) := (hb5.cell (p := ⟨w.heap.size, 0, none⟩) (by simp; omega)).trans (by simp [go_sem])
    have a1 : w5.cell? ⟨w.heap.size, 1, none⟩ = some (.slice p xs.length cap) := (hb5.cell (p := ⟨w.heap.size, 1, none⟩) (by simp; omega)).trans (by simp [go_sem])
    have s0 : w5.cell? ⟨w.heap.size + 1, 0, none⟩ = some (.int .i64 0) := (hb5.cell (p := ⟨w.heap.size + 1, 0, none⟩) (by simp)).trans (by simp [go_sem])
    have s1 : w5.cell? ⟨w.heap.size + 1, 1, none⟩ = some (.slice none 0 0) := (hb5.cell (p := ⟨w.heap.size + 1, 1, none⟩) (by simp)).trans (by simp [go_sem])
    have sf : ∀ o, w5.frozen? ⟨w.heap.size + 1, o, none⟩ = false := fun o => (hb5.frozen (p := ⟨w.heap.size + 1, o, none⟩) (by simp)).trans (by simp [go_sem])
    have hB5 : Below w.heap.size w w5 := hW.trans (hb5.mono hW.size)
    clear hRi
    go_wp2
    refine bodyPost_ret (by simp [results, Tryd.results67, go_sem, s0, s1]; rfl) rfl ⟨.slice p xs.length cap, ?_, ?_, ?_⟩
    · rw [HD.out.1, HD.out.2.2]
    · rw [HD.out.2.1]; exact hR.below ((hB5.setCell (p := ⟨w.heap.size + 1, 0, none⟩) (by simp) _).setCell (p := ⟨w.heap.size + 1, 1, none⟩) (by simp) _)
    · exact (hB5.setCell (p := ⟨w.heap.size + 1, 0, none⟩) (by simp) _).setCell (p := ⟨w.heap.size + 1, 1, none⟩) (by simp) _
  · have hr' : rightS d xs = false := by simpa using hr
    rw [hr'] at hRi
    have HD : Hid (rD d xs = 0 ∧ rL d xs = [] ∧ rE d xs = 2) := by simp [Hid, rD, rL, rE, hr]
    go_enter Tryd.func67, Tryd.ntmps67
    go_wp2_with (go_at_call 10; refine hRi.mono ?_; rintro e w5 ⟨rfl, hb5⟩; refine Hid.out ?_)
    refine Lib.hid ?_
    have s0 : w5.cell? ⟨w.heap.size + 1, 0, none⟩ = some (.int .i64 0) := (hb5.cell (p := ⟨w.heap.size + 1, 0, none⟩) (by simp)).trans (by simp [go_sem])
    have s1 : w5.cell? ⟨w.heap.size + 1, 1, none⟩ = some (.slice none 0 0) := (hb5.cell (p := ⟨w.heap.size + 1, 1, none⟩) (by simp)).trans (by simp [go_sem])
    have sf : ∀ o, w5.frozen? ⟨w.heap.size + 1, o, none⟩ = false := fun o => (hb5.frozen (p := ⟨w.heap.size + 1, o, none⟩) (by simp)).trans (by simp [go_sem])
    have hB5 : Below w.heap.size w w5 := hW.trans (hb5.mono hW.size)
    clear hRi
    go_wp2
    refine bodyPost_ret (by simp [results, Tryd.results67, go_sem, s0, s1]; rfl) rfl ⟨.slice none 0 0, ?_, ?_, ?_⟩
    · rw [HD.out.1, HD.out.2.2]
    · rw [HD.out.2.1]; exact .inl ⟨rfl, rfl⟩
    · exact (hB5.setCell (p := ⟨w.heap.size + 1, 0, none⟩) (by simp) _).setCell (p := ⟨w.heap.size + 1, 1, none⟩) (by simp) _

/- The entries that bytes say. -/
def by' (s : ByteArray) (i : Nat) : Nat := byteAt s 0 i
theorem by_lt (s : ByteArray) (i : Nat) : by' s i < 256 := byteAt_lt s 0 i
theorem by_get (s : ByteArray) (i : Nat) (h : i < s.size) : s[i].toNat = by' s i := by
  simp [by', byteAt, ByteArray.getElem_eq_getElem_data, Array.getD, h]
theorem by_extract (s : ByteArray) (a n i : Nat) (hn : n ≤ s.size) (h : a + i < n) : by' (s.extract a n) i = by' s (a + i) := by
  have h1 : i < (s.extract a n).size := by rw [ByteArray.size_extract]; omega
  rw [← by_get _ _ h1, ← by_get s (a + i) (by omega), ByteArray.getElem_extract]
theorem ext_ext (s : ByteArray) (a n b m : Nat) (h : a + m ≤ n) : (s.extract a n).extract b m = s.extract (a + b) (a + m) := by
  apply ByteArray.ext
  rw [ByteArray.data_extract, ByteArray.data_extract, ByteArray.data_extract, Array.extract_extract]
  congr 1
  omega
theorem empty_iff (bs : ByteArray) : bs.toList.isEmpty = decide (bs.size = 0) := by
  rw [ByteArray.toList_eq, Bool.eq_iff_iff, List.isEmpty_iff, decide_eq_true_eq, ← List.length_eq_zero_iff, Array.length_toList]; rfl
def entAt (s : ByteArray) (i : Nat) : Int × Int := (wrap64 (sumB (fun j => by' s (2 + 9 * i + j)) 8 : Nat), (by' s (2 + 9 * i + 8) : Int))
def entL (s : ByteArray) (k : Nat) : List (Int × Int) := (List.range k).map (entAt s)
theorem entL_succ (s : ByteArray) (k : Nat) : entL s (k + 1) = entL s k ++ [entAt s k] := by unfold entL; rw [List.range_succ, List.map_append]; rfl
theorem entL_len (s : ByteArray) (k : Nat) : (entL s k).length = k := by simp [entL]
theorem number_at (s : ByteArray) (N k : Nat) (w : World) (hs : s.size = 2 + 9 * N) (hk : k < N) :
    Calls Tryd.prog 66 #[.string ((s.extract (2 + 9 * k) (2 + 9 * N)).extract 0 8)] w fun e w' => e = .returned (.int .i64 (entAt s k).1) ∧ w' = w := by
  rw [ext_ext _ _ _ _ _ (by omega), Nat.add_zero]
  have hz : (s.extract (2 + 9 * k) (2 + 9 * k + 8)).size = 8 := by rw [ByteArray.size_extract]; omega
  have e : sumB (byteAt (s.extract (2 + 9 * k) (2 + 9 * k + 8)) 0) 8 = sumB (fun j => by' s (2 + 9 * k + j)) 8 := sumB_congr fun i hi => by_extract s _ _ i (by omega) (by omega)
  have := number_any (s.extract (2 + 9 * k) (2 + 9 * k + 8)) w hz
  rw [e] at this
  exact this

set_option maxRecDepth 100000 in
set_option maxHeartbeats 8000000 in
theorem Read_ok (s : ByteArray) (N : Nat) (w : World) (hs : s.size = 2 + 9 * N) (hN : by' s 1 = N) :
    Calls Tryd.prog 39 #[.string s] w fun e w' => ∃ v, e = .returned (.tuple #[.agg #[.int .i64 (rD (by' s 0) (entL s N)), v], .int .i64 (rE (by' s 0) (entL s N))]) ∧ Rw w.heap.size w' v (rL (by' s 0) (entL s N)) ∧ Below w.heap.size w w' := by
  obtain ⟨i0, hi, hz0, hz1, hz2⟩ := info_parts info30
  have h1 : 1 < s.size := by omega
  have h0 : 0 < s.size := by omega
  have hb1 : s[1].toNat = N := by rw [by_get s 1 h1, hN]
  have hb0 : s[0].toNat = by' s 0 := by_get s 0 h0
  have hN256 : N < 256 := by rw [← hN]; exact by_lt s 1
  have hd256 := by_lt s 0
  obtain ⟨dd, hdd⟩ : ∃ dd, dd = by' s 0 := ⟨_, rfl⟩
  rw [← hdd] at hb0 hd256 ⊢
  clear hdd hN
  obtain ⟨W0, hW0⟩ : ∃ W0, W0 = (w.alloc (.cells #[.int .i64 0, .slice none 0 0] 24)).alloc (.cells #[.int .i64 dd, .slice none 0 0] 24) := ⟨_, rfl⟩
  have hB0 : Below w.heap.size w W0 := by rw [hW0]; go_grown
  have hs0 : W0.heap.size = w.heap.size + 2 := by rw [hW0]; simp
  have c0 : W0.cell? ⟨w.heap.size, 0, none⟩ = some (.int .i64 0) := by rw [hW0]; simp [go_sem]
  have c1 : W0.cell? ⟨w.heap.size, 1, none⟩ = some (.slice none 0 0) := by rw [hW0]; simp [go_sem]
  have o0 : W0.cell? ⟨w.heap.size + 1, 0, none⟩ = some (.int .i64 dd) := by rw [hW0]; simp [go_sem]
  have o1 : W0.cell? ⟨w.heap.size + 1, 1, none⟩ = some (.slice none 0 0) := by rw [hW0]; simp [go_sem]
  have cf : ∀ o, W0.frozen? ⟨w.heap.size, o, none⟩ = false := fun o => by rw [hW0]; simp [go_sem]
  have of : ∀ o, W0.frozen? ⟨w.heap.size + 1, o, none⟩ = false := fun o => by rw [hW0]; simp [go_sem]
  go_enter Tryd.func39, Tryd.ntmps39
  go_wp2
  rw [← hW0]
  clear hW0
  go_loopw [5] (fun r wr => ∃ (k : Nat) (v : Value), k ≤ N ∧ r = .string (s.extract (2 + 9 * k) (2 + 9 * N)) ∧ wr.ownsRow (w.heap.size + 2) 30 2 v (entL s k).length (flat (entL s k)) ∧ Below w.heap.size w wr ∧ w.heap.size + 2 ≤ wr.heap.size ∧ (wr.cell? ⟨w.heap.size, 0, none⟩ = some (.int .i64 0) ∧ wr.cell? ⟨w.heap.size, 1, none⟩ = some (.slice none 0 0) ∧ wr.cell? ⟨w.heap.size + 1, 0, none⟩ = some (.int .i64 dd) ∧ wr.cell? ⟨w.heap.size + 1, 1, none⟩ = some v) ∧ (∀ o, wr.frozen? ⟨w.heap.size, o, none⟩ = false) ∧ (∀ o, wr.frozen? ⟨w.heap.size + 1, o, none⟩ = false)) (fun r _ => match r with | .string b => b.size | _ => 0)
  case atStart => exact ⟨0, .slice none 0 0, Nat.zero_le _, rfl, World.ownsRow_nil _ _ _ _, hB0, by omega, ⟨c0, c1, o0, o1⟩, cf, of⟩
  case round =>
    obtain ⟨k, v, hk, rfl, hown, hB, hz, ⟨r0, r1, l0, l1⟩, rf, lf⟩ := hrel
    clear c0 c1 o0 o1 cf of hs0 hB0
    have hrs : (s.extract (2 + 9 * k) (2 + 9 * N)).size = 9 * (N - k) := by rw [ByteArray.size_extract]; omega
    have hnx : k < N → (s.extract (2 + 9 * k) (2 + 9 * N)).extract 9 (9 * (N - k)) = s.extract (2 + 9 * (k + 1)) (2 + 9 * N) := fun h => by
      rw [ext_ext _ _ _ _ _ (by omega)]; congr 1; omega
    have hlv : (entL s k).length = k := entL_len s k
    by_cases hlt : k < N
    · obtain ⟨rs, hrs', hrs2, ⟨h8', hb8⟩, hie, HNk, HXr⟩ : ∃ rs, rs = s.extract (2 + 9 * k) (2 + 9 * N) ∧ rs.size = 9 * (N - k) ∧ (∃ h : 8 < rs.size, rs[8].toNat = by' s (2 + 9 * k + 8)) ∧ rs.toList.isEmpty = false ∧ Hid (∀ W, Calls Tryd.prog 66 #[.string (rs.extract 0 8)] W fun e w' => e = .returned (.int .i64 (entAt s k).1) ∧ w' = W) ∧ Hid (rs.extract 9 (9 * (N - k)) = s.extract (2 + 9 * (k + 1)) (2 + 9 * N)) := by
        refine ⟨_, rfl, hrs, ⟨by omega, ?_⟩, ?_, fun W => number_at s N k W hs hlt, hnx hlt⟩
        · rw [by_get _ 8 (by omega), by_extract s _ _ 8 (by omega) (by omega)]
        · rw [empty_iff, hrs]; simp; omega
      have hl8 := by_lt s (2 + 9 * k + 8)
      have e2 : (entAt s k).2 = (by' s (2 + 9 * k + 8) : Int) := rfl
      rw [← hrs']
      clear hrs
      have h8le : (8 : Int) ≤ 9 * ((N : Int) - (k : Int)) := by omega
      have h9le : (9 : Int) ≤ 9 * ((N : Int) - (k : Int)) := by omega
      have h8i : (8 : Int) < 9 * ((N : Int) - (k : Int)) := by omega
      have hNki : ((N - k : Nat) : Int) = (N : Int) - (k : Int) := by omega
      clear hrs' hnx
      have hwr : IntKind.i64.wrap (by' s (2 + 9 * k + 8) : Int) = (entAt s k).2 := by rw [IntKind.wrap_i64, e2]; omega
      have HS : Hid (entL s (k + 1) = entL s k ++ [entAt s k]) := entL_succ s k
      have hz0' : w.heap.size < wr.heap.size := by omega
      have hz1' : w.heap.size + 1 < wr.heap.size := by omega
      obtain ⟨x1, hx1⟩ : ∃ x, x = (entAt s k).1 := ⟨_, rfl⟩
      obtain ⟨x2, hx2⟩ : ∃ x, x = (entAt s k).2 := ⟨_, rfl⟩
      have HE : Hid (entAt s k = (x1, x2)) := by rw [hx1, hx2]; rfl
      rw [← hx2] at hwr
      rw [← hx1] at HNk
      clear hx1 hx2 e2
      have hWb : Below (w.heap.size + 2) wr ((wr.alloc (.cells #[.int .i64 x1, .int .i64 x2] 30)).alloc (.cells #[.int .i64 x1, .int .i64 x2] 30)).drew := (((Below.refl _ wr).alloc hz _).alloc (by simp; omega) _).drew
      have hnews : Hid (∀ j u, [Value.int .i64 x1, Value.int .i64 x2][j]? = some u → ((wr.alloc (.cells #[.int .i64 x1, .int .i64 x2] 30)).alloc (.cells #[.int .i64 x1, .int .i64 x2] 30)).cell? ((⟨wr.heap.size + 1, 0, none⟩ : Addr).add j) = some u) := by
        have := cell_two_new (wr.alloc (.cells #[.int .i64 x1, .int .i64 x2] 30)) (.int .i64 x1) (.int .i64 x2) 30
        rw [World.size_alloc] at this
        exact this
      have hownA := ((hown.alloc (.cells #[.int .i64 x1, .int .i64 x2] 30)).alloc (.cells #[.int .i64 x1, .int .i64 x2] 30)).drew
      have hlen : (entL s k).length + 1 ≤ maxLen := by unfold maxLen; omega
      have hlen16 : ((entL s k).length + 1) * 16 ≤ 140737488355328 := by omega
      have hone : Hid (∀ u ∈ [Value.int .i64 x1, Value.int .i64 x2], u.oneCell' = true) := fun x hx => by simp at hx; rcases hx with rfl | rfl <;> rfl
      have HZ : Hid ((entL s k).length = k) := hlv
      clear hlv
      go_wp2
      go_region_law (first
        | (go_simp; go_at_call 66; refine Calls.mono (HNk.out _) ?_; rintro e w' ⟨rfl, hw'⟩; rw [hw']; clear hw' w'))
      all_goals
        go_wp2_with (at_builtin; refine wpList_append_own _ rfl _ _ 22 rfl (w.heap.size + 2) 30 i0 (.agg #[.int .i64 0, .int .i64 0]) 2 16 Tryd.underlying22 hi hz0 hz1 hz2 rfl (by decide) _ _ _ rfl hownA ⟨wr.heap.size + 1, 0, none⟩ 1 1 [.int .i64 x1, .int .i64 x2] rfl rfl hnews.out hone.out hlen hlen16 (by simp; omega) ?_; intro v' w3 hown' hgrow3 hnil3; obtain ⟨g', cap', rfl⟩ := ownsRow_succ hown'; have hb3 : Below (w.heap.size + 2) wr w3 := Below.grown hWb hgrow3 (by simp; omega) (fun j hj => (hown.lt _ hj).1); have r0' := (hb3.cell (p := ⟨w.heap.size, 0, none⟩) (by simp)).trans r0; have r1' := (hb3.cell (p := ⟨w.heap.size, 1, none⟩) (by simp)).trans r1; have l0' := (hb3.cell (p := ⟨w.heap.size + 1, 0, none⟩) (by simp)).trans l0; have l1' := (hb3.cell (p := ⟨w.heap.size + 1, 1, none⟩) (by simp)).trans l1; have rf' : ∀ o, w3.frozen? ⟨w.heap.size, o, none⟩ = false := (fun o => (hb3.frozen (p := ⟨w.heap.size, o, none⟩) (by simp)).trans (rf o)); have lf' : ∀ o, w3.frozen? ⟨w.heap.size + 1, o, none⟩ = false := (fun o => (hb3.frozen (p := ⟨w.heap.size + 1, o, none⟩) (by simp)).trans (lf o)))
        have hz3 : wr.heap.size ≤ w3.heap.size := hb3.size
        have hBf : Below (w.heap.size + 1) w3 (w3.setCell ⟨w.heap.size + 1, 1, none⟩ (.slice (some ⟨g', 0, none⟩) ((entL s k).length + 1) cap')) := (Below.refl _ _).setCell (p := ⟨w.heap.size + 1, 1, none⟩) (Nat.le_refl _) _
        go_roundw
        case rel =>
          refine ⟨k + 1, .slice (some ⟨g', 0, none⟩) ((entL s k).length + 1) cap', by omega, ?_, ?_, (hB.trans (hb3.mono (by omega))).trans (hBf.mono (by omega)), by simp; omega, ⟨(hBf.cell (p := ⟨w.heap.size, 0, none⟩) (by simp)).trans r0', (hBf.cell (p := ⟨w.heap.size, 1, none⟩) (by simp)).trans r1', by simp [go_sem, l0'], World.cell?_setCell_same' _ _ _ (by rw [l1']; rfl)⟩, fun o => by rw [World.frozen?_setCell]; exact rf' o, fun o => by rw [World.frozen?_setCell]; exact lf' o⟩
          · rw [← HXr.out]
          · rw [HS.out, List.length_append, flat_append, HE.out]
            exact ownsRow_setCell_below hown' (by simp) _
        case measure =>
          show (rs.extract 9 (9 * (N - k))).size < rs.size
          rw [ByteArray.size_extract]; omega
    · obtain rfl : k = N := by omega
      have hie : (s.extract (2 + 9 * k) (2 + 9 * k)).toList.isEmpty = true := by rw [empty_iff, hrs]; simp
      have hP := rightL_any (w.heap.size + 2) dd v (entL s k) wr (by unfold maxLen; omega) (Rw.own hown (Nat.le_refl _))
      obtain ⟨pv, cv, rfl, hcv, hlv'⟩ := own_out hown
      obtain ⟨rs, hrs'⟩ : ∃ rs, rs = s.extract (2 + 9 * k) (2 + 9 * k) := ⟨_, rfl⟩
      rw [← hrs'] at hie ⊢
      clear hrs' hnx hcv hrs hlv
      go_wp2_with (go_at_call 67; refine hP.mono ?_; rintro e w5 ⟨v5, rfl, hR5, hb5⟩; refine Hid.out ?_)
      refine Lib.hid ?_
      obtain ⟨p5, c5, rfl, hc5, hl5⟩ := hR5.out
      have y0 := (hb5.cell (p := ⟨w.heap.size, 0, none⟩) (by simp; omega)).trans r0
      have y1 := (hb5.cell (p := ⟨w.heap.size, 1, none⟩) (by simp; omega)).trans r1
      have yf : ∀ o, w5.frozen? ⟨w.heap.size, o, none⟩ = false := fun o => (hb5.frozen (p := ⟨w.heap.size, o, none⟩) (by simp; omega)).trans (rf o)
      clear hP hc5
      go_wp2
      refine bodyPost_ret (by simp [results, Tryd.results39, go_sem, y0, y1]; rfl) rfl ⟨_, rfl, ?_, ?_⟩
      · exact Rw.mono (Rw.set (Rw.set hR5 (by simp) _) (by simp) _) (by omega)
      · exact ((hB.trans (hb5.mono (by omega))).setCell (p := ⟨w.heap.size, 0, none⟩) (by simp) _).setCell (p := ⟨w.heap.size, 1, none⟩) (by simp) _
set_option maxRecDepth 100000 in
set_option maxHeartbeats 1000000 in
theorem Read_bad (s : ByteArray) (w : World) (hm : s.size ≤ maxLen) (h : s.size < 2 ∨ s.size ≠ 2 + 9 * by' s 1) :
    Calls Tryd.prog 39 #[.string s] w fun e w' => e = .returned (.tuple #[.agg #[.int .i64 0, .slice none 0 0], .int .i64 2]) ∧ Below w.heap.size w w' := by
  unfold maxLen at hm
  by_cases h2 : s.size < 2
  · have h2i : (s.size : Int) < 2 := by omega
    go_enter Tryd.func39, Tryd.ntmps39
    go_wp2
    refine bodyPost_ret (by simp [results, Tryd.results39, go_sem]) rfl ⟨rfl, by go_grown⟩
  · have hne : s.size ≠ 2 + 9 * by' s 1 := h.resolve_left h2
    have h1 : 1 < s.size := by omega
    have hb1 : s[1].toNat = by' s 1 := by_get s 1 h1
    have hN := by_lt s 1
    obtain ⟨N, hN'⟩ : ∃ N, N = by' s 1 := ⟨_, rfl⟩
    rw [← hN'] at hne hb1 hN
    clear hN' h
    have h2i : ¬ (s.size : Int) < 2 := by omega
    have h1i : (1 : Int) < (s.size : Int) := by omega
    have hni : ((s.size : Int) != 2 + 9 * (N : Int)) = true := by simp; omega
    go_enter Tryd.func39, Tryd.ntmps39
    go_wp2
    refine bodyPost_ret (by simp [results, Tryd.results39, go_sem]) rfl ⟨rfl, by go_grown⟩
end Go.Proofs.YtibnmiigfiofmaaDoor

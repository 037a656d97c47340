/- What Make of the reference answers, of any entries. -/
import Derived.Test.YtibnmiigfiofmaaDoorMake3
import Derived.Test.YtibnmiigfiofmaaDoorMixed
namespace Go.Proofs.YtibnmiigfiofmaaDoor
open Go.RowKit Go.Sort

def clash (x : Int × Int) (ys : List (Int × Int)) : Bool := ys.any fun y => x.1 == y.1 && x.2 != y.2
theorem clash_snoc (x : Int × Int) (ys : List (Int × Int)) (j : Nat) (h : j < ys.length) : clash x (ys.take (j + 1)) = (clash x (ys.take j) || (x.1 == ys[j].1 && x.2 != ys[j].2)) := by
  unfold clash; rw [List.take_succ_eq_append_getElem h, List.any_append]; simp
def clT (xs : List (Int × Int)) : Nat → Bool
  | 0 => false
  | k + 1 => clT xs k || clash (zat xs k) (xs.take k)
theorem clT_mono {xs : List (Int × Int)} {k n : Nat} (h : clT xs k = true) (hk : k ≤ n) : clT xs n = true := by
  induction n with
  | zero => obtain rfl : k = 0 := by omega
            exact h
  | succ n ih =>
    rcases Nat.lt_or_ge n k with h1 | h1
    · obtain rfl : k = n + 1 := by omega
      exact h
    · simp [clT, ih h1]
theorem labs1m {W : World} {b : Nat} {A : Lab} (h : W.heap[b]? = some (.cells #[.int .i64 A.d, .slice A.p A.xs.length A.cap] 24 (0, 0)))
    (ha : CatsAt W A.p A.xs ∧ A.xs.length ≤ maxLen) : LabsAt W b [A] := by
  intro j hj
  simp only [List.length_cons, List.length_nil] at hj
  match j, hj with
  | 0, _ => exact ⟨by simp [World.cell?, h], by simp [World.cell?, h], ha⟩
def allLab (d : Int) (xs : List (Int × Int)) : Lab := ⟨d, none, 0, xs⟩
def rmakeS (d : Int) (xs : List (Int × Int)) : List (Int × Int) := shortS d (rowS (atS d xs) (namedS [allLab d xs]))
def rkD (d : Int) (xs : List (Int × Int)) : Int := if (xs.any fun x => !can x) = true then 0 else if clT xs xs.length = true then 0 else fitD d (rmakeS d xs)
def rkL (d : Int) (xs : List (Int × Int)) : List (Int × Int) := if (xs.any fun x => !can x) = true then [] else if clT xs xs.length = true then [] else fitL (rmakeS d xs)
def rkE (d : Int) (xs : List (Int × Int)) : Int := if (xs.any fun x => !can x) = true then 1 else if clT xs xs.length = true then 2 else fitE (rmakeS d xs)

set_option maxRecDepth 100000 in
set_option maxHeartbeats 8000000 in
theorem rMake_any (d : Int) (p : Option Addr) (cap : Nat) (xs : List (Int × Int)) (w : World) (hl : lev d = true) (hm : xs.length ≤ 8796093021952) (hcap : xs.length ≤ cap) (hc : CatsAt w p xs) :
    Calls Tryd.prog 19 #[.int .i64 d, .slice p xs.length cap] w fun e w' => ∃ v, e = .returned (.tuple #[.agg #[.int .i64 (rkD d xs), v], .int .i64 (rkE d xs)]) ∧ Rw w.heap.size w' v (rkL d xs) ∧ Below w.heap.size w w' := by
  have ma : xs.length ≤ maxLen := by unfold maxLen; omega
  obtain ⟨W0, hW0⟩ : ∃ W0, W0 = w.alloc (.cells #[.int .i64 0, .slice none 0 0] 24) := ⟨_, rfl⟩
  have hB0 : Below w.heap.size w W0 := by rw [hW0]; go_grown
  have hs0 : W0.heap.size = w.heap.size + 1 := by rw [hW0]; simp
  have c0 : W0.cell? ⟨w.heap.size, 0, none⟩ = some (.int .i64 0) := by rw [hW0]; simp [go_sem]
  have c1 : W0.cell? ⟨w.heap.size, 1, none⟩ = some (.slice none 0 0) := by rw [hW0]; simp [go_sem]
  have cf : ∀ o, W0.frozen? ⟨w.heap.size, o, none⟩ = false := fun o => by rw [hW0]; simp [go_sem]
  go_enter Tryd.func19, Tryd.ntmps19
  go_wp2_with (go_at_call 44; refine (Level_any _ _).mono ?_; rintro e w' ⟨rfl, rfl⟩)
  rw [← hW0]
  clear hW0
  go_loopw [22] (fun i wr => ∃ k : Nat, k ≤ xs.length ∧ i = .int .i64 k ∧ ((xs.take k).any fun x => !can x) = false ∧ Below (w.heap.size + 1) W0 wr) (fun i _ => xs.length - (intOf i).toNat)
  case atStart => exact ⟨0, Nat.zero_le _, rfl, by simp, Below.refl _ _⟩
  case round =>
    obtain ⟨k, hk, rfl, hcn, hb⟩ := hrel
    have HCN := Lib.hid hcn
    clear hcn
    have hB : Below w.heap.size w wr := hB0.trans (hb.mono (by omega))
    have hz : w.heap.size + 1 ≤ wr.heap.size := by have := hb.size; omega
    by_cases hlt : k < xs.length
    · obtain ⟨b, off, hp, hbl, x0, x1⟩ := hc.get hB (Below.refl _ _) (Nat.le_refl _) k hlt
      have hbA : Below (w.heap.size + 1) W0 (wr.alloc (.cells #[.int .i64 xs[k].1, .int .i64 xs[k].2] 30)) := hb.alloc hz _
      rw [hp]
      clear hc
      by_cases hcx : can xs[k] = true
      · have hcx' : isCt xs[k].1 = true ∧ lev xs[k].2 = true := by simpa [can] using hcx
        obtain ⟨g1, g2⟩ := hcx'
        go_wp2_with (first
          | (go_at_call 44; refine (Level_any _ _).mono ?_; rintro e w' ⟨rfl, rfl⟩)
          | (go_at_call 45; refine (Cat_any _ _).mono ?_; rintro e w' ⟨rfl, rfl⟩))
        go_roundw
        case rel => exact ⟨k + 1, by omega, by go_num, by rw [List.take_succ_eq_append_getElem hlt, List.any_append, HCN.out]; simp [hcx], hbA⟩
        case measure => simp [intOf]; omega
      · have hany : Hid ((xs.any fun x => !can x) = true) := by
          simp only [Hid]; rw [List.any_eq_true]; exact ⟨xs[k], List.getElem_mem hlt, by simpa using hcx⟩
        have HD : Hid (rkD d xs = 0 ∧ rkL d xs = [] ∧ rkE d xs = 1) := by simp [Hid, rkD, rkL, rkE, hany.out]
        have q0 := (hbA.cell (p := ⟨w.heap.size, 0, none⟩) (by simp)).trans c0
        have q1 := (hbA.cell (p := ⟨w.heap.size, 1, none⟩) (by simp)).trans c1
        have qf : ∀ o, (wr.alloc (.cells #[.int .i64 xs[k].1, .int .i64 xs[k].2] 30)).frozen? ⟨w.heap.size, o, none⟩ = false := fun o => (hbA.frozen (p := ⟨w.heap.size, o, none⟩) (by simp)).trans (cf o)
        have hcx' : (isCt xs[k].1 && lev xs[k].2) = false := by simpa [can] using hcx
        by_cases g2 : lev xs[k].2 = true
        · have g1 : isCt xs[k].1 = false := by simpa [g2] using hcx'
          go_wp2_with (first
            | (go_at_call 44; refine (Level_any _ _).mono ?_; rintro e w' ⟨rfl, rfl⟩)
            | (go_at_call 45; refine (Cat_any _ _).mono ?_; rintro e w' ⟨rfl, rfl⟩))
          refine bodyPost_ret (by simp [results, Tryd.results19, go_sem, q0, q1]; rfl) rfl ⟨.slice none 0 0, ?_, ?_, ?_⟩
          · rw [HD.out.1, HD.out.2.2]
          · rw [HD.out.2.1]; exact .inl ⟨rfl, rfl⟩
          · exact ((hB0.trans (hbA.mono (by omega))).setCell (p := ⟨w.heap.size, 0, none⟩) (Nat.le_refl _) _).setCell (p := ⟨w.heap.size, 1, none⟩) (Nat.le_refl _) _
        · have g2' : lev xs[k].2 = false := by simpa using g2
          go_wp2_with (first
            | (go_at_call 44; refine (Level_any _ _).mono ?_; rintro e w' ⟨rfl, rfl⟩)
            | (go_at_call 45; refine (Cat_any _ _).mono ?_; rintro e w' ⟨rfl, rfl⟩))
          refine bodyPost_ret (by simp [results, Tryd.results19, go_sem, q0, q1]; rfl) rfl ⟨.slice none 0 0, ?_, ?_, ?_⟩
          · rw [HD.out.1, HD.out.2.2]
          · rw [HD.out.2.1]; exact .inl ⟨rfl, rfl⟩
          · exact ((hB0.trans (hbA.mono (by omega))).setCell (p := ⟨w.heap.size, 0, none⟩) (Nat.le_refl _) _).setCell (p := ⟨w.heap.size, 1, none⟩) (Nat.le_refl _) _
    · have hkn : xs.take k = xs := List.take_of_length_le (by omega)
      have HNO : Hid ((xs.any fun x => !can x) = false) := by have := HCN.out; rw [hkn] at this; exact this
      clear HCN hkn
      go_wp2
      go_loopw [40] (fun i wr => ∃ k2 : Nat, k2 ≤ xs.length ∧ i = .int .i64 k2 ∧ clT xs k2 = false ∧ Below (w.heap.size + 1) W0 wr) (fun i _ => xs.length - (intOf i).toNat)
      case atStart => exact ⟨0, Nat.zero_le _, rfl, rfl, hb⟩
      case round =>
        clear hb hB hz
        obtain ⟨k2, hk2, rfl, hcl, hb⟩ := hrel
        have HCL := Lib.hid hcl
        clear hcl
        obtain ⟨Wa, rfl⟩ : ∃ Wa, Wa = wr := ⟨wr, rfl⟩
        have hB : Below w.heap.size w Wa := hB0.trans (hb.mono (by omega))
        have hz : w.heap.size + 1 ≤ Wa.heap.size := by have := hb.size; omega
        by_cases hlt2 : k2 < xs.length
        · obtain ⟨b, off, hp, hbl, x0, x1⟩ := hc.get hB (Below.refl _ _) (Nat.le_refl _) k2 hlt2
          have hbA : Below (w.heap.size + 1) W0 (Wa.alloc (.cells #[.int .i64 xs[k2].1, .int .i64 xs[k2].2] 30)) := hb.alloc hz _
          have hki : (k2 : Int) ≤ (cap : Int) := by omega
          have hkn : (0 : Int) ≤ (k2 : Int) := by omega
          rw [hp]
          go_wp2
          go_loopw [49] (fun i w2 => ∃ j : Nat, j ≤ k2 ∧ i = .int .i64 j ∧ clash xs[k2] (xs.take j) = false ∧ Below (w.heap.size + 1) W0 w2 ∧ (w2.cell? ⟨Wa.heap.size, 0, none⟩ = some (.int .i64 xs[k2].1) ∧ w2.cell? ⟨Wa.heap.size, 1, none⟩ = some (.int .i64 xs[k2].2)) ∧ Wa.heap.size < w2.heap.size) (fun i _ => k2 - (intOf i).toNat)
          case atStart => exact ⟨0, Nat.zero_le _, rfl, by simp [clash], hbA, ⟨by simp [go_sem], by simp [go_sem]⟩, by simp⟩
          case round =>
            obtain ⟨j, hj, rfl, hcs, hb2, ⟨y0, y1⟩, hza⟩ := hrel
            have HCS := Lib.hid hcs
            clear hcs
            have hB2 : Below w.heap.size w wr := hB0.trans (hb2.mono (by omega))
            have hz2 : w.heap.size + 1 ≤ wr.heap.size := by have := hb2.size; omega
            by_cases hlt3 : j < k2
            · obtain ⟨b', off', hp', _, u0, u1⟩ := hc.get hB2 (Below.refl _ _) (Nat.le_refl _) j (by omega)
              rw [hp] at hp'
              simp only [Option.some.injEq, Addr.mk.injEq, and_true] at hp'
              obtain ⟨rfl, rfl⟩ := hp'
              have hbB : Below wr.heap.size wr (wr.alloc (.cells #[.int .i64 xs[j].1, .int .i64 xs[j].2] 30)) := (Below.refl _ _).alloc (Nat.le_refl _) _
              have hbB' : Below (w.heap.size + 1) W0 (wr.alloc (.cells #[.int .i64 xs[j].1, .int .i64 xs[j].2] 30)) := hb2.alloc hz2 _
              have HSN := Lib.hid (clash_snoc xs[k2] xs j (by omega))
              have hji : (j : Int) < (k2 : Int) := by omega
              by_cases h3 : (xs[k2].1 == xs[j].1) = true
              · by_cases h4 : (xs[k2].2 != xs[j].2) = true
                · have HT : Hid (clT xs xs.length = true) := by
                    have e1 : clash xs[k2] (xs.take (j + 1)) = true := by rw [HSN.out, h3, h4]; simp
                    have e2 : clash (zat xs k2) (xs.take k2) = true := by
                      rw [zat_get xs k2 hlt2]
                      unfold clash at e1 ⊢
                      rw [List.any_eq_true] at e1 ⊢
                      obtain ⟨y, hy, h⟩ := e1
                      exact ⟨y, List.mem_of_mem_take (by rw [List.take_take, Nat.min_eq_left (by omega : j + 1 ≤ k2)]; exact hy), h⟩
                    exact clT_mono (k := k2 + 1) (by simp [clT, e2]) (by omega)
                  have HD : Hid (rkD d xs = 0 ∧ rkL d xs = [] ∧ rkE d xs = 2) := by simp [Hid, rkD, rkL, rkE, HNO.out, HT.out]
                  have q0 := (hbB'.cell (p := ⟨w.heap.size, 0, none⟩) (by simp)).trans c0
                  have q1 := (hbB'.cell (p := ⟨w.heap.size, 1, none⟩) (by simp)).trans c1
                  have qf : ∀ o, (wr.alloc (.cells #[.int .i64 xs[j].1, .int .i64 xs[j].2] 30)).frozen? ⟨w.heap.size, o, none⟩ = false := fun o => (hbB'.frozen (p := ⟨w.heap.size, o, none⟩) (by simp)).trans (cf o)
                  clear hc
                  go_wp2
                  refine bodyPost_ret (by simp [results, Tryd.results19, go_sem, q0, q1]; rfl) rfl ⟨.slice none 0 0, ?_, ?_, ?_⟩
                  · rw [HD.out.1, HD.out.2.2]
                  · rw [HD.out.2.1]; exact .inl ⟨rfl, rfl⟩
                  · exact ((hB0.trans (hbB'.mono (by omega))).setCell (p := ⟨w.heap.size, 0, none⟩) (Nat.le_refl _) _).setCell (p := ⟨w.heap.size, 1, none⟩) (Nat.le_refl _) _
                · have h4' : (xs[k2].2 != xs[j].2) = false := by simpa using h4
                  clear hc
                  go_wp2
                  go_roundw
                  case rel => exact ⟨j + 1, by omega, by go_num, by rw [HSN.out, HCS.out, h4']; simp, hbB', ⟨(hbB.cell (p := ⟨Wa.heap.size, 0, none⟩) hza).trans y0, (hbB.cell (p := ⟨Wa.heap.size, 1, none⟩) hza).trans y1⟩, by simp; omega⟩
                  case measure => simp [intOf]; omega
              · have h3' : (xs[k2].1 == xs[j].1) = false := by simpa using h3
                clear hc
                go_wp2
                go_roundw
                case rel => exact ⟨j + 1, by omega, by go_num, by rw [HSN.out, HCS.out, h3']; simp, hbB', ⟨(hbB.cell (p := ⟨Wa.heap.size, 0, none⟩) hza).trans y0, (hbB.cell (p := ⟨Wa.heap.size, 1, none⟩) hza).trans y1⟩, by simp; omega⟩
                case measure => simp [intOf]; omega
            · obtain rfl : j = k2 := by omega
              have HN2 : Hid (clT xs (j + 1) = false) := by simp only [Hid, clT]; rw [HCL.out, zat_get xs j hlt2, HCS.out]; rfl
              clear hc
              go_wp2
              refine ⟨⟨j + 1, by omega, by go_num, HN2.out, hb2⟩, ?_⟩
              simp [intOf]; omega
        · obtain rfl : k2 = xs.length := by omega
          have HD : Hid (rkD d xs = fitD d (rmakeS d xs) ∧ rkL d xs = fitL (rmakeS d xs) ∧ rkE d xs = fitE (rmakeS d xs)) := by simp [Hid, rkD, rkL, rkE, HNO.out, HCL.out]
          clear HNO HCL
          have c0 := (hb.cell (p := ⟨w.heap.size, 0, none⟩) (by simp)).trans c0
          have c1 := (hb.cell (p := ⟨w.heap.size, 1, none⟩) (by simp)).trans c1
          have cf : ∀ o, Wa.frozen? ⟨w.heap.size, o, none⟩ = false := fun o => (hb.frozen (p := ⟨w.heap.size, o, none⟩) (by simp)).trans (cf o)
          have hca := hc.below hB
          clear hc hb hs0
          obtain ⟨X, hX⟩ : ∃ X, X = (Wa.alloc (.cells #[.int .i64 d, .slice p xs.length cap] 24)).alloc (.cells #[.int .i64 d, .slice none 0 0] 24) := ⟨_, rfl⟩
          have hBX : Below Wa.heap.size Wa X := by rw [hX]; go_grown
          have hsX : X.heap.size = Wa.heap.size + 1 + 1 := by rw [hX]; simp
          have a0 : X.cell? ⟨Wa.heap.size, 0, none⟩ = some (.int .i64 d) := by rw [hX]; simp [go_sem]
          have a1 : X.cell? ⟨Wa.heap.size, 1, none⟩ = some (.slice p xs.length cap) := by rw [hX]; simp [go_sem]
          have o0 : X.cell? ⟨Wa.heap.size + 1, 0, none⟩ = some (.int .i64 d) := by rw [hX]; simp [go_sem]
          have o1 : X.cell? ⟨Wa.heap.size + 1, 1, none⟩ = some (.slice none 0 0) := by rw [hX]; simp [go_sem]
          have of : ∀ o, X.frozen? ⟨Wa.heap.size + 1, o, none⟩ = false := fun o => by rw [hX]; simp [go_sem]
          have hbA : Below X.heap.size X (X.alloc (.cells #[.int .i64 d, .slice p xs.length cap] 24)) := by go_grown
          have hbA' := hBX.trans (hbA.mono hBX.size)
          have hN := Named_any X.heap.size [⟨d, p, cap, xs⟩] _ (by simp) (by simp) (by simp [total]; omega) (labs1m (A := ⟨d, p, cap, xs⟩) (World.alloc_heap_new X (.cells #[.int .i64 d, .slice p xs.length cap] 24)) ⟨hca.below hbA', ma⟩)
          have hnm : namedS [⟨d, p, cap, xs⟩] = namedS [allLab d xs] := rfl
          simp only [List.length_cons, List.length_nil, Nat.zero_add] at hN
          rw [hnm, hsX, hX] at hN
          have hlen : (namedS [allLab d xs]).length ≤ 8796093021952 := by
            have := named_len [allLab d xs] 1
            simp [total, allLab] at this; simp [allLab]; omega
          have HDD : Hid (rmakeS d xs = shortS d (rowS (atS d xs) (namedS [allLab d xs]))) := rfl
          go_wp2_with (go_at_call 57; refine hN.mono ?_; rintro e w1 ⟨g, cap1, rfl, hown, hb1⟩; refine Hid.out ?_)
          refine Lib.hid ?_
          rw [← hX] at hown hb1
          have hb01 : Below X.heap.size X w1 := hbA.trans (hb1.mono hbA.size)
          have hcell : ∀ k, (h : k < (namedS [allLab d xs]).length) → w1.cell? ⟨g, k, none⟩ = some (.int .i64 (namedS [allLab d xs])[k]) := fun k h => by
            rw [hown.cellAt k (by omega)]; simp [icells, h]
          have hg := hown.lt g rfl
          have hncap : (namedS [allLab d xs]).length ≤ cap1 := by
            rcases hown.2 with ⟨h, _⟩ | ⟨_, _, _, h, _, _, h3, _⟩
            · cases h
            · cases h; exact h3
          have HCELL : Hid (∀ k, (h : k < (namedS [allLab d xs]).length) → w1.cell? ⟨g, k, none⟩ = some (.int .i64 (namedS [allLab d xs])[k])) := hcell
          have hg1 : Wa.heap.size + 1 + 1 ≤ g := by have := hg.1; simp at this; omega
          have hg2 := hg.2
          clear hN hown hb1 hcell hX hbA hbA' hg hnm
          obtain ⟨cs, hcs⟩ : ∃ cs, cs = namedS [allLab d xs] := ⟨_, rfl⟩
          rw [← hcs] at HCELL HDD hlen hncap ⊢
          clear hcs
          have hB1 : Below Wa.heap.size Wa w1 := hBX.trans (hb01.mono hBX.size)
          have hz1 : Wa.heap.size + 1 + 1 ≤ w1.heap.size := by have := hb01.size; omega
          have c0' := (hB1.cell (p := ⟨w.heap.size, 0, none⟩) (by simp; omega)).trans c0
          have c1' := (hB1.cell (p := ⟨w.heap.size, 1, none⟩) (by simp; omega)).trans c1
          have cf' : ∀ o, w1.frozen? ⟨w.heap.size, o, none⟩ = false := fun o => (hB1.frozen (p := ⟨w.heap.size, o, none⟩) (by simp; omega)).trans (cf o)
          have o0' := (hb01.cell (p := ⟨Wa.heap.size + 1, 0, none⟩) (by simp; omega)).trans o0
          have o1' := (hb01.cell (p := ⟨Wa.heap.size + 1, 1, none⟩) (by simp; omega)).trans o1
          have of' : ∀ o, w1.frozen? ⟨Wa.heap.size + 1, o, none⟩ = false := fun o => (hb01.frozen (p := ⟨Wa.heap.size + 1, o, none⟩) (by simp; omega)).trans (of o)
          have a0' := (hb01.cell (p := ⟨Wa.heap.size, 0, none⟩) (by simp; omega)).trans a0
          have a1' := (hb01.cell (p := ⟨Wa.heap.size, 1, none⟩) (by simp; omega)).trans a1
          clear hb01 hBX hsX a0 a1 c0 c1 o0 o1 cf of
          go_wp2
          go_loopw [77] (fun i wr => ∃ (k : Nat) (v : Value), k ≤ cs.length ∧ i = .int .i64 k ∧ Rw w1.heap.size wr v (shortS d (rowS (atS d xs) (cs.take k))) ∧ wr.cell? ⟨Wa.heap.size + 1, 0, none⟩ = some (.int .i64 d) ∧ wr.cell? ⟨Wa.heap.size + 1, 1, none⟩ = some v ∧ (∀ o, wr.frozen? ⟨Wa.heap.size + 1, o, none⟩ = false) ∧ Kp (Wa.heap.size + 1) w1 wr) (fun i _ => cs.length - (intOf i).toNat)
          case atStart => exact ⟨0, .slice none 0 0, Nat.zero_le _, rfl, .inl ⟨rfl, rfl⟩, o0', o1', of', Kp.refl _ _⟩
          case round =>
            obtain ⟨k, v, hk, rfl, hR, r0, r1, rf, hK⟩ := hrel
            have hzw : Wa.heap.size + 1 + 1 ≤ wr.heap.size := by have := hK.size; omega
            have p0 := (hK.cell (p := ⟨Wa.heap.size, 0, none⟩) (by simp; omega) (by simp)).trans a0'
            have p1 := (hK.cell (p := ⟨Wa.heap.size, 1, none⟩) (by simp; omega) (by simp)).trans a1'
            have hBw : Below Wa.heap.size Wa wr := hB1.trans (hK.below (by omega) (by omega))
            by_cases hlt : k < cs.length
            · have hx : wr.cell? ⟨g, k, none⟩ = some (.int .i64 cs[k]) := (hK.cell (p := ⟨g, k, none⟩) hg2 (by simp; omega)).trans (HCELL.out k hlt)
              have HS : Hid (shortS d (rowS (atS d xs) (cs.take (k + 1))) = putS d (shortS d (rowS (atS d xs) (cs.take k))) cs[k] (atS d xs cs[k])) := row_put _ _ cs k hlt
              have hle : (shortS d (rowS (atS d xs) (cs.take k))).length ≤ k := by
                refine Nat.le_trans (short_le _ _) ?_
                rw [row_len]; exact List.length_take_le _ _
              have hki : (k : Int) < (cs.length : Int) := by omega
              have HA : Hid (∀ W, Below wr.heap.size wr W → CatsAt W p xs) := fun W h => (hca.below hBw).below h
              obtain ⟨pv, cv, rfl, hcv, hlv⟩ := hR.out
              clear hca hcv
              obtain ⟨zs, hzs⟩ : ∃ zs, zs = shortS d (rowS (atS d xs) (cs.take k)) := ⟨_, rfl⟩
              rw [← hzs] at hR HS hle r1 hlv
              have HR : Hid (∀ W, Below wr.heap.size wr W → Rw w1.heap.size W (.slice pv zs.length cv) zs) := fun W h => hR.below h
              have s0 : ∀ n os, (gx wr n os).cell? ⟨Wa.heap.size, 0, none⟩ = some (.int .i64 d) := fun n os => cell_gx (a := ⟨Wa.heap.size, 0, none⟩) (by simp; omega) p0 n os
              have s1 : ∀ n os, (gx wr n os).cell? ⟨Wa.heap.size, 1, none⟩ = some (.slice p xs.length cap) := fun n os => cell_gx (a := ⟨Wa.heap.size, 1, none⟩) (by simp; omega) p1 n os
              have u0 : ∀ n os, (gx wr n os).cell? ⟨Wa.heap.size + 1, 0, none⟩ = some (.int .i64 d) := fun n os => cell_gx (a := ⟨Wa.heap.size + 1, 0, none⟩) (by simp; omega) r0 n os
              have u1 : ∀ n os, (gx wr n os).cell? ⟨Wa.heap.size + 1, 1, none⟩ = some (.slice pv zs.length cv) := fun n os => cell_gx (a := ⟨Wa.heap.size + 1, 1, none⟩) (by simp; omega) r1 n os
              have HK := Lib.hid hK
              have HP : Hid (∀ W, Below wr.heap.size wr W → Calls Tryd.prog 58 #[.agg #[.int .i64 d, .slice pv zs.length cv], .int .i64 cs[k], .int .i64 (atS d xs cs[k])] W fun e w' => ∃ v', e = .returned (.agg #[.int .i64 d, v']) ∧ Rw w1.heap.size w' v' (putS d zs cs[k] (atS d xs cs[k])) ∧ Below W.heap.size W w') := fun W h => Put_any w1.heap.size d cs[k] (atS d xs cs[k]) (.slice pv zs.length cv) zs W (by omega) (Nat.le_trans HK.out.size h.size) (HR.out W h)
              clear hR hzs hK
              go_wp2
              refine wp_region_tail_gx 5 (by kernel_rfl) (by kernel_rfl) ?_
              simp only [List.take_succ_cons, List.take_zero, List.drop_succ_cons, List.drop_zero]
              repeat (quiet_step (first
                | (go_at_call 17; with_reducible exact calls_gx (refAt_any d cs[k] p cap xs _ ma (HA.out _ (gx_below _ _ _))))))
              refine wpQuiet_nil ?_
              intro _ hw'
              obtain ⟨⟨nq, osq⟩, hw''⟩ := hw'
              subst hw''
              go_wp2_with (go_at_call 58; refine Calls.mono (HP.out _ (gx_below _ _ _)) ?_; rintro e w5 ⟨v5, rfl, hR5, hb5⟩; refine Hid.out ?_)
              refine Lib.hid ?_
              obtain ⟨p5, c5, rfl, hc5, hl5⟩ := hR5.out
              have hk5 := bel_put HK.out hb5
              obtain ⟨y0, y1, yf⟩ := out_kept (o0 := r0) (o1 := r1) (of := rf) hb5 (by omega)
              clear hb5 hc5 s0 s1 u0 u1 HR HA HP
              go_wp2
              go_roundw
              case rel =>
                refine ⟨k + 1, _, by omega, by go_num, by rw [HS.out]; exact Rw.set (Rw.set hR5 (by simp; omega) _) (by simp; omega) _, by simp [go_sem, y0], World.cell?_setCell_same' _ _ _ (by simp [go_sem, y1]), fun o => by rw [World.frozen?_setCell, World.frozen?_setCell]; exact yf o, (hk5.set _ _).set _ _⟩
              case measure => simp [intOf]; omega
            · have hk' : cs.take k = cs := List.take_of_length_le (by omega)
              rw [hk', ← HDD.out] at hR
              have hC := Cut_any w1.heap.size d v (rmakeS d xs) wr hR
              rw [← HD.out.1, ← HD.out.2.1, ← HD.out.2.2] at hC
              obtain ⟨pv, cv, rfl, hcv, hlv⟩ := hR.out
              clear hk' hca hcv
              have x0 := (hK.cell (p := ⟨w.heap.size, 0, none⟩) (by simp; omega) (by simp; omega)).trans c0'
              have x1 := (hK.cell (p := ⟨w.heap.size, 1, none⟩) (by simp; omega) (by simp; omega)).trans c1'
              have xf : ∀ o, wr.frozen? ⟨w.heap.size, o, none⟩ = false := fun o => (hK.frozen (p := ⟨w.heap.size, o, none⟩) (by simp; omega) (by simp; omega)).trans (cf' o)
              clear p0 p1
              go_wp2_with (go_at_call 59; refine hC.mono ?_; rintro e w5 ⟨v5, rfl, hR5, hb5⟩; refine Hid.out ?_)
              refine Lib.hid ?_
              obtain ⟨p5, c5, rfl, hc5, hl5⟩ := hR5.out
              have y0 := (hb5.cell (p := ⟨w.heap.size, 0, none⟩) (by simp; omega)).trans x0
              have y1 := (hb5.cell (p := ⟨w.heap.size, 1, none⟩) (by simp; omega)).trans x1
              have yf : ∀ o, w5.frozen? ⟨w.heap.size, o, none⟩ = false := fun o => (hb5.frozen (p := ⟨w.heap.size, o, none⟩) (by simp; omega)).trans (xf o)
              clear hC hc5 x0 x1 xf
              go_wp2
              refine bodyPost_ret (by simp [results, Tryd.results19, go_sem, y0, y1]; rfl) rfl ⟨_, rfl, ?_, ?_⟩
              · exact Rw.mono (Rw.set (Rw.set hR5 (by simp; omega) _) (by simp; omega) _) (by omega)
              · exact ((hB.trans ((hBw.trans (hb5.mono hBw.size)).mono hB.size)).setCell (p := ⟨w.heap.size, 0, none⟩) (Nat.le_refl _) _).setCell (p := ⟨w.heap.size, 1, none⟩) (Nat.le_refl _) _
end Go.Proofs.YtibnmiigfiofmaaDoor

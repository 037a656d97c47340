/- What Bytes of package label answers, for every label. -/
import Derived.Test.YtfpjeclbilhgdaaDoorShort
import Derived.Test.YtfpjeclbilhgdaaDoorPairs
import Derived.Laws.IdiomStrings
namespace Go.Proofs.YtfpjeclbilhgdaaDoor
open Go.RowKit Go.Sort

def bcells (ns : List Int) : List Value := ns.map fun n => .int .u8 (n % 256)
def toU (ns : List Int) : List UInt8 := ns.map fun n => UInt8.ofNat (n % 256).toNat
theorem toU_get (ns : List Int) (j : Nat) (h : j < (toU ns).length) : (bcells ns)[j]? = some (.int .u8 ((toU ns)[j].toNat : Int)) := by
  have hj : j < ns.length := by simpa [toU] using h
  simp only [bcells, toU, List.getElem?_map, List.getElem?_eq_getElem hj, Option.map_some, List.getElem_map]
  have : ((UInt8.ofNat (ns[j] % 256).toNat).toNat : Int) = ns[j] % 256 := by
    rw [UInt8.toNat_ofNat']
    have := Int.emod_nonneg ns[j] (show (256 : Int) ≠ 0 by decide)
    have := Int.emod_lt_of_pos ns[j] (show (0 : Int) < 256 by decide)
    omega
  rw [this]
theorem info5 : (Tryd.prog.info? 5).map (fun i => (i.zero, i.size, i.bytes)) = some (some (.int .u8 0), 1, 1) := by kernel_rfl

theorem bcells_snoc (l : List Int) (n : Int) : bcells (l ++ [n]) = bcells l ++ [.int .u8 (n % 256)] := by simp [bcells]
theorem own_ne {w : World} {B : Nat} {e t : TypeId} {size : Nat} {v : Value} {n j : Nat} {xs : List Value} {cs : Array Value} {fz : Nat × Nat} (h : w.ownsRow B e size v n xs) (hj : w.heap[j]? = some (.cells cs t fz)) (hne : e ≠ t) : some j ≠ v.ownBlock := by
  intro he
  rcases h.2 with ⟨rfl, _⟩ | ⟨g, cap, cur, rfl, _, hh, _⟩
  · simp [Value.ownBlock] at he
  · simp only [Value.ownBlock, Option.some.injEq] at he
    subst he
    rw [hj] at hh
    simp only [Option.some.injEq, Obj.cells.injEq] at hh
    exact hne hh.2.1.symm

def catI (c : Int) (k : Nat) : List Int := (List.range k).map fun i => c / 2 ^ (8 * i)
def entI (x : Int × Int) : List Int := catI x.1 8 ++ [x.2]
def entsI : List (Int × Int) → List Int
  | [] => []
  | x :: xs => entI x ++ entsI xs
def bytesI (d : Int) (n : Nat) (xs : List (Int × Int)) : List Int := [d, (n : Int)] ++ entsI xs
theorem entsI_append (xs ys : List (Int × Int)) : entsI (xs ++ ys) = entsI xs ++ entsI ys := by
  induction xs with
  | nil => rfl
  | cons x xs ih => simp [entsI, ih]
theorem entsI_len (xs : List (Int × Int)) : (entsI xs).length = xs.length * 9 := by
  induction xs with
  | nil => rfl
  | cons x xs ih => simp only [entsI, entI, catI, List.length_append, List.length_map, List.length_range, List.length_cons, List.length_nil, ih]; omega
theorem bytesI_snoc (d : Int) (n : Nat) (xs : List (Int × Int)) (k : Nat) (h : k < xs.length) : bytesI d n (xs.take (k + 1)) = bytesI d n (xs.take k) ++ entI xs[k] := by
  unfold bytesI
  rw [List.take_succ_eq_append_getElem h, entsI_append, List.append_assoc]
  simp [entsI]
theorem bytesI_len (d : Int) (n : Nat) (xs : List (Int × Int)) (k : Nat) (h : k ≤ xs.length) : (bytesI d n (xs.take k)).length = 2 + k * 9 := by
  unfold bytesI
  rw [List.length_append, entsI_len, List.length_take, Nat.min_eq_left h]; rfl
theorem catI_succ (c : Int) (k : Nat) : catI c (k + 1) = catI c k ++ [c / 2 ^ (8 * k)] := by
  unfold catI; rw [List.range_succ, List.map_append]; rfl

set_option maxRecDepth 100000 in
set_option maxHeartbeats 1000000 in
theorem Bytes_any (d : Int) (p : Option Addr) (cap : Nat) (xs : List (Int × Int)) (w : World) (hm : xs.length * 16 ≤ 140737488355328) (hc : CatsAt w p xs) :
    Calls Tryd.prog 12 #[.agg #[.int .i64 d, .slice p xs.length cap]] w fun e w' => e = .returned (.string ⟨(toU (bytesI d xs.length xs)).toArray⟩) ∧ Below w.heap.size w w' := by
  obtain ⟨i0, hi, hz0, hz1, hz2⟩ := info_parts info5
  have hw1 : Below w.heap.size w ((w.alloc (.cells #[.int .i64 d, .slice p xs.length cap] 24)).alloc (.cells #[.int .u8 (d % 256), .int .u8 ((xs.length : Int) % 256)] 5)) := by go_grown
  have hl0 := World.ownsRow_lit (base := w.heap.size + 1) (e := 5) (size := 1) (w.alloc (.cells #[.int .i64 d, .slice p xs.length cap] 24)) #[.int .u8 (d % 256), .int .u8 ((xs.length : Int) % 256)] 2 (by simp) (by decide) rfl
  rw [World.size_alloc] at hl0
  go_enter Tryd.func12, Tryd.ntmps12
  go_wp2
  go_loopw [3, 18] (fun r i wr => ∃ k : Nat, k ≤ xs.length ∧ i = .int .i64 k ∧ wr.ownsRow (w.heap.size + 1) 5 1 r (bytesI d xs.length (xs.take k)).length (bcells (bytesI d xs.length (xs.take k))) ∧ Below w.heap.size w wr ∧ w.heap.size + 1 ≤ wr.heap.size) (fun _ i _ => xs.length - (intOf i).toNat)
  case atStart => exact ⟨0, Nat.zero_le _, rfl, hl0, hw1, by simp⟩
  case round =>
    obtain ⟨k, hk, rfl, hown, hB, hz⟩ := hrel
    obtain ⟨W1, rfl⟩ : ∃ W1, W1 = wr := ⟨wr, rfl⟩
    by_cases hlt : k < xs.length
    · obtain ⟨b, off, rfl, hbl, c0, c1⟩ := hc.get hB (Below.refl _ _) (Nat.le_refl _) k hlt
      clear hc hl0
      have HS : Hid (bytesI d xs.length (xs.take (k + 1)) = bytesI d xs.length (xs.take k) ++ entI xs[k]) := bytesI_snoc d _ xs k hlt
      have hlen := bytesI_len d xs.length xs k (by omega)
      have HL : Hid ((bytesI d xs.length (xs.take k)).length = 2 + k * 9) := hlen
      clear hlen
      go_wp2
      go_loopw [3, 22] (fun r i w2 => ∃ j : Nat, j ≤ 8 ∧ i = .int .i64 j ∧ w2.ownsRow (w.heap.size + 1) 5 1 r (bytesI d xs.length (xs.take k) ++ catI xs[k].1 j).length (bcells (bytesI d xs.length (xs.take k) ++ catI xs[k].1 j)) ∧ Below w.heap.size w w2 ∧ W1.heap.size + 1 ≤ w2.heap.size ∧ w2.heap[W1.heap.size]? = some (.cells #[.int .i64 xs[k].1, .int .i64 xs[k].2] 35 (0, 0))) (fun _ i _ => 8 - (intOf i).toNat)
      case atStart => exact ⟨0, by omega, rfl, by simp only [catI, List.range_zero, List.map_nil, List.append_nil]; exact hown.alloc _, by go_grown, by simp, World.alloc_heap_new _ _⟩
      case round =>
        obtain ⟨j, hj, rfl, hown2, hB2, hz2', hE⟩ := hrel
        have e0 : wr.cell? ⟨W1.heap.size, 0, none⟩ = some (.int .i64 xs[k].1) := by simp [World.cell?, hE]
        have e1 : wr.cell? ⟨W1.heap.size, 1, none⟩ = some (.int .i64 xs[k].2) := by simp [World.cell?, hE]
        have HE : Hid (wr.heap[W1.heap.size]? = some (.cells #[.int .i64 xs[k].1, .int .i64 xs[k].2] 35 (0, 0))) := hE
        clear hE
        by_cases hlt2 : j < 8
        · have hone := cell_one_new wr (.int .u8 (xs[k].1 / 2 ^ (8 * j) % 256)) 5
          have HO : Hid (∀ i u, [Value.int .u8 (xs[k].1 / 2 ^ (8 * j) % 256)][i]? = some u → (wr.alloc (.cells #[.int .u8 (xs[k].1 / 2 ^ (8 * j) % 256)] 5)).cell? ((⟨wr.heap.size, 0, none⟩ : Addr).add i) = some u) := hone
          clear hone
          have hownA := hown2.alloc (.cells #[.int .u8 (xs[k].1 / 2 ^ (8 * j) % 256)] 5)
          have hl2 : (bytesI d xs.length (xs.take k) ++ catI xs[k].1 j).length = 2 + k * 9 + j := by rw [List.length_append, HL.out]; simp [catI]
          have h63 : (bytesI d xs.length (xs.take k) ++ catI xs[k].1 j).length + 1 ≤ maxLen := by unfold maxLen; omega
          have hby : ((bytesI d xs.length (xs.take k) ++ catI xs[k].1 j).length + 1) * 1 ≤ 140737488355328 := by omega
          clear hl2
          have hbA : Below w.heap.size w (wr.alloc (.cells #[.int .u8 (xs[k].1 / 2 ^ (8 * j) % 256)] 5)) := hB2.alloc hB2.size _
          go_wp2_with (at_builtin; refine wpList_append_own _ rfl _ _ 39 rfl (w.heap.size + 1) 5 i0 (.int .u8 0) 1 1 Tryd.underlying39 hi hz0 hz1 hz2 rfl (by decide) _ _ _ rfl hownA ⟨wr.heap.size, 0, none⟩ 1 1 [.int .u8 (xs[k].1 / 2 ^ (8 * j) % 256)] rfl rfl HO.out (fun x hx => by simp at hx; subst hx; rfl) h63 hby (by simp <;> omega) ?_; intro v' w3 hown' hgrow3 hnil3)
          have hB3 : Below w.heap.size w w3 := Below.grown hbA hgrow3 (by simp <;> have := hB2.size <;> omega) (fun g hg => by have := (hown2.lt g hg).1; omega)
          have blk : w3.heap[W1.heap.size]? = (wr.alloc (.cells #[.int .u8 (xs[k].1 / 2 ^ (8 * j) % 256)] 5)).heap[W1.heap.size]? := hgrow3.block _ (by simp <;> omega) (own_ne hown2 HE.out (by decide))
          have blk2 : w3.heap[W1.heap.size]? = wr.heap[W1.heap.size]? := blk.trans (Below.heap_alloc _ _ _ (by omega))
          go_roundw
          case rel =>
            refine ⟨j + 1, by omega, by go_num, ?_, hB3, by have := hgrow3.size; simp at this; omega, blk2.trans HE.out⟩
            rw [catI_succ, ← List.append_assoc, List.length_append, bcells_snoc]
            exact hown'
          case measure => simp [intOf]; omega
        · obtain rfl : j = 8 := by omega
          have HO : Hid (∀ i u, [Value.int .u8 (xs[k].2 % 256)][i]? = some u → (wr.alloc (.cells #[.int .u8 (xs[k].2 % 256)] 5)).cell? ((⟨wr.heap.size, 0, none⟩ : Addr).add i) = some u) := cell_one_new wr (.int .u8 (xs[k].2 % 256)) 5
          have hownA := hown2.alloc (.cells #[.int .u8 (xs[k].2 % 256)] 5)
          have hl2 : (bytesI d xs.length (xs.take k) ++ catI xs[k].1 8).length = 2 + k * 9 + 8 := by rw [List.length_append, HL.out]; simp [catI]
          have h63 : (bytesI d xs.length (xs.take k) ++ catI xs[k].1 8).length + 1 ≤ maxLen := by unfold maxLen; omega
          have hby : ((bytesI d xs.length (xs.take k) ++ catI xs[k].1 8).length + 1) * 1 ≤ 140737488355328 := by omega
          clear hl2
          have hbA : Below w.heap.size w (wr.alloc (.cells #[.int .u8 (xs[k].2 % 256)] 5)) := hB2.alloc hB2.size _
          go_wp2_with (at_builtin; refine wpList_append_own _ rfl _ _ 39 rfl (w.heap.size + 1) 5 i0 (.int .u8 0) 1 1 Tryd.underlying39 hi hz0 hz1 hz2 rfl (by decide) _ _ _ rfl hownA ⟨wr.heap.size, 0, none⟩ 1 1 [.int .u8 (xs[k].2 % 256)] rfl rfl HO.out (fun x hx => by simp at hx; subst hx; rfl) h63 hby (by simp <;> omega) ?_; intro v' w3 hown' hgrow3 hnil3)
          have hB3 : Below w.heap.size w w3 := Below.grown hbA hgrow3 (by simp <;> have := hB2.size <;> omega) (fun g hg => by have := (hown2.lt g hg).1; omega)
          go_roundw
          case rel =>
            refine ⟨k + 1, by omega, by go_num, ?_, hB3, by have := hgrow3.size; simp at this; omega⟩
            rw [HS.out, entI, ← List.append_assoc, List.length_append, bcells_snoc]
            exact hown'
          case measure => simp [intOf]; omega
    · have hk' : xs.take k = xs := List.take_of_length_le (by omega)
      rw [hk'] at hown
      clear hk' hc hl0
      have hlU : (toU (bytesI d xs.length xs)).length = (bytesI d xs.length xs).length := by simp [toU]
      have hpos : 0 < (bytesI d xs.length xs).length := by simp [bytesI]
      rcases hown.2 with ⟨-, h0⟩ | ⟨g, cap', cur, rfl, -, -, -, -, -, -⟩
      · omega
      · have hcv := run_convert_bytes_back (P := Tryd.prog) W1 39 9 5 ⟨g, 0, none⟩ cap' (toU (bytesI d xs.length xs)) Tryd.underlying39 Tryd.underlying5 Tryd.underlying9 (fun j hj => hown.cells (g := g) rfl j _ (toU_get _ j hj))
        rw [hlU] at hcv
        clear hlU
        go_wp2
        go_ret
        exact ⟨rfl, hB⟩
end Go.Proofs.YtfpjeclbilhgdaaDoor

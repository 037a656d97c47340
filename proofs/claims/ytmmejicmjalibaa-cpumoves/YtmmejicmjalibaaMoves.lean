/- CpuMoves: plain facts. -/
import Derived.Test.YtmmejicmjalibaaLittle
namespace Go.Proofs.Ytmmejicmjalibaa
open Go.RowKit Go.Lib
theorem numL_eight (X k : Nat) : numL (eightR (X : Int) k) = X % 2 ^ (8 * k) := by
  induction k with
  | zero => simp [eightR, numL, Nat.mod_one]
  | succ k ih =>
    rw [eightR_succ, numL_snoc, ih, eightR_len]
    have h1 : (byteR (X : Int) k).toNat = X / 2 ^ (8 * k) % 256 := by
      have := byteR_nat (X : Int) k
      have e : ((X : Int) / 2 ^ (8 * k) % 256) = ((X / 2 ^ (8 * k) % 256 : Nat) : Int) := by simp
      omega
    rw [h1, show 8 * (k + 1) = 8 * k + 8 from by omega, Nat.pow_add, show (2 : Nat) ^ 8 = 256 from rfl, Nat.mod_mul, Nat.mul_comm (2 ^ (8 * k)) (X / 2 ^ (8 * k) % 256)]
theorem over_in (d s : List UInt8) (a : Nat) (h : a + s.length ≤ d.length) : ((over d a s).drop a).take s.length = s := by
  refine ext_getD (by simp [over_len]; omega) (fun j hj => ?_)
  have hj' : j < s.length := by simp [over_len] at hj; omega
  rw [getD_take _ _ _ hj', getD_drop, over_get _ _ _ _ (by omega), if_pos (by omega)]
  congr 1; omega
theorem over_out4 (d s : List UInt8) (a p k : Nat) (h : p + k ≤ a) (hd : p + k ≤ d.length) : ((over d a s).drop p).take k = (d.drop p).take k := by
  refine ext_getD (by simp [over_len]) (fun j hj => ?_)
  have hj' : j < k := by simp [over_len] at hj; omega
  rw [getD_take _ _ _ hj', getD_take _ _ _ hj', getD_drop, getD_drop, over_get _ _ _ _ (by omega), if_neg (by omega)]
/-- The registers of the law. -/
def r2v (x y : Int) : List Int := [0, x, y, 0, 0, 0, 0, 0, 0, 0, 0, 0, 0, 0, 0, 0]
theorem r2v_ok {x y : Int} (hx : u64ok x) (hy : u64ok y) : okR (r2v x y) 0 := by
  refine ⟨rfl, fun z hz => ?_, zero_ok⟩
  simp only [r2v, List.mem_cons, List.mem_nil_iff, or_false] at hz
  rcases hz with rfl | rfl | rfl | rfl | rfl | rfl | rfl | rfl | rfl | rfl | rfl | rfl | rfl | rfl | rfl | rfl <;> first | exact zero_ok | assumption
/-- The bytes of the law. -/
def mvT (k : Nat) : List UInt8 := if k = 8 then [21, 1, 2, 0, 20, 3, 2, 0] else [19, 1, 2, 0, 18, 3, 2, 0]
def mvD (k m : Nat) : List UInt8 := mvT k ++ List.replicate (56 + m) 0
theorem mvD_len (k m : Nat) : (mvD k m).length = 64 + m := by unfold mvD mvT; split <;> simp <;> omega
theorem wrap_id {x : Int} (h : u64ok x) : IntKind.u64.wrap x = x := by rw [IntKind.wrap_u64]; exact Int.emod_eq_of_lt h.1 h.2
theorem doS_mem (c : Cod) (r : List Int) (pc : Int) (d : List UInt8) (h : 18 ≤ c.op ∧ c.op ≤ 21) : doS c r pc d =
    (if adI (r.getD c.b.toNat 0) c.n + szI c.op ≤ d.length then
      (if c.op = 18 ∨ c.op = 20 then (r.set c.a.toNat (numL ((d.drop (adI (r.getD c.b.toNat 0) c.n).toNat).take (szI c.op)) : Nat), nxI pc, d, 0)
       else (r, nxI pc, over d (adI (r.getD c.b.toNat 0) c.n).toNat (eightR (r.getD c.a.toNat 0) (szI c.op)), 0))
     else (r, pc, d, 3)) := by
  unfold doS
  rw [if_neg (by omega), if_neg (by omega), if_neg (by omega), if_neg (by omega), if_pos h]
theorem ad0 {y : Int} (hy : u64ok y) : adI y 0 = y := by unfold adI; rw [wrap_id zero_ok, Int.add_zero, wrap_id hy]
theorem mv_step1 (k m : Nat) (x y : Int) (hk : k = 1 ∨ k = 8) (hy : u64ok y) : stepS (r2v x y) 0 (mvD k m) =
    (if y + k ≤ (64 + m : Nat) then (r2v x y, 4, over (mvD k m) y.toNat (eightR x k), 0) else (r2v x y, 0, mvD k m, 3)) := by
  have hl := mvD_len k m
  have had := ad0 hy
  unfold stepS
  rw [if_pos (by rw [hl]; omega), show (0 : Int).toNat = 0 from rfl]
  rcases hk with rfl | rfl
  · have hd : decC ⟨(((mvD 1 m).drop 0).take 4).toArray⟩ = some ⟨19, 1, 2, 0, 0⟩ := by
      show decC ⟨#[19, 1, 2, 0]⟩ = some ⟨19, 1, 2, 0, 0⟩
      decide +kernel
    rw [hd]
    simp only
    rw [doS_mem _ _ _ _ (by decide), hl]
    show (if adI y 0 + _ ≤ _ then (if ((19 : Int) = 18 ∨ (19 : Int) = 20) then _ else (_, nxI 0, over _ (adI y 0).toNat (eightR x 1), 0)) else _) = _
    rw [had, if_neg (by decide : ¬ ((19 : Int) = 18 ∨ (19 : Int) = 20))]
    rfl
  · have hd : decC ⟨(((mvD 8 m).drop 0).take 4).toArray⟩ = some ⟨21, 1, 2, 0, 0⟩ := by
      show decC ⟨#[21, 1, 2, 0]⟩ = some ⟨21, 1, 2, 0, 0⟩
      decide +kernel
    rw [hd]
    simp only
    rw [doS_mem _ _ _ _ (by decide), hl]
    show (if adI y 0 + _ ≤ _ then (if ((21 : Int) = 18 ∨ (21 : Int) = 20) then _ else (_, nxI 0, over _ (adI y 0).toNat (eightR x 8), 0)) else _) = _
    rw [had, if_neg (by decide : ¬ ((21 : Int) = 18 ∨ (21 : Int) = 20))]
    rfl
theorem mv_step2 (k m : Nat) (x y : Int) (hk : k = 1 ∨ k = 8) (hx : u64ok x) (hy : u64ok y) (h8 : 8 ≤ y) (hf : y + k ≤ (64 + m : Nat)) : stepS (r2v x y) 4 (over (mvD k m) y.toNat (eightR x k)) =
    ((r2v x y).set 3 (x % 2 ^ (8 * k)), 8, over (mvD k m) y.toNat (eightR x k), 0) := by
  have hl := mvD_len k m
  have had := ad0 hy
  obtain ⟨X, rfl⟩ : ∃ X : Nat, x = X := ⟨x.toNat, by have := hx.1; omega⟩
  have hin : ((over (mvD k m) y.toNat (eightR X k)).drop y.toNat).take k = eightR X k := by
    have := over_in (mvD k m) (eightR X k) y.toNat (by rw [eightR_len, hl]; omega)
    rwa [eightR_len] at this
  have hout := over_out4 (mvD k m) (eightR X k) y.toNat 4 4 (by omega) (by rw [hl]; omega)
  unfold stepS
  rw [if_pos (by rw [over_len, hl]; omega), show (4 : Int).toNat = 4 from rfl, hout]
  have hnum : ((X % 2 ^ (8 * k) : Nat) : Int) = (X : Int) % 2 ^ (8 * k) := by simp
  rcases hk with rfl | rfl
  · have hd : decC ⟨(((mvD 1 m).drop 4).take 4).toArray⟩ = some ⟨18, 3, 2, 0, 0⟩ := by
      show decC ⟨#[18, 3, 2, 0]⟩ = some ⟨18, 3, 2, 0, 0⟩
      decide +kernel
    rw [hd]
    simp only
    rw [doS_mem _ _ _ _ (by decide), over_len, hl]
    show (if adI y 0 + ((1 : Nat) : Int) ≤ _ then ((r2v X y).set 3 (numL ((List.drop (adI y 0).toNat _).take 1) : Nat), nxI 4, _, 0) else _) = _
    rw [had, if_pos hf, hin, numL_eight, hnum]
    rfl
  · have hd : decC ⟨(((mvD 8 m).drop 4).take 4).toArray⟩ = some ⟨20, 3, 2, 0, 0⟩ := by
      show decC ⟨#[20, 3, 2, 0]⟩ = some ⟨20, 3, 2, 0, 0⟩
      decide +kernel
    rw [hd]
    simp only
    rw [doS_mem _ _ _ _ (by decide), over_len, hl]
    show (if adI y 0 + ((8 : Nat) : Int) ≤ _ then ((r2v X y).set 3 (numL ((List.drop (adI y 0).toNat _).take 8) : Nat), nxI 4, _, 0) else _) = _
    rw [had, if_pos hf, hin, numL_eight, hnum]
    rfl
theorem mv_fault (k m : Nat) (x y : Int) (hk : k = 1 ∨ k = 8) (hy : u64ok y) (hf : ¬ y + k ≤ (64 + m : Nat)) : overS 2 (r2v x y) 0 (mvD k m) = (r2v x y, 0, mvD k m, 0, 3) := by
  have h := mv_step1 k m x y hk hy
  rw [if_neg hf] at h
  exact overS_stop h (by decide)
theorem mv_runs (k m : Nat) (x y : Int) (hk : k = 1 ∨ k = 8) (hx : u64ok x) (hy : u64ok y) (h8 : 8 ≤ y) (hf : y + k ≤ (64 + m : Nat)) : overS 2 (r2v x y) 0 (mvD k m) = ((r2v x y).set 3 (x % 2 ^ (8 * k)), 8, over (mvD k m) y.toNat (eightR x k), 2, 0) := by
  have h := mv_step1 k m x y hk hy
  rw [if_pos hf] at h
  rw [overS_ran h, overS_ran (mv_step2 k m x y hk hx hy h8 hf)]
  rfl
theorem byteInfo5 : (Try.prog.info? 5).map (fun i => (i.zero, i.size, i.bytes)) = some (some (.int .u8 0), 1, 1) := by kernel_rfl
theorem u64_wrapm (n : Int) : IntKind.u64.wrap n = n % 18446744073709551616 := by
  simp [IntKind.wrap, IntKind.bits, IntKind.signed]
theorem mod_num (n : Int) (k : Nat) (h0 : 0 < k) (hk : k ≤ 4097) : ∃ m : Nat, m < k ∧ wrap64 ((IntKind.u64.wrap n).tmod k) = m := by
  have h1 : 0 ≤ IntKind.u64.wrap n := by rw [u64_wrapm]; omega
  refine ⟨((IntKind.u64.wrap n).tmod k).toNat, ?_, ?_⟩
  · rw [Int.tmod_eq_emod_of_nonneg h1]; have := Int.emod_lt_of_pos (IntKind.u64.wrap n) (by omega : (0 : Int) < k); have := Int.emod_nonneg (IntKind.u64.wrap n) (by omega : (k : Int) ≠ 0); omega
  · rw [Int.tmod_eq_emod_of_nonneg h1]
    have := Int.emod_lt_of_pos (IntKind.u64.wrap n) (by omega : (0 : Int) < k); have := Int.emod_nonneg (IntKind.u64.wrap n) (by omega : (k : Int) ≠ 0)
    rw [wrap64_id (by omega) (by omega)]; omega
/-- A row of noughts. -/
def zeroB (N : Nat) : ByteArray := ⟨(List.replicate N (0 : UInt8)).toArray⟩
theorem mkN (N : Nat) (w : World) (hN : N ≤ 4096) : ∃ W, (Instr.makeSlice 42 (.int .i64 N) (.int .i64 N)).run Try.prog w = .ok (.slice (some ⟨w.heap.size, 0, none⟩) N N) W ∧ Below w.heap.size w W ∧
    Sem.run Try.prog (convert 42 9 (.slice (some ⟨w.heap.size, 0, none⟩) N N)) W = .ok (.string (zeroB N)) W := by
  obtain ⟨i0, hi, hz0, hz1, hz2⟩ := info_parts byteInfo5
  have hr := run_makeSlice (P := Try.prog) w 42 5 i0 (.int .u8 0) Try.underlying42 hi hz0 .i64 .i64 N N (by omega) (by omega) (by rw [hz1]; omega) (by rw [hz2]; omega) (by omega)
  rw [hz1, Int.toNat_natCast, Nat.mul_one] at hr
  refine ⟨_, hr, (Below.refl _ _).alloc (Nat.le_refl _) _, ?_⟩
  have := run_convert_bytes_back (P := Try.prog) (w.alloc (.cells (madeCells (Value.int .u8 0).cells N) 5)) 42 9 5 ⟨w.heap.size, 0, none⟩ N (List.replicate N 0) Try.underlying42 Try.underlying5 Try.underlying9 (fun j hj => by
    have hj' : j < N := by simpa using hj
    have hh := heap_new w (.cells (madeCells (Value.int .u8 0).cells N) 5)
    have ha : (⟨w.heap.size, 0, none⟩ : Addr).add j = ⟨w.heap.size, j, none⟩ := by unfold Addr.add; split <;> simp_all
    rw [ha]
    simp only [World.cell?, hh]
    simp [madeCells, Value.cells, hj', Nat.mod_one])
  rwa [List.length_replicate] at this
theorem mvS (k m : Nat) (hm : m < 200) (T : Array UInt8) (hT : T.toList = mvT k) : ((⟨T⟩ : ByteArray) ++ zeroB (56 + m)).size = 64 + m ∧ memL ((⟨T⟩ : ByteArray) ++ zeroB (56 + m)) = mvD k m := by
  have hd : ((⟨T⟩ : ByteArray) ++ zeroB (56 + m)).data.toList = mvD k m := by
    rw [ByteArray.data_append, Array.toList_append, hT]
    rfl
  have hl := mvD_len k m
  refine ⟨?_, ?_⟩
  · have : ((⟨T⟩ : ByteArray) ++ zeroB (56 + m)).data.toList.length = 64 + m := by rw [hd, hl]
    rw [ByteArray.size_append]
    show T.size + _ = _
    simpa using this
  · unfold memL; rw [hd, List.take_of_length_le (by omega)]
end Go.Proofs.Ytmmejicmjalibaa

/- Wants of the reference. -/
import Derived.Test.YtbccckjkmlmhhaaRefC1
import Derived.Test.YtbccckjkmlmhhaaRefC2
namespace Go.Proofs.Ytbccckjkmlmhhaa
open Go.RowKit Go.Lib
/-- What an instruction does with the memory. -/
structure Ak where
  (wr : Bool) (ad : Int) (n : Int) (s : ByteArray)
def Ak.v (x : Ak) : Value := .agg #[.bool x.wr, .int .u64 x.ad, .int .i64 x.n, .string x.s]
def wantS (op n : Int) (ra rb : Int) : Ak :=
  if op = 18 then ⟨false, adI rb n, 1, ⟨#[]⟩⟩ else if op = 19 then ⟨true, adI rb n, 1, ⟨(eightR ra 1).toArray⟩⟩
  else if op = 20 then ⟨false, adI rb n, 8, ⟨#[]⟩⟩ else if op = 21 then ⟨true, adI rb n, 8, ⟨(eightR ra 8).toArray⟩⟩ else ⟨false, 0, 0, ⟨#[]⟩⟩
theorem one_conv (x : Int) (w : World) : Sem.run Try.prog (convert 31 9 (.slice (some ⟨w.heap.size, 0, none⟩) 1 1)) (w.alloc (.cells #[.int .u8 (x % 256)] 5)) = .ok (.string ⟨(eightR x 1).toArray⟩) (w.alloc (.cells #[.int .u8 (x % 256)] 5)) := by
  refine run_convert_bytes_back (P := Try.prog) _ 31 9 5 ⟨w.heap.size, 0, none⟩ 1 (eightR x 1) Try.underlying31 Try.underlying5 Try.underlying9 (fun j hj => ?_)
  have hj0 : j = 0 := by have : j < 1 := hj; omega
  subst hj0
  have hh := heap_new w (.cells #[.int .u8 (x % 256)] 5)
  have ha : (⟨w.heap.size, 0, none⟩ : Addr).add 0 = ⟨w.heap.size, 0, none⟩ := by unfold Addr.add; split <;> simp_all
  rw [ha]
  simp only [World.cell?, hh]
  have := byteR_nat x 0
  show some (Value.int .u8 (x % 256)) = some (Value.int .u8 ((byteR x 0).toNat : Int))
  rw [this]; simp
theorem set4_below {n B : Nat} {w w' : World} (h : Below n w w') (hB : n ≤ B) (v0 v1 v2 v3 : Value) : Below n w ((((w'.setCell ⟨B, 0, none⟩ v0).setCell ⟨B, 1, none⟩ v1).setCell ⟨B, 2, none⟩ v2).setCell ⟨B, 3, none⟩ v3) :=
  (((h.setCell (p := ⟨B, 0, none⟩) hB _).setCell (p := ⟨B, 1, none⟩) hB _).setCell (p := ⟨B, 2, none⟩) hB _).setCell (p := ⟨B, 3, none⟩) hB _
set_option maxRecDepth 100000 in
set_option maxHeartbeats 4000000 in
theorem Wants_any (op n : Int) (a b z : Nat) (r : List Int) (pc : Int) (w : World) (ha : a < 16) (hb : b < 16) (hk : okR r pc) :
    Calls Try.prog 23 #[.agg (stC r pc).toArray, .agg #[.int .i64 op, .int .i64 a, .int .i64 b, .int .i64 z, .int .i64 n]] w fun e w' => e = .returned (wantS op n (r.getD a 0) (r.getD b 0)).v ∧ Below w.heap.size w w' := by
  have hr := hk.1
  have hra := hk.get a ha
  obtain ⟨cs, hcs⟩ : ∃ cs, (stC r pc).toArray = cs := ⟨_, rfl⟩
  rw [hcs]
  obtain ⟨W, hW⟩ : ∃ W, ((w.alloc (.cells cs 25)).alloc (.cells #[.int .i64 op, .int .i64 a, .int .i64 b, .int .i64 z, .int .i64 n] 61)).alloc (.cells #[.bool false, .int .u64 0, .int .i64 0, .string ⟨#[]⟩] 69) = W := ⟨_, rfl⟩
  have hbW : Below w.heap.size w W := by rw [← hW]; go_grown
  have z1 : (w.alloc (.cells cs 25)).heap.size = w.heap.size + 1 := by simp
  have z2 : ((w.alloc (.cells cs 25)).alloc (.cells #[.int .i64 op, .int .i64 a, .int .i64 b, .int .i64 z, .int .i64 n] 61)).heap.size = w.heap.size + 1 + 1 := by simp
  have b0 : W.heap[w.heap.size]? = some (.cells cs 25 (0, 0)) := by
    rw [← hW]; exact ((Lib.alloc_old _ _ _ (by simp; omega)).trans (Lib.alloc_old _ _ _ (by simp))).trans (heap_new _ _)
  have b1 : W.heap[w.heap.size + 1]? = some (.cells #[.int .i64 op, .int .i64 a, .int .i64 b, .int .i64 z, .int .i64 n] 61 (0, 0)) := by
    rw [← hW, ← z1]; exact (Lib.alloc_old _ _ _ (by simp)).trans (heap_new _ _)
  have b2 : W.heap[w.heap.size + 1 + 1]? = some (.cells #[.bool false, .int .u64 0, .int .i64 0, .string ⟨#[]⟩] 69 (0, 0)) := by
    rw [← hW, ← z2]; exact heap_new _ _
  have S0 : StAt W w.heap.size r pc := by unfold StAt; rw [hcs]; exact b0
  have l1 : w.heap.size + 1 < W.heap.size := (Array.getElem?_eq_some_iff.1 b1).1
  have l2 : w.heap.size + 1 + 1 < W.heap.size := (Array.getElem?_eq_some_iff.1 b2).1
  have q0 : ∀ nn os, (gx W nn os).cell? ⟨w.heap.size + 1, 0, none⟩ = some (.int .i64 op) := fun nn os => cell_gx (a := ⟨w.heap.size + 1, 0, none⟩) l1 (by simp [World.cell?, b1]) nn os
  have q1 : ∀ nn os, (gx W nn os).cell? ⟨w.heap.size + 1, 1, none⟩ = some (.int .i64 a) := fun nn os => cell_gx (a := ⟨w.heap.size + 1, 1, none⟩) l1 (by simp [World.cell?, b1]) nn os
  have q2 : ∀ nn os, (gx W nn os).cell? ⟨w.heap.size + 1, 2, none⟩ = some (.int .i64 b) := fun nn os => cell_gx (a := ⟨w.heap.size + 1, 2, none⟩) l1 (by simp [World.cell?, b1]) nn os
  have q4 : ∀ nn os, (gx W nn os).cell? ⟨w.heap.size + 1, 4, none⟩ = some (.int .i64 n) := fun nn os => cell_gx (a := ⟨w.heap.size + 1, 4, none⟩) l1 (by simp [World.cell?, b1]) nn os
  have ra : ∀ nn os, (gx W nn os).cell? ⟨w.heap.size, a, none⟩ = some (.int .u64 (r.getD a 0)) := fun nn os => cell_gx (a := ⟨w.heap.size, a, none⟩) S0.lt (S0.reg hr a ha) nn os
  have rb : ∀ nn os, (gx W nn os).cell? ⟨w.heap.size, b, none⟩ = some (.int .u64 (r.getD b 0)) := fun nn os => cell_gx (a := ⟨w.heap.size, b, none⟩) S0.lt (S0.reg hr b hb) nn os
  have hai : (a : Int) < 16 := by omega
  have hbi : (b : Int) < 16 := by omega
  have HB2 : Hid (∀ nn os, (gx W nn os).heap[w.heap.size + 1 + 1]? = some (.cells #[.bool false, .int .u64 0, .int .i64 0, .string ⟨#[]⟩] 69 (0, 0))) := fun nn os => ((gx_below W nn os).block _ l2).trans b2
  have HBW := Lib.hid hbW
  clear b0 b1 b2 S0 hbW z1 z2 hcs
  generalize r.getD a 0 = xa at *
  generalize r.getD b 0 = xb at *
  obtain ⟨ad, had⟩ : ∃ ad, IntKind.u64.wrap (xb + IntKind.u64.wrap n) = ad := ⟨_, rfl⟩
  have HAd : Hid (adI xb n = ad) := had
  have HE := Lib.hid (fun (W' : World) => Eight_any xa W' hra.1 hra.2)
  have hm : xa.tmod 256 = xa % 256 := Int.tmod_eq_emod_of_nonneg hra.1
  have HCv := Lib.hid (fun (W' : World) => one_conv xa W')
  go_enter Try.func23, Try.ntmps23
  go_wp2_with fail
  refine wp_region_quiet_gx (by kernel_rfl) (by kernel_rfl) ?_
  repeat (quiet_step (fail))
  refine wpQuiet_nil ?_
  intro w5 hw'
  obtain ⟨⟨n0, os0⟩, hw''⟩ := hw'
  have hw3 : w5 = gx W n0 os0 := hw''
  clear hw''
  have e0 := q0 n0 os0
  have e1 := q1 n0 os0
  have ea := ra n0 os0
  have eb := HB2.out n0 os0
  have hB5 : Below w.heap.size w (gx W n0 os0) := HBW.out.trans ((gx_below W n0 os0).mono HBW.out.size)
  rw [← hw3] at e0 e1 ea eb hB5
  have l5 := (Array.getElem?_eq_some_iff.1 eb).1
  have f0 : w5.cell? ⟨w.heap.size + 1 + 1, 0, none⟩ = some (.bool false) := by simp [World.cell?, eb]
  have f1 : w5.cell? ⟨w.heap.size + 1 + 1, 1, none⟩ = some (.int .u64 0) := by simp [World.cell?, eb]
  have f2 : w5.cell? ⟨w.heap.size + 1 + 1, 2, none⟩ = some (.int .i64 0) := by simp [World.cell?, eb]
  have f3 : w5.cell? ⟨w.heap.size + 1 + 1, 3, none⟩ = some (.string ⟨#[]⟩) := by simp [World.cell?, eb]
  have fz : ∀ o, w5.frozen? ⟨w.heap.size + 1 + 1, o, none⟩ = false := fun o => by simp [World.frozen?, eb]
  clear hw3 q0 q1 q2 q4 ra rb HB2 hW had
  by_cases o8 : op = 18
  · subst o8
    go_wp2
    refine bodyPost_ret (v := .agg #[.bool false, .int .u64 ad, .int .i64 1, .string ⟨#[]⟩]) (by simp [results, Try.results23, go_sem, f0, f1, f2, f3]) rfl ⟨by rw [← HAd.out]; rfl, ?_⟩
    exact set4_below hB5 (by omega) _ _ _ _
  by_cases o9 : op = 19
  · subst o9
    have hcv := HCv.out w5
    have g0 : (w5.alloc (.cells #[.int .u8 (xa % 256)] 5)).cell? ⟨w.heap.size + 1 + 1, 0, none⟩ = some (.bool false) := by rw [← f0]; exact ((Below.refl w5.heap.size w5).alloc (Nat.le_refl _) _).cell (p := ⟨w.heap.size + 1 + 1, 0, none⟩) l5
    have g1 : (w5.alloc (.cells #[.int .u8 (xa % 256)] 5)).cell? ⟨w.heap.size + 1 + 1, 1, none⟩ = some (.int .u64 0) := by rw [← f1]; exact ((Below.refl w5.heap.size w5).alloc (Nat.le_refl _) _).cell (p := ⟨w.heap.size + 1 + 1, 1, none⟩) l5
    have g2 : (w5.alloc (.cells #[.int .u8 (xa % 256)] 5)).cell? ⟨w.heap.size + 1 + 1, 2, none⟩ = some (.int .i64 0) := by rw [← f2]; exact ((Below.refl w5.heap.size w5).alloc (Nat.le_refl _) _).cell (p := ⟨w.heap.size + 1 + 1, 2, none⟩) l5
    have g3 : (w5.alloc (.cells #[.int .u8 (xa % 256)] 5)).cell? ⟨w.heap.size + 1 + 1, 3, none⟩ = some (.string ⟨#[]⟩) := by rw [← f3]; exact ((Below.refl w5.heap.size w5).alloc (Nat.le_refl _) _).cell (p := ⟨w.heap.size + 1 + 1, 3, none⟩) l5
    have gz : ∀ o, (w5.alloc (.cells #[.int .u8 (xa % 256)] 5)).frozen? ⟨w.heap.size + 1 + 1, o, none⟩ = false := fun o => (((Below.refl w5.heap.size w5).alloc (Nat.le_refl _) _).frozen (p := ⟨w.heap.size + 1 + 1, o, none⟩) l5).trans (fz o)
    have hB6 := hB5.alloc hB5.size (.cells #[.int .u8 (xa % 256)] 5)
    have hu8 : IntKind.u8.wrap (xa % 256) = xa % 256 := by rw [IntKind.wrap_u8]; omega
    obtain ⟨W6, hW6⟩ : ∃ W6, w5.alloc (.cells #[.int .u8 (xa % 256)] 5) = W6 := ⟨_, rfl⟩
    rw [hW6] at hcv g0 g1 g2 g3 gz hB6
    clear f0 f1 f2 f3 fz eb
    have HE1 : Hid (wantS 19 n xa xb = ⟨true, adI xb n, 1, ⟨(eightR xa 1).toArray⟩⟩) := rfl
    generalize (⟨(eightR xa 1).toArray⟩ : ByteArray) = sb at *
    go_wp2
    refine bodyPost_ret (v := .agg #[.bool true, .int .u64 ad, .int .i64 1, .string sb]) (by simp [results, Try.results23, go_sem, g0, g1, g2, g3]) rfl ⟨by rw [HE1.out, HAd.out]; rfl, ?_⟩
    exact set4_below hB6 (by omega) _ _ _ _
  by_cases o20 : op = 20
  · subst o20
    go_wp2
    refine bodyPost_ret (v := .agg #[.bool false, .int .u64 ad, .int .i64 8, .string ⟨#[]⟩]) (by simp [results, Try.results23, go_sem, f0, f1, f2, f3]) rfl ⟨by rw [← HAd.out]; rfl, ?_⟩
    exact set4_below hB5 (by omega) _ _ _ _
  by_cases o21 : op = 21
  · subst o21
    have HE1 : Hid (wantS 21 n xa xb = ⟨true, adI xb n, 8, ⟨(eightR xa 8).toArray⟩⟩) := rfl
    generalize (⟨(eightR xa 8).toArray⟩ : ByteArray) = sb at *
    go_wp2_with (go_at_call 40; refine (HE.out _).mono ?_; rintro e w6 ⟨rfl, hB6⟩; refine Hid.out ?_)
    refine Lib.hid ?_
    have g0 := (hB6.cell (p := ⟨w.heap.size + 1 + 1, 0, none⟩) l5).trans f0
    have g1 := (hB6.cell (p := ⟨w.heap.size + 1 + 1, 1, none⟩) l5).trans f1
    have g2 := (hB6.cell (p := ⟨w.heap.size + 1 + 1, 2, none⟩) l5).trans f2
    have g3 := (hB6.cell (p := ⟨w.heap.size + 1 + 1, 3, none⟩) l5).trans f3
    have gz : ∀ o, w6.frozen? ⟨w.heap.size + 1 + 1, o, none⟩ = false := fun o => (hB6.frozen (p := ⟨w.heap.size + 1 + 1, o, none⟩) l5).trans (fz o)
    have l6 := Nat.lt_of_lt_of_le l5 hB6.size
    have q6 := hB5.trans (hB6.mono hB5.size)
    clear f0 f1 f2 f3 fz eb hB6
    go_wp2
    refine bodyPost_ret (v := .agg #[.bool true, .int .u64 ad, .int .i64 8, .string sb]) (by simp [results, Try.results23, go_sem, g0, g1, g2, g3]) rfl ⟨by rw [HE1.out, HAd.out]; rfl, ?_⟩
    exact set4_below q6 (by omega) _ _ _ _
  · have n8 : (op == 18) = false := by simpa using o8
    have n9 : (op == 19) = false := by simpa using o9
    have n20 : (op == 20) = false := by simpa using o20
    have n21 : (op == 21) = false := by simpa using o21
    go_wp2
    refine bodyPost_ret (v := .agg #[.bool false, .int .u64 0, .int .i64 0, .string ⟨#[]⟩]) (by simp [results, Try.results23, go_sem, f0, f1, f2, f3]) rfl ⟨by unfold wantS; rw [if_neg o8, if_neg o9, if_neg o20, if_neg o21]; rfl, ?_⟩
    exact set4_below hB5 (by omega) _ _ _ _
end Go.Proofs.Ytbccckjkmlmhhaa

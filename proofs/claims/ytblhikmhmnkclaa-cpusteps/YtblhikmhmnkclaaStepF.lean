/- What a step of package cpu does, as a function. -/
import Derived.Test.YtblhikmhmnkclaaStep
import Derived.Test.YtblhikmhmnkclaaDo3F
namespace Go.Proofs.Ytblhikmhmnkclaa.Fl
open Go.RowKit Go.Lib
variable {K : Nat → Prop}
theorem do_any (base Bb Bs : Nat) (c : Cod) (r : List Int) (pc : Int) (d : List UInt8) (ls : List (Nat × Bool)) (w : World) (hc : rightI c = true) (hk : okR r pc) (hS : StAt w Bs r pc) (hbB : base ≤ Bs) (h : BAt K w base Bb d ls) :
    Calls Try.prog 18 #[.pointer (some ⟨Bs, 0, none⟩), memV Bb, c.v] w (StepP K base Bb Bs w (doS c r pc d)) := by
  obtain ⟨h1, ha, hb, hz, hn⟩ := rightI_b hc
  obtain ⟨op, ca, cb, cz, n⟩ := c
  simp only at h1 ha hb hz hn
  obtain ⟨a, rfl⟩ : ∃ a : Nat, ca = a := ⟨ca.toNat, by omega⟩
  obtain ⟨b, rfl⟩ : ∃ b : Nat, cb = b := ⟨cb.toNat, by omega⟩
  obtain ⟨z, rfl⟩ : ∃ z : Nat, cz = z := ⟨cz.toNat, by omega⟩
  have ha' : a < 16 := by omega
  have hb' : b < 16 := by omega
  have hz' : z < 16 := by omega
  unfold doS
  simp only [Int.toNat_natCast, Cod.v]
  by_cases o0 : op = 0
  · subst o0; rw [if_pos rfl]; exact do_halt base Bb Bs n a b z r pc d ls w ha' hb' hz' hk hS hbB h
  rw [if_neg o0]
  by_cases o1 : op = 1
  · subst o1; rw [if_pos rfl]; exact do_nop base Bb Bs n a b z r pc d ls w ha' hb' hz' hk hS hbB h
  rw [if_neg o1]
  by_cases o2 : op = 2
  · subst o2; rw [if_pos rfl]; exact do_sys base Bb Bs n a b z r pc d ls w ha' hb' hz' hk hS hbB h
  rw [if_neg o2]
  by_cases o3 : 3 ≤ op ∧ op ≤ 17
  · rw [if_pos o3]; exact do_res base Bb Bs n op a b z r pc d ls w o3 ha' hb' hz' hk hS hbB h
  rw [if_neg o3]
  by_cases o4 : 18 ≤ op ∧ op ≤ 21
  · rw [if_pos o4]
    have hau : u64ok (adI (r.getD b 0) n) := u64ok_wrap _
    obtain ⟨ad, had⟩ : ∃ ad : Nat, adI (r.getD b 0) n = ad := ⟨(adI (r.getD b 0) n).toNat, by have := hau.1; omega⟩
    by_cases hf : adI (r.getD b 0) n + szI op ≤ d.length
    · rw [if_pos hf]
      rw [had] at hf ⊢
      rw [Int.toNat_natCast]
      by_cases ol : op = 18 ∨ op = 20
      · rw [if_pos ol]
        refine do_load base Bb Bs n op (szI op) ad a b z r pc d ls w ?_ had (by omega) ha' hb' hz' hk hS hbB h
        rcases ol with rfl | rfl
        · exact .inl ⟨rfl, rfl⟩
        · exact .inr ⟨rfl, rfl⟩
      · rw [if_neg ol]
        refine do_store base Bb Bs n op (szI op) ad a b z r pc d ls w ?_ had (by omega) ha' hb' hz' hk hS hbB h
        have : op = 19 ∨ op = 21 := by omega
        rcases this with rfl | rfl
        · exact .inl ⟨rfl, rfl⟩
        · exact .inr ⟨rfl, rfl⟩
    · rw [if_neg hf]
      refine do_fault base Bb Bs n op (szI op) _ a b z r pc d ls w ?_ rfl hau.1 hf ha' hb' hz' hk hS hbB h
      have : op = 18 ∨ op = 19 ∨ op = 20 ∨ op = 21 := by omega
      rcases this with rfl | rfl | rfl | rfl
      · exact .inl (.inl ⟨rfl, rfl⟩)
      · exact .inr (.inl ⟨rfl, rfl⟩)
      · exact .inl (.inr ⟨rfl, rfl⟩)
      · exact .inr (.inr ⟨rfl, rfl⟩)
  rw [if_neg o4]
  by_cases o5 : 22 ≤ op ∧ op ≤ 24
  · rw [if_pos o5]; exact do_branch base Bb Bs n op a b z r pc d ls w (by omega) ha' hb' hz' hk hS hbB h
  rw [if_neg o5]
  by_cases o6 : op = 25
  · subst o6; rw [if_pos rfl]; exact do_call base Bb Bs n a b z r pc d ls w ha' hb' hz' hk hS hbB h
  rw [if_neg o6]
  obtain rfl : op = 26 := by omega
  exact do_back base Bb Bs n a b z r pc d ls w ha' hb' hz' hk hS hbB h
set_option maxRecDepth 100000 in
set_option maxHeartbeats 4000000 in
theorem Step_any (base Bb Bs : Nat) (r : List Int) (pc : Int) (d : List UInt8) (ls : List (Nat × Bool)) (w : World) (hk : okR r pc) (hS : StAt w Bs r pc) (hbB : base ≤ Bs) (h : BAt K w base Bb d ls) :
    Calls Try.prog 8 #[.pointer (some ⟨Bs, 0, none⟩), memV Bb] w (StepP K base Bb Bs w (stepS r pc d)) := by
  obtain ⟨p, rfl⟩ : ∃ p : Nat, pc = p := ⟨pc.toNat, by have := hk.2.2.1; omega⟩
  have hr := hk.1
  have hpc := hS.pc hr
  have HA := Lib.hid (fun (w' : World) (hw : Below w.heap.size w w') => Aft.of hS h hw)
  unfold stepS
  rw [Int.toNat_natCast]
  by_cases hf : (p : Int) + 4 ≤ d.length
  · rw [if_pos hf]
    have HL : Hid (Calls Try.prog 16 #[memV Bb, .int .u64 p, .int .i64 4, .int .i64 2] w fun e w' => e = .returned (.tuple #[.string ⟨((d.drop p).take 4).toArray⟩, .bool true]) ∧ Below w.heap.size w w') := load_yes base Bb p 4 2 d ls w h (by omega)
    generalize (⟨((d.drop p).take 4).toArray⟩ : ByteArray) = str at HL ⊢
    have HD := Lib.hid (fun (W : World) => Decode_any str W)
    cases hd : decC str with
    | none =>
      simp only [hd] at HD ⊢
      have HD' : Hid (∀ W : World, Calls Try.prog 17 #[.string str] W fun e w' => e = .returned (.tuple #[.agg #[.int .i64 0, .int .i64 0, .int .i64 0, .int .i64 0, .int .i64 0], .int .i64 12]) ∧ Below W.heap.size W w') := HD
      clear HD hd h hS
      unfold memV at HL ⊢
      go_enter Try.func8, Try.ntmps8
      go_wp2_with (first | (go_at_call 16; refine HL.out.mono ?_; rintro e w1 ⟨rfl, hb1⟩) | (go_at_call 17; refine (HD'.out _).mono ?_; rintro e w2 ⟨rfl, hb2⟩))
      go_ret
      exact ⟨rfl, HA.out _ (by have q := hb1.trans (hb2.mono hb1.size); exact q.alloc q.size _)⟩
    | some c =>
      simp only [hd] at HD ⊢
      have HD' : Hid (∀ W : World, Calls Try.prog 17 #[.string str] W fun e w' => e = .returned (.tuple #[.agg #[.int .i64 c.op, .int .i64 c.a, .int .i64 c.b, .int .i64 c.c, .int .i64 c.n], .int .i64 0]) ∧ Below W.heap.size W w') := HD
      have HC := Lib.hid (fun (W : World) (hb : Below w.heap.size w W) => do_any base Bb Bs c r p d ls W (decC_right hd) hk (hS.below hb) hbB (h.below hb))
      have hv : c.v = .agg #[.int .i64 c.op, .int .i64 c.a, .int .i64 c.b, .int .i64 c.c, .int .i64 c.n] := rfl
      rw [hv] at HC
      have hbs := size_of_blk h
      clear HD hd h hS hv
      generalize doS c r p d = out at HC ⊢
      unfold memV at HL HC ⊢
      go_enter Try.func8, Try.ntmps8
      go_wp2_with (first | (go_at_call 16; refine HL.out.mono ?_; rintro e w1 ⟨rfl, hb1⟩) | (go_at_call 17; refine (HD'.out _).mono ?_; rintro e w2 ⟨rfl, hb2⟩; refine Hid.out ?_))
      refine Lib.hid ?_
      have q := hb1.trans (hb2.mono hb1.size)
      have q3 := q.alloc q.size (.cells #[.int .i64 c.op, .int .i64 c.a, .int .i64 c.b, .int .i64 c.c, .int .i64 c.n] 57)
      have HC2 := Lib.hid (HC.out _ q3)
      clear hb1 hb2 q
      go_wp2_with (first | (go_at_call 18; refine HC2.out.mono ?_; rintro e w4 ⟨rfl, hA⟩))
      go_ret
      obtain ⟨a1, a2, a3, a4⟩ := hA
      exact ⟨rfl, a1, a2, (q3.mono hbs).trans a3, (FrB.below q3).trans a4⟩
  · rw [if_neg hf]
    have HL : Hid (Calls Try.prog 16 #[memV Bb, .int .u64 p, .int .i64 4, .int .i64 2] w fun e w' => e = .returned (.tuple #[.string ⟨#[]⟩, .bool false]) ∧ Below w.heap.size w w') := load_no base Bb p 4 2 d ls w h (by omega) hf
    clear h hS
    unfold memV at HL ⊢
    go_enter Try.func8, Try.ntmps8
    go_wp2_with (first | (go_at_call 16; refine HL.out.mono ?_; rintro e w1 ⟨rfl, hb1⟩))
    go_ret
    exact ⟨rfl, HA.out _ hb1⟩
end Go.Proofs.Ytblhikmhmnkclaa.Fl

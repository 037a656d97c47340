/- A call as a value; rows of calls; a step of the law, whatever is called. -/
import Derived.Test.YtebcnlhgkpaghaaStepB
/- A step of the law: link. -/
namespace Go.Proofs.Ytebcnlhgkpaghaa
open Go.RowKit Go.Sort
set_option maxRecDepth 100000 in
set_option maxHeartbeats 8000000 in
theorem stepH_link {w : World} {b0 tb rb : Nat} {root : Int} {base mb : Nat} {F : Nat → Prop} {S : Abs} {g cap : Nat} {cs : Array Value} {L : List Th} (h : Bo w b0 tb rb root base mb F S g cap cs L) (zi zid zw zn zd : Int) (zp : Option Addr) (cc : Nat) (xs : List (Int × Int)) (_hm : xs.length ≤ maxLen) (hc : CatsAt w zp xs) (hp : 0 < xs.length → ∀ a, zp = some a → a.block < b0) (ii : i64 zi) (iid : i64 zid) :
    Calls Try.prog 7 #[.pointer (some ⟨tb, 0, none⟩), .pointer (some ⟨rb, 0, none⟩), .agg #[.int .i64 2, .int .i64 zi, .int .i64 zid, .int .i64 zw, .int .i64 zn, .int .i64 zd, .slice zp xs.length cc]] w fun e w' => e = .returned (.tuple #[.pointer (some ⟨tb, 0, none⟩), .bool true]) ∧ (∃ F' S' g' cap' cs' L', Bo w' b0 tb rb root base mb F' S' g' cap' cs' L') ∧ Below b0 w w' := by
  have HH := Lib.hid h
  obtain ⟨W1, hW1⟩ : ∃ W1, w.alloc (.cells #[.int .i64 2, .int .i64 zi, .int .i64 zid, .int .i64 zw, .int .i64 zn, .int .i64 zd, .slice zp xs.length cc] 32) = W1 := ⟨_, rfl⟩
  have b1 : Below w.heap.size w W1 := by rw [← hW1]; exact (Below.refl _ _).alloc (Nat.le_refl _) _
  have hz : w.heap.size < W1.heap.size := by rw [← hW1]; simp
  have hbW : b0 ≤ W1.heap.size := Nat.le_trans h.bw b1.size
  have hO : W1.heap[w.heap.size]? = some (.cells #[.int .i64 2, .int .i64 zi, .int .i64 zid, .int .i64 zw, .int .i64 zn, .int .i64 zd, .slice zp xs.length cc] 32 (0, 0)) := by rw [← hW1]; exact heap_new _ _
  have d0 : W1.cell? ⟨w.heap.size, 0, none⟩ = some (.int .i64 2) := by simp [World.cell?, hO]
  have cW : ∀ X, OpS w.heap.size W1 X → X.cell? ⟨w.heap.size, 1, none⟩ = some (.int .i64 zi) ∧ X.cell? ⟨w.heap.size, 2, none⟩ = some (.int .i64 zid) ∧ X.cell? ⟨w.heap.size, 3, none⟩ = some (.int .i64 zw) ∧ X.cell? ⟨w.heap.size, 4, none⟩ = some (.int .i64 zn) ∧ X.cell? ⟨w.heap.size, 5, none⟩ = some (.int .i64 zd) ∧ X.cell? ⟨w.heap.size, 6, none⟩ = some (.slice zp xs.length cc) := fun X hX => ⟨op_cells hO hX rfl, op_cells hO hX rfl, op_cells hO hX rfl, op_cells hO hX rfl, op_cells hO hX rfl, op_cells hO hX rfl⟩
  have HB1 := Lib.hid b1
  have HC := Lib.hid hc
  have HPB := Lib.hid hp
  have hcX : Hid (∀ X, HJ W1 b0 tb rb root base mb (linkT S zi zid) g cap cs L 0 X → CatsAt X zp xs) := fun X hX => (hc.below b1).below hX
  have hcY : Hid (∀ X, Below b0 W1 X → CatsAt X zp xs ∧ ∀ F' : Nat → Prop, (∀ k, F' k → base ≤ k) → Off (fun b => b = rb ∨ b = g ∨ F' b) zp xs.length) := fun X hX => by
    have hk : ∀ k, k < W1.heap.size → ¬ b0 ≤ k → X.heap[k]? = W1.heap[k]? := fun k _ h2 => hX.block k (by omega)
    refine ⟨cats_keep (P := fun k => b0 ≤ k) (hc.below b1) (fun hn a ha e => by have := hp hn a ha; omega) hk hX.size, fun F' hF hn a ha hx => ?_⟩
    have := hp hn a ha
    rcases hx with e | e | e
    · have := h.b2; omega
    · have := h.b3; omega
    · have := hF _ e; have := h.b1; omega
  clear h hO b1 hc hp
  go_enter Try.func7, Try.ntmps7
  go_upto_region 5 with fail
  refine wp_region_phT 6 6 12 (OpS w.heap.size) (HJ W1 b0 tb rb root base mb (linkT S zi zid) g cap cs L) (fun kq v X => match kq with | 49 => v = .pointer (some ⟨tb, 0, none⟩) | 50 => v = .pointer (some ⟨tb, 0, none⟩) | 51 => v = .pointer (some ⟨w.heap.size, 1, none⟩) | 52 => v = .int .i64 zi | 53 => v = .pointer (some ⟨w.heap.size, 2, none⟩) | 54 => v = .int .i64 zid | 55 => v = .int .i64 (linkS S zi zid) | 56 => v = .pointer (some ⟨rb, 0, none⟩) | 57 => v = .pointer (some ⟨w.heap.size, 1, none⟩) | 58 => v = .int .i64 zi | 59 => v = .pointer (some ⟨w.heap.size, 2, none⟩) | 60 => v = .int .i64 zid | 61 => v = .int .i64 (linkS S zi zid) | 62 => v = .bool true | 6 => v = .pointer (some ⟨tb, 0, none⟩) | 7 => v = .bool true | _ => True) (by kernel_rfl) (by kernel_rfl) (by kernel_rfl) (by kernel_rfl) (by decide) (by decide) (fun _ _ h => OpS.of_below h) (fun _ _ _ h k => OpS.trans h k) (fun _ _ _ h hb => HJ.below h hbW hb) ((Below.refl _ _).drew) ?_ ?_ ?_
  · intro kq v W W' h hb
    revert h
    try dsimp only
    split
    · intro h; exact h
    · intro h; exact h
    · intro h; exact h
    · intro h; exact h
    · intro h; exact h
    · intro h; exact h
    · intro h; exact h
    · intro h; exact h
    · intro h; exact h
    · intro h; exact h
    · intro h; exact h
    · intro h; exact h
    · intro h; exact h
    · intro h; exact h
    · intro h; exact h
    · intro h; exact h
    · intro h; trivial
  · intro a' X p hJ hB hs hk i o d ho hd hp1 hp2 hG
    match i, ho with
    | 0, ho =>
      obtain rfl : _ = o := Option.some.inj ho
      obtain rfl : 49 = d := Option.some.inj hd
      have g0 : a'.eval (.tmp 0) = .pointer (some ⟨tb, 0, none⟩) := hk 0 (by kernel_rfl)
      refine ⟨rfl, .inl ⟨.pointer (some ⟨tb, 0, none⟩), X, ?_, ⟨Below.refl _ _, by decide, by decide⟩, rfl⟩⟩
      obtain ⟨ev, hev⟩ : ∃ ev, a'.eval = ev := ⟨_, rfl⟩
      rw [hev] at g0 ⊢
      clear hev hG hk hs
      obtain ⟨c1, c2, c3, c4, c5, c6⟩ := cW X hB
      go_simp
    | 1, ho =>
      obtain rfl : _ = o := Option.some.inj ho
      obtain rfl : 50 = d := Option.some.inj hd
      have g0 : a'.eval (.tmp 0) = .pointer (some ⟨tb, 0, none⟩) := hk 0 (by kernel_rfl)
      refine ⟨rfl, .inl ⟨.pointer (some ⟨tb, 0, none⟩), X, ?_, ⟨Below.refl _ _, by decide, by decide⟩, rfl⟩⟩
      obtain ⟨ev, hev⟩ : ∃ ev, a'.eval = ev := ⟨_, rfl⟩
      rw [hev] at g0 ⊢
      clear hev hG hk hs
      obtain ⟨c1, c2, c3, c4, c5, c6⟩ := cW X hB
      go_simp
    | 2, ho =>
      obtain rfl : _ = o := Option.some.inj ho
      obtain rfl : 51 = d := Option.some.inj hd
      have g5 : a'.eval (.tmp 5) = .pointer (some ⟨w.heap.size, 0, none⟩) := hk 5 (by kernel_rfl)
      refine ⟨rfl, .inl ⟨.pointer (some ⟨w.heap.size, 1, none⟩), X, ?_, ⟨Below.refl _ _, by decide, by decide⟩, rfl⟩⟩
      obtain ⟨ev, hev⟩ : ∃ ev, a'.eval = ev := ⟨_, rfl⟩
      rw [hev] at g5 ⊢
      clear hev hG hk hs
      obtain ⟨c1, c2, c3, c4, c5, c6⟩ := cW X hB
      go_simp
    | 3, ho =>
      obtain rfl : _ = o := Option.some.inj ho
      obtain rfl : 52 = d := Option.some.inj hd
      have g51 : a'.eval (.tmp 51) = .pointer (some ⟨w.heap.size, 1, none⟩) := hG ⟨2, .data⟩ (by simp) rfl 51 rfl
      refine ⟨rfl, .inl ⟨.int .i64 zi, X, ?_, ⟨Below.refl _ _, by decide, by decide⟩, rfl⟩⟩
      obtain ⟨ev, hev⟩ : ∃ ev, a'.eval = ev := ⟨_, rfl⟩
      rw [hev] at g51 ⊢
      clear hev hG hk hs
      obtain ⟨c1, c2, c3, c4, c5, c6⟩ := cW X hB
      go_simp
    | 4, ho =>
      obtain rfl : _ = o := Option.some.inj ho
      obtain rfl : 53 = d := Option.some.inj hd
      have g5 : a'.eval (.tmp 5) = .pointer (some ⟨w.heap.size, 0, none⟩) := hk 5 (by kernel_rfl)
      refine ⟨rfl, .inl ⟨.pointer (some ⟨w.heap.size, 2, none⟩), X, ?_, ⟨Below.refl _ _, by decide, by decide⟩, rfl⟩⟩
      obtain ⟨ev, hev⟩ : ∃ ev, a'.eval = ev := ⟨_, rfl⟩
      rw [hev] at g5 ⊢
      clear hev hG hk hs
      obtain ⟨c1, c2, c3, c4, c5, c6⟩ := cW X hB
      go_simp
    | 5, ho =>
      obtain rfl : _ = o := Option.some.inj ho
      obtain rfl : 54 = d := Option.some.inj hd
      have g53 : a'.eval (.tmp 53) = .pointer (some ⟨w.heap.size, 2, none⟩) := hG ⟨4, .data⟩ (by simp) rfl 53 rfl
      refine ⟨rfl, .inl ⟨.int .i64 zid, X, ?_, ⟨Below.refl _ _, by decide, by decide⟩, rfl⟩⟩
      obtain ⟨ev, hev⟩ : ∃ ev, a'.eval = ev := ⟨_, rfl⟩
      rw [hev] at g53 ⊢
      clear hev hG hk hs
      obtain ⟨c1, c2, c3, c4, c5, c6⟩ := cW X hB
      go_simp
    | 6, ho =>
      obtain rfl : _ = o := Option.some.inj ho
      obtain rfl : 55 = d := Option.some.inj hd
      have g50 : a'.eval (.tmp 50) = .pointer (some ⟨tb, 0, none⟩) := hG ⟨1, .data⟩ (by simp) rfl 50 rfl
      have g52 : a'.eval (.tmp 52) = .int .i64 zi := hG ⟨3, .data⟩ (by simp) rfl 52 rfl
      have g54 : a'.eval (.tmp 54) = .int .i64 zid := hG ⟨5, .data⟩ (by simp) rfl 54 rfl
      obtain rfl := hp1 rfl
      refine ⟨rfl, .inr ⟨11, #[.pointer (some ⟨tb, 0, none⟩), .int .i64 zi, .int .i64 zid], ?_, ?_⟩⟩
      · have gF : a'.eval (.func 11) = .func (.func 11) #[] #[] := rfl
        obtain ⟨ev, hev⟩ : ∃ ev, a'.eval = ev := ⟨_, rfl⟩
        rw [hev] at gF g50 g52 g54 ⊢
        exact exec_call3 rfl gF g50 g52 g54 (enters_of Try.func11 (by kernel_rfl) rfl)
      exact (link_x (HJ.bo HH.out HB1.out hJ).hx zi zid ii iid).mono fun e W' ⟨he, hd'⟩ => ⟨_, he, .inr ⟨(HJ.one HH.out HB1.out hz hJ hd').1, (HJ.one HH.out HB1.out hz hJ hd').2, .inl rfl⟩, rfl⟩
    | 7, ho =>
      obtain rfl : _ = o := Option.some.inj ho
      obtain rfl : 56 = d := Option.some.inj hd
      have g1 : a'.eval (.tmp 1) = .pointer (some ⟨rb, 0, none⟩) := hk 1 (by kernel_rfl)
      refine ⟨rfl, .inl ⟨.pointer (some ⟨rb, 0, none⟩), X, ?_, ⟨Below.refl _ _, by decide, by decide⟩, rfl⟩⟩
      obtain ⟨ev, hev⟩ : ∃ ev, a'.eval = ev := ⟨_, rfl⟩
      rw [hev] at g1 ⊢
      clear hev hG hk hs
      obtain ⟨c1, c2, c3, c4, c5, c6⟩ := cW X hB
      go_simp
    | 8, ho =>
      obtain rfl : _ = o := Option.some.inj ho
      obtain rfl : 57 = d := Option.some.inj hd
      have g5 : a'.eval (.tmp 5) = .pointer (some ⟨w.heap.size, 0, none⟩) := hk 5 (by kernel_rfl)
      refine ⟨rfl, .inl ⟨.pointer (some ⟨w.heap.size, 1, none⟩), X, ?_, ⟨Below.refl _ _, by decide, by decide⟩, rfl⟩⟩
      obtain ⟨ev, hev⟩ : ∃ ev, a'.eval = ev := ⟨_, rfl⟩
      rw [hev] at g5 ⊢
      clear hev hG hk hs
      obtain ⟨c1, c2, c3, c4, c5, c6⟩ := cW X hB
      go_simp
    | 9, ho =>
      obtain rfl : _ = o := Option.some.inj ho
      obtain rfl : 58 = d := Option.some.inj hd
      have g57 : a'.eval (.tmp 57) = .pointer (some ⟨w.heap.size, 1, none⟩) := hG ⟨8, .data⟩ (by simp) rfl 57 rfl
      refine ⟨rfl, .inl ⟨.int .i64 zi, X, ?_, ⟨Below.refl _ _, by decide, by decide⟩, rfl⟩⟩
      obtain ⟨ev, hev⟩ : ∃ ev, a'.eval = ev := ⟨_, rfl⟩
      rw [hev] at g57 ⊢
      clear hev hG hk hs
      obtain ⟨c1, c2, c3, c4, c5, c6⟩ := cW X hB
      go_simp
    | 10, ho =>
      obtain rfl : _ = o := Option.some.inj ho
      obtain rfl : 59 = d := Option.some.inj hd
      have g5 : a'.eval (.tmp 5) = .pointer (some ⟨w.heap.size, 0, none⟩) := hk 5 (by kernel_rfl)
      refine ⟨rfl, .inl ⟨.pointer (some ⟨w.heap.size, 2, none⟩), X, ?_, ⟨Below.refl _ _, by decide, by decide⟩, rfl⟩⟩
      obtain ⟨ev, hev⟩ : ∃ ev, a'.eval = ev := ⟨_, rfl⟩
      rw [hev] at g5 ⊢
      clear hev hG hk hs
      obtain ⟨c1, c2, c3, c4, c5, c6⟩ := cW X hB
      go_simp
    | 11, ho =>
      obtain rfl : _ = o := Option.some.inj ho
      obtain rfl : 60 = d := Option.some.inj hd
      have g59 : a'.eval (.tmp 59) = .pointer (some ⟨w.heap.size, 2, none⟩) := hG ⟨10, .data⟩ (by simp) rfl 59 rfl
      refine ⟨rfl, .inl ⟨.int .i64 zid, X, ?_, ⟨Below.refl _ _, by decide, by decide⟩, rfl⟩⟩
      obtain ⟨ev, hev⟩ : ∃ ev, a'.eval = ev := ⟨_, rfl⟩
      rw [hev] at g59 ⊢
      clear hev hG hk hs
      obtain ⟨c1, c2, c3, c4, c5, c6⟩ := cW X hB
      go_simp
    | 12, ho =>
      obtain rfl : _ = o := Option.some.inj ho
      obtain rfl : 61 = d := Option.some.inj hd
      have g56 : a'.eval (.tmp 56) = .pointer (some ⟨rb, 0, none⟩) := hG ⟨7, .data⟩ (by simp) rfl 56 rfl
      have g58 : a'.eval (.tmp 58) = .int .i64 zi := hG ⟨9, .data⟩ (by simp) rfl 58 rfl
      have g60 : a'.eval (.tmp 60) = .int .i64 zid := hG ⟨11, .data⟩ (by simp) rfl 60 rfl
      obtain rfl := hp2 rfl
      refine ⟨rfl, .inr ⟨20, #[.pointer (some ⟨rb, 0, none⟩), .int .i64 zi, .int .i64 zid], ?_, ?_⟩⟩
      · have gF : a'.eval (.func 20) = .func (.func 20) #[] #[] := rfl
        obtain ⟨ev, hev⟩ : ∃ ev, a'.eval = ev := ⟨_, rfl⟩
        rw [hev] at gF g56 g58 g60 ⊢
        exact exec_call3 rfl gF g56 g58 g60 (enters_of Try.func20 (by kernel_rfl) rfl)
      obtain ⟨⟨F1, x1, x2, x3⟩, x4⟩ := _root_.id hJ
      obtain ⟨K, hinv⟩ := HH.out.inv
      exact (rLink_any x2 HH.out.rel hinv zi zid).mono fun e W' ⟨he, hd'⟩ => ⟨_, he, .inr ⟨(HJ.two HH.out hJ hbW x1 x2 hd').1, (HJ.two HH.out hJ hbW x1 x2 hd').2, .inr rfl⟩, rfl⟩
    | 13, ho =>
      obtain rfl : _ = o := Option.some.inj ho
      obtain rfl : 62 = d := Option.some.inj hd
      have g55 : a'.eval (.tmp 55) = .int .i64 (linkS S zi zid) := hG ⟨6, .data⟩ (by simp) rfl 55 rfl
      have g61 : a'.eval (.tmp 61) = .int .i64 (linkS S zi zid) := hG ⟨12, .data⟩ (by simp) rfl 61 rfl
      refine ⟨rfl, .inl ⟨.bool true, X, ?_, ⟨Below.refl _ _, by decide, by decide⟩, rfl⟩⟩
      obtain ⟨ev, hev⟩ : ∃ ev, a'.eval = ev := ⟨_, rfl⟩
      rw [hev] at g55 g61 ⊢
      clear hev hG hk hs
      obtain ⟨c1, c2, c3, c4, c5, c6⟩ := cW X hB
      go_simp
    | 14, ho =>
      obtain rfl : _ = o := Option.some.inj ho
      obtain rfl : 6 = d := Option.some.inj hd
      have g49 : a'.eval (.tmp 49) = .pointer (some ⟨tb, 0, none⟩) := hG ⟨0, .data⟩ (by simp) rfl 49 rfl
      refine ⟨rfl, .inl ⟨.pointer (some ⟨tb, 0, none⟩), X, ?_, ⟨Below.refl _ _, by decide, by decide⟩, rfl⟩⟩
      obtain ⟨ev, hev⟩ : ∃ ev, a'.eval = ev := ⟨_, rfl⟩
      rw [hev] at g49 ⊢
      clear hev hG hk hs
      obtain ⟨c1, c2, c3, c4, c5, c6⟩ := cW X hB
      go_simp
    | 15, ho =>
      obtain rfl : _ = o := Option.some.inj ho
      obtain rfl : 7 = d := Option.some.inj hd
      have g62 : a'.eval (.tmp 62) = .bool true := hG ⟨13, .data⟩ (by simp) rfl 62 rfl
      refine ⟨rfl, .inl ⟨.bool true, X, ?_, ⟨Below.refl _ _, by decide, by decide⟩, rfl⟩⟩
      obtain ⟨ev, hev⟩ : ∃ ev, a'.eval = ev := ⟨_, rfl⟩
      rw [hev] at g62 ⊢
      clear hev hG hk hs
      obtain ⟨c1, c2, c3, c4, c5, c6⟩ := cW X hB
      go_simp
    | j + 16, ho => simp at ho
  · intro a' X hJ hB hs hdf hk hG
    obtain ⟨tm, df⟩ := a'
    obtain rfl : df = [] := hdf
    have e0 : tm.getD 0 undef = .pointer (some ⟨tb, 0, none⟩) := hk 0 (by kernel_rfl)
    have e1 : tm.getD 1 undef = .pointer (some ⟨rb, 0, none⟩) := hk 1 (by kernel_rfl)
    have e2 : tm.getD 2 undef = .agg #[.int .i64 2, .int .i64 zi, .int .i64 zid, .int .i64 zw, .int .i64 zn, .int .i64 zd, .slice zp xs.length cc] := hk 2 (by kernel_rfl)
    have e3 : tm.getD 3 undef = undef := hk 3 (by kernel_rfl)
    have e4 : tm.getD 4 undef = undef := hk 4 (by kernel_rfl)
    have e5 : tm.getD 5 undef = .pointer (some ⟨w.heap.size, 0, none⟩) := hk 5 (by kernel_rfl)
    have e8 : tm.getD 8 undef = undef := hk 8 (by kernel_rfl)
    have e9 : tm.getD 9 undef = undef := hk 9 (by kernel_rfl)
    have e10 : tm.getD 10 undef = undef := hk 10 (by kernel_rfl)
    have e11 : tm.getD 11 undef = undef := hk 11 (by kernel_rfl)
    have e12 : tm.getD 12 undef = undef := hk 12 (by kernel_rfl)
    have e13 : tm.getD 13 undef = undef := hk 13 (by kernel_rfl)
    have e14 : tm.getD 14 undef = undef := hk 14 (by kernel_rfl)
    have e15 : tm.getD 15 undef = undef := hk 15 (by kernel_rfl)
    have e16 : tm.getD 16 undef = undef := hk 16 (by kernel_rfl)
    have e17 : tm.getD 17 undef = .pointer (some ⟨w.heap.size, 0, none⟩) := hk 17 (by kernel_rfl)
    have e18 : tm.getD 18 undef = .int .i64 2 := hk 18 (by kernel_rfl)
    have e19 : tm.getD 19 undef = .bool false := hk 19 (by kernel_rfl)
    have e20 : tm.getD 20 undef = .bool false := hk 20 (by kernel_rfl)
    have e21 : tm.getD 21 undef = undef := hk 21 (by kernel_rfl)
    have e22 : tm.getD 22 undef = undef := hk 22 (by kernel_rfl)
    have e23 : tm.getD 23 undef = undef := hk 23 (by kernel_rfl)
    have e24 : tm.getD 24 undef = undef := hk 24 (by kernel_rfl)
    have e25 : tm.getD 25 undef = undef := hk 25 (by kernel_rfl)
    have e26 : tm.getD 26 undef = undef := hk 26 (by kernel_rfl)
    have e27 : tm.getD 27 undef = undef := hk 27 (by kernel_rfl)
    have e28 : tm.getD 28 undef = undef := hk 28 (by kernel_rfl)
    have e29 : tm.getD 29 undef = undef := hk 29 (by kernel_rfl)
    have e30 : tm.getD 30 undef = undef := hk 30 (by kernel_rfl)
    have e31 : tm.getD 31 undef = undef := hk 31 (by kernel_rfl)
    have e32 : tm.getD 32 undef = undef := hk 32 (by kernel_rfl)
    have e33 : tm.getD 33 undef = undef := hk 33 (by kernel_rfl)
    have e34 : tm.getD 34 undef = undef := hk 34 (by kernel_rfl)
    have e35 : tm.getD 35 undef = undef := hk 35 (by kernel_rfl)
    have e36 : tm.getD 36 undef = undef := hk 36 (by kernel_rfl)
    have e37 : tm.getD 37 undef = undef := hk 37 (by kernel_rfl)
    have e38 : tm.getD 38 undef = undef := hk 38 (by kernel_rfl)
    have e39 : tm.getD 39 undef = undef := hk 39 (by kernel_rfl)
    have e40 : tm.getD 40 undef = undef := hk 40 (by kernel_rfl)
    have e41 : tm.getD 41 undef = undef := hk 41 (by kernel_rfl)
    have e42 : tm.getD 42 undef = undef := hk 42 (by kernel_rfl)
    have e43 : tm.getD 43 undef = undef := hk 43 (by kernel_rfl)
    have e44 : tm.getD 44 undef = undef := hk 44 (by kernel_rfl)
    have e45 : tm.getD 45 undef = undef := hk 45 (by kernel_rfl)
    have e46 : tm.getD 46 undef = undef := hk 46 (by kernel_rfl)
    have e47 : tm.getD 47 undef = .bool true := hk 47 (by kernel_rfl)
    have e48 : tm.getD 48 undef = .bool true := hk 48 (by kernel_rfl)
    have e63 : tm.getD 63 undef = undef := hk 63 (by kernel_rfl)
    have e64 : tm.getD 64 undef = undef := hk 64 (by kernel_rfl)
    have e65 : tm.getD 65 undef = undef := hk 65 (by kernel_rfl)
    have e66 : tm.getD 66 undef = undef := hk 66 (by kernel_rfl)
    have e67 : tm.getD 67 undef = undef := hk 67 (by kernel_rfl)
    have e68 : tm.getD 68 undef = undef := hk 68 (by kernel_rfl)
    have e69 : tm.getD 69 undef = undef := hk 69 (by kernel_rfl)
    have e70 : tm.getD 70 undef = undef := hk 70 (by kernel_rfl)
    have e71 : tm.getD 71 undef = undef := hk 71 (by kernel_rfl)
    have e72 : tm.getD 72 undef = undef := hk 72 (by kernel_rfl)
    have e73 : tm.getD 73 undef = undef := hk 73 (by kernel_rfl)
    have e74 : tm.getD 74 undef = undef := hk 74 (by kernel_rfl)
    have e75 : tm.getD 75 undef = undef := hk 75 (by kernel_rfl)
    have e76 : tm.getD 76 undef = undef := hk 76 (by kernel_rfl)
    have e77 : tm.getD 77 undef = undef := hk 77 (by kernel_rfl)
    have e78 : tm.getD 78 undef = undef := hk 78 (by kernel_rfl)
    have e79 : tm.getD 79 undef = undef := hk 79 (by kernel_rfl)
    have e80 : tm.getD 80 undef = undef := hk 80 (by kernel_rfl)
    have e81 : tm.getD 81 undef = undef := hk 81 (by kernel_rfl)
    have e82 : tm.getD 82 undef = undef := hk 82 (by kernel_rfl)
    have e83 : tm.getD 83 undef = undef := hk 83 (by kernel_rfl)
    have e84 : tm.getD 84 undef = undef := hk 84 (by kernel_rfl)
    have e85 : tm.getD 85 undef = undef := hk 85 (by kernel_rfl)
    have e86 : tm.getD 86 undef = undef := hk 86 (by kernel_rfl)
    have e87 : tm.getD 87 undef = undef := hk 87 (by kernel_rfl)
    have e88 : tm.getD 88 undef = undef := hk 88 (by kernel_rfl)
    have e89 : tm.getD 89 undef = undef := hk 89 (by kernel_rfl)
    have e90 : tm.getD 90 undef = undef := hk 90 (by kernel_rfl)
    have e91 : tm.getD 91 undef = undef := hk 91 (by kernel_rfl)
    have e92 : tm.getD 92 undef = undef := hk 92 (by kernel_rfl)
    have e93 : tm.getD 93 undef = undef := hk 93 (by kernel_rfl)
    have e94 : tm.getD 94 undef = undef := hk 94 (by kernel_rfl)
    have e95 : tm.getD 95 undef = undef := hk 95 (by kernel_rfl)
    have e96 : tm.getD 96 undef = undef := hk 96 (by kernel_rfl)
    have e97 : tm.getD 97 undef = undef := hk 97 (by kernel_rfl)
    have e98 : tm.getD 98 undef = undef := hk 98 (by kernel_rfl)
    have e99 : tm.getD 99 undef = undef := hk 99 (by kernel_rfl)
    have e100 : tm.getD 100 undef = undef := hk 100 (by kernel_rfl)
    have e101 : tm.getD 101 undef = undef := hk 101 (by kernel_rfl)
    have e102 : tm.getD 102 undef = undef := hk 102 (by kernel_rfl)
    have e103 : tm.getD 103 undef = undef := hk 103 (by kernel_rfl)
    have e104 : tm.getD 104 undef = undef := hk 104 (by kernel_rfl)
    have e105 : tm.getD 105 undef = undef := hk 105 (by kernel_rfl)
    have e106 : tm.getD 106 undef = undef := hk 106 (by kernel_rfl)
    have e107 : tm.getD 107 undef = undef := hk 107 (by kernel_rfl)
    have e108 : tm.getD 108 undef = undef := hk 108 (by kernel_rfl)
    have e109 : tm.getD 109 undef = undef := hk 109 (by kernel_rfl)
    have e110 : tm.getD 110 undef = undef := hk 110 (by kernel_rfl)
    have e111 : tm.getD 111 undef = undef := hk 111 (by kernel_rfl)
    have e112 : tm.getD 112 undef = undef := hk 112 (by kernel_rfl)
    have e113 : tm.getD 113 undef = undef := hk 113 (by kernel_rfl)
    have e114 : tm.getD 114 undef = undef := hk 114 (by kernel_rfl)
    have e115 : tm.getD 115 undef = undef := hk 115 (by kernel_rfl)
    have e116 : tm.getD 116 undef = undef := hk 116 (by kernel_rfl)
    have e117 : tm.getD 117 undef = undef := hk 117 (by kernel_rfl)
    have e118 : tm.getD 118 undef = undef := hk 118 (by kernel_rfl)
    have e119 : tm.getD 119 undef = undef := hk 119 (by kernel_rfl)
    have e120 : tm.getD 120 undef = undef := hk 120 (by kernel_rfl)
    have e121 : tm.getD 121 undef = undef := hk 121 (by kernel_rfl)
    have e122 : tm.getD 122 undef = undef := hk 122 (by kernel_rfl)
    have e123 : tm.getD 123 undef = undef := hk 123 (by kernel_rfl)
    have e124 : tm.getD 124 undef = undef := hk 124 (by kernel_rfl)
    have e125 : tm.getD 125 undef = undef := hk 125 (by kernel_rfl)
    have e126 : tm.getD 126 undef = undef := hk 126 (by kernel_rfl)
    have e127 : tm.getD 127 undef = undef := hk 127 (by kernel_rfl)
    have e128 : tm.getD 128 undef = undef := hk 128 (by kernel_rfl)
    have e129 : tm.getD 129 undef = undef := hk 129 (by kernel_rfl)
    have e130 : tm.getD 130 undef = undef := hk 130 (by kernel_rfl)
    have e131 : tm.getD 131 undef = undef := hk 131 (by kernel_rfl)
    have e132 : tm.getD 132 undef = undef := hk 132 (by kernel_rfl)
    have e133 : tm.getD 133 undef = undef := hk 133 (by kernel_rfl)
    have e134 : tm.getD 134 undef = undef := hk 134 (by kernel_rfl)
    have e135 : tm.getD 135 undef = undef := hk 135 (by kernel_rfl)
    have e136 : tm.getD 136 undef = undef := hk 136 (by kernel_rfl)
    have e137 : tm.getD 137 undef = undef := hk 137 (by kernel_rfl)
    have e138 : tm.getD 138 undef = undef := hk 138 (by kernel_rfl)
    have e139 : tm.getD 139 undef = undef := hk 139 (by kernel_rfl)
    have e140 : tm.getD 140 undef = undef := hk 140 (by kernel_rfl)
    have e141 : tm.getD 141 undef = undef := hk 141 (by kernel_rfl)
    have e142 : tm.getD 142 undef = undef := hk 142 (by kernel_rfl)
    have e143 : tm.getD 143 undef = undef := hk 143 (by kernel_rfl)
    have e144 : tm.getD 144 undef = undef := hk 144 (by kernel_rfl)
    have e145 : tm.getD 145 undef = undef := hk 145 (by kernel_rfl)
    have e146 : tm.getD 146 undef = undef := hk 146 (by kernel_rfl)
    have e147 : tm.getD 147 undef = undef := hk 147 (by kernel_rfl)
    have e148 : tm.getD 148 undef = undef := hk 148 (by kernel_rfl)
    have e149 : tm.getD 149 undef = undef := hk 149 (by kernel_rfl)
    have e150 : tm.getD 150 undef = undef := hk 150 (by kernel_rfl)
    have e151 : tm.getD 151 undef = undef := hk 151 (by kernel_rfl)
    have e152 : tm.getD 152 undef = undef := hk 152 (by kernel_rfl)
    have e153 : tm.getD 153 undef = undef := hk 153 (by kernel_rfl)
    have e154 : tm.getD 154 undef = undef := hk 154 (by kernel_rfl)
    have e155 : tm.getD 155 undef = undef := hk 155 (by kernel_rfl)
    have e156 : tm.getD 156 undef = undef := hk 156 (by kernel_rfl)
    have e157 : tm.getD 157 undef = undef := hk 157 (by kernel_rfl)
    have e158 : tm.getD 158 undef = undef := hk 158 (by kernel_rfl)
    have e159 : tm.getD 159 undef = undef := hk 159 (by kernel_rfl)
    have e160 : tm.getD 160 undef = undef := hk 160 (by kernel_rfl)
    have e161 : tm.getD 161 undef = undef := hk 161 (by kernel_rfl)
    have e162 : tm.getD 162 undef = undef := hk 162 (by kernel_rfl)
    have e163 : tm.getD 163 undef = undef := hk 163 (by kernel_rfl)
    have e164 : tm.getD 164 undef = undef := hk 164 (by kernel_rfl)
    have e165 : tm.getD 165 undef = undef := hk 165 (by kernel_rfl)
    have e166 : tm.getD 166 undef = undef := hk 166 (by kernel_rfl)
    have e167 : tm.getD 167 undef = undef := hk 167 (by kernel_rfl)
    have e168 : tm.getD 168 undef = undef := hk 168 (by kernel_rfl)
    have e169 : tm.getD 169 undef = undef := hk 169 (by kernel_rfl)
    have e170 : tm.getD 170 undef = undef := hk 170 (by kernel_rfl)
    have e171 : tm.getD 171 undef = undef := hk 171 (by kernel_rfl)
    have e172 : tm.getD 172 undef = undef := hk 172 (by kernel_rfl)
    have g49 : (tm.getD 49 undef) = .pointer (some ⟨tb, 0, none⟩) := hG 0 49 (by decide) rfl
    have g50 : (tm.getD 50 undef) = .pointer (some ⟨tb, 0, none⟩) := hG 1 50 (by decide) rfl
    have g51 : (tm.getD 51 undef) = .pointer (some ⟨w.heap.size, 1, none⟩) := hG 2 51 (by decide) rfl
    have g52 : (tm.getD 52 undef) = .int .i64 zi := hG 3 52 (by decide) rfl
    have g53 : (tm.getD 53 undef) = .pointer (some ⟨w.heap.size, 2, none⟩) := hG 4 53 (by decide) rfl
    have g54 : (tm.getD 54 undef) = .int .i64 zid := hG 5 54 (by decide) rfl
    have g55 : (tm.getD 55 undef) = .int .i64 (linkS S zi zid) := hG 6 55 (by decide) rfl
    have g56 : (tm.getD 56 undef) = .pointer (some ⟨rb, 0, none⟩) := hG 7 56 (by decide) rfl
    have g57 : (tm.getD 57 undef) = .pointer (some ⟨w.heap.size, 1, none⟩) := hG 8 57 (by decide) rfl
    have g58 : (tm.getD 58 undef) = .int .i64 zi := hG 9 58 (by decide) rfl
    have g59 : (tm.getD 59 undef) = .pointer (some ⟨w.heap.size, 2, none⟩) := hG 10 59 (by decide) rfl
    have g60 : (tm.getD 60 undef) = .int .i64 zid := hG 11 60 (by decide) rfl
    have g61 : (tm.getD 61 undef) = .int .i64 (linkS S zi zid) := hG 12 61 (by decide) rfl
    have g62 : (tm.getD 62 undef) = .bool true := hG 13 62 (by decide) rfl
    have g6 : (tm.getD 6 undef) = .pointer (some ⟨tb, 0, none⟩) := hG 14 6 (by decide) rfl
    have g7 : (tm.getD 7 undef) = .bool true := hG 15 7 (by decide) rfl
    have htm := arr_of tm ((.pointer (some ⟨tb, 0, none⟩) : Value) :: (.pointer (some ⟨rb, 0, none⟩) : Value) :: (.agg #[.int .i64 2, .int .i64 zi, .int .i64 zid, .int .i64 zw, .int .i64 zn, .int .i64 zd, .slice zp xs.length cc] : Value) :: (undef : Value) :: (undef : Value) :: (.pointer (some ⟨w.heap.size, 0, none⟩) : Value) :: (tm.getD 6 undef : Value) :: (tm.getD 7 undef : Value) :: (undef : Value) :: (undef : Value) :: (undef : Value) :: (undef : Value) :: (undef : Value) :: (undef : Value) :: (undef : Value) :: (undef : Value) :: (undef : Value) :: (.pointer (some ⟨w.heap.size, 0, none⟩) : Value) :: (.int .i64 2 : Value) :: (.bool false : Value) :: (.bool false : Value) :: (undef : Value) :: (undef : Value) :: (undef : Value) :: (undef : Value) :: (undef : Value) :: (undef : Value) :: (undef : Value) :: (undef : Value) :: (undef : Value) :: (undef : Value) :: (undef : Value) :: (undef : Value) :: (undef : Value) :: (undef : Value) :: (undef : Value) :: (undef : Value) :: (undef : Value) :: (undef : Value) :: (undef : Value) :: (undef : Value) :: (undef : Value) :: (undef : Value) :: (undef : Value) :: (undef : Value) :: (undef : Value) :: (undef : Value) :: (.bool true : Value) :: (.bool true : Value) :: (tm.getD 49 undef : Value) :: (tm.getD 50 undef : Value) :: (tm.getD 51 undef : Value) :: (tm.getD 52 undef : Value) :: (tm.getD 53 undef : Value) :: (tm.getD 54 undef : Value) :: (tm.getD 55 undef : Value) :: (tm.getD 56 undef : Value) :: (tm.getD 57 undef : Value) :: (tm.getD 58 undef : Value) :: (tm.getD 59 undef : Value) :: (tm.getD 60 undef : Value) :: (tm.getD 61 undef : Value) :: (tm.getD 62 undef : Value) :: (undef : Value) :: (undef : Value) :: (undef : Value) :: (undef : Value) :: (undef : Value) :: (undef : Value) :: (undef : Value) :: (undef : Value) :: (undef : Value) :: (undef : Value) :: (undef : Value) :: (undef : Value) :: (undef : Value) :: (undef : Value) :: (undef : Value) :: (undef : Value) :: (undef : Value) :: (undef : Value) :: (undef : Value) :: (undef : Value) :: (undef : Value) :: (undef : Value) :: (undef : Value) :: (undef : Value) :: (undef : Value) :: (undef : Value) :: (undef : Value) :: (undef : Value) :: (undef : Value) :: (undef : Value) :: (undef : Value) :: (undef : Value) :: (undef : Value) :: (undef : Value) :: (undef : Value) :: (undef : Value) :: (undef : Value) :: (undef : Value) :: (undef : Value) :: (undef : Value) :: (undef : Value) :: (undef : Value) :: (undef : Value) :: (undef : Value) :: (undef : Value) :: (undef : Value) :: (undef : Value) :: (undef : Value) :: (undef : Value) :: (undef : Value) :: (undef : Value) :: (undef : Value) :: (undef : Value) :: (undef : Value) :: (undef : Value) :: (undef : Value) :: (undef : Value) :: (undef : Value) :: (undef : Value) :: (undef : Value) :: (undef : Value) :: (undef : Value) :: (undef : Value) :: (undef : Value) :: (undef : Value) :: (undef : Value) :: (undef : Value) :: (undef : Value) :: (undef : Value) :: (undef : Value) :: (undef : Value) :: (undef : Value) :: (undef : Value) :: (undef : Value) :: (undef : Value) :: (undef : Value) :: (undef : Value) :: (undef : Value) :: (undef : Value) :: (undef : Value) :: (undef : Value) :: (undef : Value) :: (undef : Value) :: (undef : Value) :: (undef : Value) :: (undef : Value) :: (undef : Value) :: (undef : Value) :: (undef : Value) :: (undef : Value) :: (undef : Value) :: (undef : Value) :: (undef : Value) :: (undef : Value) :: (undef : Value) :: (undef : Value) :: (undef : Value) :: (undef : Value) :: (undef : Value) :: (undef : Value) :: (undef : Value) :: (undef : Value) :: (undef : Value) :: (undef : Value) :: (undef : Value) :: (undef : Value) :: (undef : Value) :: (undef : Value) :: (undef : Value) :: (undef : Value) :: []) hs (by show (tm.getD 0 undef :: tm.getD 1 undef :: tm.getD 2 undef :: tm.getD 3 undef :: tm.getD 4 undef :: tm.getD 5 undef :: tm.getD 6 undef :: tm.getD 7 undef :: tm.getD 8 undef :: tm.getD 9 undef :: tm.getD 10 undef :: tm.getD 11 undef :: tm.getD 12 undef :: tm.getD 13 undef :: tm.getD 14 undef :: tm.getD 15 undef :: tm.getD 16 undef :: tm.getD 17 undef :: tm.getD 18 undef :: tm.getD 19 undef :: tm.getD 20 undef :: tm.getD 21 undef :: tm.getD 22 undef :: tm.getD 23 undef :: tm.getD 24 undef :: tm.getD 25 undef :: tm.getD 26 undef :: tm.getD 27 undef :: tm.getD 28 undef :: tm.getD 29 undef :: tm.getD 30 undef :: tm.getD 31 undef :: tm.getD 32 undef :: tm.getD 33 undef :: tm.getD 34 undef :: tm.getD 35 undef :: tm.getD 36 undef :: tm.getD 37 undef :: tm.getD 38 undef :: tm.getD 39 undef :: tm.getD 40 undef :: tm.getD 41 undef :: tm.getD 42 undef :: tm.getD 43 undef :: tm.getD 44 undef :: tm.getD 45 undef :: tm.getD 46 undef :: tm.getD 47 undef :: tm.getD 48 undef :: tm.getD 49 undef :: tm.getD 50 undef :: tm.getD 51 undef :: tm.getD 52 undef :: tm.getD 53 undef :: tm.getD 54 undef :: tm.getD 55 undef :: tm.getD 56 undef :: tm.getD 57 undef :: tm.getD 58 undef :: tm.getD 59 undef :: tm.getD 60 undef :: tm.getD 61 undef :: tm.getD 62 undef :: tm.getD 63 undef :: tm.getD 64 undef :: tm.getD 65 undef :: tm.getD 66 undef :: tm.getD 67 undef :: tm.getD 68 undef :: tm.getD 69 undef :: tm.getD 70 undef :: tm.getD 71 undef :: tm.getD 72 undef :: tm.getD 73 undef :: tm.getD 74 undef :: tm.getD 75 undef :: tm.getD 76 undef :: tm.getD 77 undef :: tm.getD 78 undef :: tm.getD 79 undef :: tm.getD 80 undef :: tm.getD 81 undef :: tm.getD 82 undef :: tm.getD 83 undef :: tm.getD 84 undef :: tm.getD 85 undef :: tm.getD 86 undef :: tm.getD 87 undef :: tm.getD 88 undef :: tm.getD 89 undef :: tm.getD 90 undef :: tm.getD 91 undef :: tm.getD 92 undef :: tm.getD 93 undef :: tm.getD 94 undef :: tm.getD 95 undef :: tm.getD 96 undef :: tm.getD 97 undef :: tm.getD 98 undef :: tm.getD 99 undef :: tm.getD 100 undef :: tm.getD 101 undef :: tm.getD 102 undef :: tm.getD 103 undef :: tm.getD 104 undef :: tm.getD 105 undef :: tm.getD 106 undef :: tm.getD 107 undef :: tm.getD 108 undef :: tm.getD 109 undef :: tm.getD 110 undef :: tm.getD 111 undef :: tm.getD 112 undef :: tm.getD 113 undef :: tm.getD 114 undef :: tm.getD 115 undef :: tm.getD 116 undef :: tm.getD 117 undef :: tm.getD 118 undef :: tm.getD 119 undef :: tm.getD 120 undef :: tm.getD 121 undef :: tm.getD 122 undef :: tm.getD 123 undef :: tm.getD 124 undef :: tm.getD 125 undef :: tm.getD 126 undef :: tm.getD 127 undef :: tm.getD 128 undef :: tm.getD 129 undef :: tm.getD 130 undef :: tm.getD 131 undef :: tm.getD 132 undef :: tm.getD 133 undef :: tm.getD 134 undef :: tm.getD 135 undef :: tm.getD 136 undef :: tm.getD 137 undef :: tm.getD 138 undef :: tm.getD 139 undef :: tm.getD 140 undef :: tm.getD 141 undef :: tm.getD 142 undef :: tm.getD 143 undef :: tm.getD 144 undef :: tm.getD 145 undef :: tm.getD 146 undef :: tm.getD 147 undef :: tm.getD 148 undef :: tm.getD 149 undef :: tm.getD 150 undef :: tm.getD 151 undef :: tm.getD 152 undef :: tm.getD 153 undef :: tm.getD 154 undef :: tm.getD 155 undef :: tm.getD 156 undef :: tm.getD 157 undef :: tm.getD 158 undef :: tm.getD 159 undef :: tm.getD 160 undef :: tm.getD 161 undef :: tm.getD 162 undef :: tm.getD 163 undef :: tm.getD 164 undef :: tm.getD 165 undef :: tm.getD 166 undef :: tm.getD 167 undef :: tm.getD 168 undef :: tm.getD 169 undef :: tm.getD 170 undef :: tm.getD 171 undef :: tm.getD 172 undef :: []) = _; rw [e0, e1, e2, e3, e4, e5, e8, e9, e10, e11, e12, e13, e14, e15, e16, e17, e18, e19, e20, e21, e22, e23, e24, e25, e26, e27, e28, e29, e30, e31, e32, e33, e34, e35, e36, e37, e38, e39, e40, e41, e42, e43, e44, e45, e46, e47, e48, e63, e64, e65, e66, e67, e68, e69, e70, e71, e72, e73, e74, e75, e76, e77, e78, e79, e80, e81, e82, e83, e84, e85, e86, e87, e88, e89, e90, e91, e92, e93, e94, e95, e96, e97, e98, e99, e100, e101, e102, e103, e104, e105, e106, e107, e108, e109, e110, e111, e112, e113, e114, e115, e116, e117, e118, e119, e120, e121, e122, e123, e124, e125, e126, e127, e128, e129, e130, e131, e132, e133, e134, e135, e136, e137, e138, e139, e140, e141, e142, e143, e144, e145, e146, e147, e148, e149, e150, e151, e152, e153, e154, e155, e156, e157, e158, e159, e160, e161, e162, e163, e164, e165, e166, e167, e168, e169, e170, e171, e172]; try rfl)
    clear hs hk hG e0 e1 e2 e3 e4 e5 e8 e9 e10 e11 e12 e13 e14 e15 e16 e17 e18 e19 e20 e21 e22 e23 e24 e25 e26 e27 e28 e29 e30 e31 e32 e33 e34 e35 e36 e37 e38 e39 e40 e41 e42 e43 e44 e45 e46 e47 e48 e63 e64 e65 e66 e67 e68 e69 e70 e71 e72 e73 e74 e75 e76 e77 e78 e79 e80 e81 e82 e83 e84 e85 e86 e87 e88 e89 e90 e91 e92 e93 e94 e95 e96 e97 e98 e99 e100 e101 e102 e103 e104 e105 e106 e107 e108 e109 e110 e111 e112 e113 e114 e115 e116 e117 e118 e119 e120 e121 e122 e123 e124 e125 e126 e127 e128 e129 e130 e131 e132 e133 e134 e135 e136 e137 e138 e139 e140 e141 e142 e143 e144 e145 e146 e147 e148 e149 e150 e151 e152 e153 e154 e155 e156 e157 e158 e159 e160 e161 e162 e163 e164 e165 e166 e167 e168 e169 e170 e171 e172
    generalize tm.getD 49 undef = t49 at htm g49
    generalize tm.getD 50 undef = t50 at htm g50
    generalize tm.getD 51 undef = t51 at htm g51
    generalize tm.getD 52 undef = t52 at htm g52
    generalize tm.getD 53 undef = t53 at htm g53
    generalize tm.getD 54 undef = t54 at htm g54
    generalize tm.getD 55 undef = t55 at htm g55
    generalize tm.getD 56 undef = t56 at htm g56
    generalize tm.getD 57 undef = t57 at htm g57
    generalize tm.getD 58 undef = t58 at htm g58
    generalize tm.getD 59 undef = t59 at htm g59
    generalize tm.getD 60 undef = t60 at htm g60
    generalize tm.getD 61 undef = t61 at htm g61
    generalize tm.getD 62 undef = t62 at htm g62
    generalize tm.getD 6 undef = t6 at htm g6
    generalize tm.getD 7 undef = t7 at htm g7
    subst htm
    subst g49
    subst g50
    subst g51
    subst g52
    subst g53
    subst g54
    subst g55
    subst g56
    subst g57
    subst g58
    subst g59
    subst g60
    subst g61
    subst g62
    subst g6
    subst g7
    have HJ2 := Lib.hid hJ
    clear hJ hB
    go_wp2_with fail
    go_ret2
    obtain ⟨⟨F', g', cap', cs', L', hb⟩, hw⟩ := HJ2.out
    exact ⟨rfl, ⟨F', _, g', cap', cs', L', hb⟩, (HB1.out.mono HH.out.bw).trans hw⟩
end Go.Proofs.Ytebcnlhgkpaghaa
/- A step of the law: shift. -/
namespace Go.Proofs.Ytebcnlhgkpaghaa
open Go.RowKit Go.Sort
set_option maxRecDepth 100000 in
set_option maxHeartbeats 8000000 in
theorem stepH_shift {w : World} {b0 tb rb : Nat} {root : Int} {base mb : Nat} {F : Nat → Prop} {S : Abs} {g cap : Nat} {cs : Array Value} {L : List Th} (h : Bo w b0 tb rb root base mb F S g cap cs L) (zi zid zw zn zd : Int) (zp : Option Addr) (cc : Nat) (xs : List (Int × Int)) (_hm : xs.length ≤ maxLen) (hc : CatsAt w zp xs) (hp : 0 < xs.length → ∀ a, zp = some a → a.block < b0) (ii : i64 zi) (_iid : i64 zid) :
    Calls Try.prog 7 #[.pointer (some ⟨tb, 0, none⟩), .pointer (some ⟨rb, 0, none⟩), .agg #[.int .i64 4, .int .i64 zi, .int .i64 zid, .int .i64 zw, .int .i64 zn, .int .i64 zd, .slice zp xs.length cc]] w fun e w' => e = .returned (.tuple #[.pointer (some ⟨tb, 0, none⟩), .bool true]) ∧ (∃ F' S' g' cap' cs' L', Bo w' b0 tb rb root base mb F' S' g' cap' cs' L') ∧ Below b0 w w' := by
  have HH := Lib.hid h
  obtain ⟨W1, hW1⟩ : ∃ W1, w.alloc (.cells #[.int .i64 4, .int .i64 zi, .int .i64 zid, .int .i64 zw, .int .i64 zn, .int .i64 zd, .slice zp xs.length cc] 32) = W1 := ⟨_, rfl⟩
  have b1 : Below w.heap.size w W1 := by rw [← hW1]; exact (Below.refl _ _).alloc (Nat.le_refl _) _
  have hz : w.heap.size < W1.heap.size := by rw [← hW1]; simp
  have hbW : b0 ≤ W1.heap.size := Nat.le_trans h.bw b1.size
  have hO : W1.heap[w.heap.size]? = some (.cells #[.int .i64 4, .int .i64 zi, .int .i64 zid, .int .i64 zw, .int .i64 zn, .int .i64 zd, .slice zp xs.length cc] 32 (0, 0)) := by rw [← hW1]; exact heap_new _ _
  have d0 : W1.cell? ⟨w.heap.size, 0, none⟩ = some (.int .i64 4) := by simp [World.cell?, hO]
  have cW : ∀ X, OpS w.heap.size W1 X → X.cell? ⟨w.heap.size, 1, none⟩ = some (.int .i64 zi) ∧ X.cell? ⟨w.heap.size, 2, none⟩ = some (.int .i64 zid) ∧ X.cell? ⟨w.heap.size, 3, none⟩ = some (.int .i64 zw) ∧ X.cell? ⟨w.heap.size, 4, none⟩ = some (.int .i64 zn) ∧ X.cell? ⟨w.heap.size, 5, none⟩ = some (.int .i64 zd) ∧ X.cell? ⟨w.heap.size, 6, none⟩ = some (.slice zp xs.length cc) := fun X hX => ⟨op_cells hO hX rfl, op_cells hO hX rfl, op_cells hO hX rfl, op_cells hO hX rfl, op_cells hO hX rfl, op_cells hO hX rfl⟩
  have HB1 := Lib.hid b1
  have HC := Lib.hid hc
  have HPB := Lib.hid hp
  have hcX : Hid (∀ X, HJ W1 b0 tb rb root base mb (shiftT S zi zid zn) g cap cs L 0 X → CatsAt X zp xs) := fun X hX => (hc.below b1).below hX
  have hcY : Hid (∀ X, Below b0 W1 X → CatsAt X zp xs ∧ ∀ F' : Nat → Prop, (∀ k, F' k → base ≤ k) → Off (fun b => b = rb ∨ b = g ∨ F' b) zp xs.length) := fun X hX => by
    have hk : ∀ k, k < W1.heap.size → ¬ b0 ≤ k → X.heap[k]? = W1.heap[k]? := fun k _ h2 => hX.block k (by omega)
    refine ⟨cats_keep (P := fun k => b0 ≤ k) (hc.below b1) (fun hn a ha e => by have := hp hn a ha; omega) hk hX.size, fun F' hF hn a ha hx => ?_⟩
    have := hp hn a ha
    rcases hx with e | e | e
    · have := h.b2; omega
    · have := h.b3; omega
    · have := hF _ e; have := h.b1; omega
  clear h hO b1 hc hp
  go_enter Try.func7, Try.ntmps7
  go_upto_region 11 with fail
  refine wp_region_phT 6 8 16 (OpS w.heap.size) (HJ W1 b0 tb rb root base mb (shiftT S zi zid zn) g cap cs L) (fun kq v X => match kq with | 94 => v = .pointer (some ⟨tb, 0, none⟩) | 95 => v = .pointer (some ⟨tb, 0, none⟩) | 96 => v = .pointer (some ⟨w.heap.size, 1, none⟩) | 97 => v = .int .i64 zi | 98 => v = .pointer (some ⟨w.heap.size, 2, none⟩) | 99 => v = .int .i64 zid | 100 => v = .pointer (some ⟨w.heap.size, 4, none⟩) | 101 => v = .int .i64 zn | 102 => v = .int .i64 (shiftS S zi zid zn) | 103 => v = .pointer (some ⟨rb, 0, none⟩) | 104 => v = .pointer (some ⟨w.heap.size, 1, none⟩) | 105 => v = .int .i64 zi | 106 => v = .pointer (some ⟨w.heap.size, 2, none⟩) | 107 => v = .int .i64 zid | 108 => v = .pointer (some ⟨w.heap.size, 4, none⟩) | 109 => v = .int .i64 zn | 110 => v = .int .i64 (shiftS S zi zid zn) | 111 => v = .bool true | 6 => v = .pointer (some ⟨tb, 0, none⟩) | 7 => v = .bool true | _ => True) (by kernel_rfl) (by kernel_rfl) (by kernel_rfl) (by kernel_rfl) (by decide) (by decide) (fun _ _ h => OpS.of_below h) (fun _ _ _ h k => OpS.trans h k) (fun _ _ _ h hb => HJ.below h hbW hb) ((Below.refl _ _).drew) ?_ ?_ ?_
  · intro kq v W W' h hb
    revert h
    try dsimp only
    split
    · intro h; exact h
    · intro h; exact h
    · intro h; exact h
    · intro h; exact h
    · intro h; exact h
    · intro h; exact h
    · intro h; exact h
    · intro h; exact h
    · intro h; exact h
    · intro h; exact h
    · intro h; exact h
    · intro h; exact h
    · intro h; exact h
    · intro h; exact h
    · intro h; exact h
    · intro h; exact h
    · intro h; exact h
    · intro h; exact h
    · intro h; exact h
    · intro h; exact h
    · intro h; trivial
  · intro a' X p hJ hB hs hk i o d ho hd hp1 hp2 hG
    match i, ho with
    | 0, ho =>
      obtain rfl : _ = o := Option.some.inj ho
      obtain rfl : 94 = d := Option.some.inj hd
      have g0 : a'.eval (.tmp 0) = .pointer (some ⟨tb, 0, none⟩) := hk 0 (by kernel_rfl)
      refine ⟨rfl, .inl ⟨.pointer (some ⟨tb, 0, none⟩), X, ?_, ⟨Below.refl _ _, by decide, by decide⟩, rfl⟩⟩
      obtain ⟨ev, hev⟩ : ∃ ev, a'.eval = ev := ⟨_, rfl⟩
      rw [hev] at g0 ⊢
      clear hev hG hk hs
      obtain ⟨c1, c2, c3, c4, c5, c6⟩ := cW X hB
      go_simp
    | 1, ho =>
      obtain rfl : _ = o := Option.some.inj ho
      obtain rfl : 95 = d := Option.some.inj hd
      have g0 : a'.eval (.tmp 0) = .pointer (some ⟨tb, 0, none⟩) := hk 0 (by kernel_rfl)
      refine ⟨rfl, .inl ⟨.pointer (some ⟨tb, 0, none⟩), X, ?_, ⟨Below.refl _ _, by decide, by decide⟩, rfl⟩⟩
      obtain ⟨ev, hev⟩ : ∃ ev, a'.eval = ev := ⟨_, rfl⟩
      rw [hev] at g0 ⊢
      clear hev hG hk hs
      obtain ⟨c1, c2, c3, c4, c5, c6⟩ := cW X hB
      go_simp
    | 2, ho =>
      obtain rfl : _ = o := Option.some.inj ho
      obtain rfl : 96 = d := Option.some.inj hd
      have g5 : a'.eval (.tmp 5) = .pointer (some ⟨w.heap.size, 0, none⟩) := hk 5 (by kernel_rfl)
      refine ⟨rfl, .inl ⟨.pointer (some ⟨w.heap.size, 1, none⟩), X, ?_, ⟨Below.refl _ _, by decide, by decide⟩, rfl⟩⟩
      obtain ⟨ev, hev⟩ : ∃ ev, a'.eval = ev := ⟨_, rfl⟩
      rw [hev] at g5 ⊢
      clear hev hG hk hs
      obtain ⟨c1, c2, c3, c4, c5, c6⟩ := cW X hB
      go_simp
    | 3, ho =>
      obtain rfl : _ = o := Option.some.inj ho
      obtain rfl : 97 = d := Option.some.inj hd
      have g96 : a'.eval (.tmp 96) = .pointer (some ⟨w.heap.size, 1, none⟩) := hG ⟨2, .data⟩ (by simp) rfl 96 rfl
      refine ⟨rfl, .inl ⟨.int .i64 zi, X, ?_, ⟨Below.refl _ _, by decide, by decide⟩, rfl⟩⟩
      obtain ⟨ev, hev⟩ : ∃ ev, a'.eval = ev := ⟨_, rfl⟩
      rw [hev] at g96 ⊢
      clear hev hG hk hs
      obtain ⟨c1, c2, c3, c4, c5, c6⟩ := cW X hB
      go_simp
    | 4, ho =>
      obtain rfl : _ = o := Option.some.inj ho
      obtain rfl : 98 = d := Option.some.inj hd
      have g5 : a'.eval (.tmp 5) = .pointer (some ⟨w.heap.size, 0, none⟩) := hk 5 (by kernel_rfl)
      refine ⟨rfl, .inl ⟨.pointer (some ⟨w.heap.size, 2, none⟩), X, ?_, ⟨Below.refl _ _, by decide, by decide⟩, rfl⟩⟩
      obtain ⟨ev, hev⟩ : ∃ ev, a'.eval = ev := ⟨_, rfl⟩
      rw [hev] at g5 ⊢
      clear hev hG hk hs
      obtain ⟨c1, c2, c3, c4, c5, c6⟩ := cW X hB
      go_simp
    | 5, ho =>
      obtain rfl : _ = o := Option.some.inj ho
      obtain rfl : 99 = d := Option.some.inj hd
      have g98 : a'.eval (.tmp 98) = .pointer (some ⟨w.heap.size, 2, none⟩) := hG ⟨4, .data⟩ (by simp) rfl 98 rfl
      refine ⟨rfl, .inl ⟨.int .i64 zid, X, ?_, ⟨Below.refl _ _, by decide, by decide⟩, rfl⟩⟩
      obtain ⟨ev, hev⟩ : ∃ ev, a'.eval = ev := ⟨_, rfl⟩
      rw [hev] at g98 ⊢
      clear hev hG hk hs
      obtain ⟨c1, c2, c3, c4, c5, c6⟩ := cW X hB
      go_simp
    | 6, ho =>
      obtain rfl : _ = o := Option.some.inj ho
      obtain rfl : 100 = d := Option.some.inj hd
      have g5 : a'.eval (.tmp 5) = .pointer (some ⟨w.heap.size, 0, none⟩) := hk 5 (by kernel_rfl)
      refine ⟨rfl, .inl ⟨.pointer (some ⟨w.heap.size, 4, none⟩), X, ?_, ⟨Below.refl _ _, by decide, by decide⟩, rfl⟩⟩
      obtain ⟨ev, hev⟩ : ∃ ev, a'.eval = ev := ⟨_, rfl⟩
      rw [hev] at g5 ⊢
      clear hev hG hk hs
      obtain ⟨c1, c2, c3, c4, c5, c6⟩ := cW X hB
      go_simp
    | 7, ho =>
      obtain rfl : _ = o := Option.some.inj ho
      obtain rfl : 101 = d := Option.some.inj hd
      have g100 : a'.eval (.tmp 100) = .pointer (some ⟨w.heap.size, 4, none⟩) := hG ⟨6, .data⟩ (by simp) rfl 100 rfl
      refine ⟨rfl, .inl ⟨.int .i64 zn, X, ?_, ⟨Below.refl _ _, by decide, by decide⟩, rfl⟩⟩
      obtain ⟨ev, hev⟩ : ∃ ev, a'.eval = ev := ⟨_, rfl⟩
      rw [hev] at g100 ⊢
      clear hev hG hk hs
      obtain ⟨c1, c2, c3, c4, c5, c6⟩ := cW X hB
      go_simp
    | 8, ho =>
      obtain rfl : _ = o := Option.some.inj ho
      obtain rfl : 102 = d := Option.some.inj hd
      have g95 : a'.eval (.tmp 95) = .pointer (some ⟨tb, 0, none⟩) := hG ⟨1, .data⟩ (by simp) rfl 95 rfl
      have g97 : a'.eval (.tmp 97) = .int .i64 zi := hG ⟨3, .data⟩ (by simp) rfl 97 rfl
      have g99 : a'.eval (.tmp 99) = .int .i64 zid := hG ⟨5, .data⟩ (by simp) rfl 99 rfl
      have g101 : a'.eval (.tmp 101) = .int .i64 zn := hG ⟨7, .data⟩ (by simp) rfl 101 rfl
      obtain rfl := hp1 rfl
      refine ⟨rfl, .inr ⟨23, #[.pointer (some ⟨tb, 0, none⟩), .int .i64 zi, .int .i64 zid, .int .i64 zn], ?_, ?_⟩⟩
      · have gF : a'.eval (.func 23) = .func (.func 23) #[] #[] := rfl
        obtain ⟨ev, hev⟩ : ∃ ev, a'.eval = ev := ⟨_, rfl⟩
        rw [hev] at gF g95 g97 g99 g101 ⊢
        exact exec_call4 rfl gF g95 g97 g99 g101 (enters_of Try.func23 (by kernel_rfl) rfl)
      exact (shift_x (HJ.bo HH.out HB1.out hJ).hx zi zid zn ii).mono fun e W' ⟨he, hd'⟩ => ⟨_, he, .inr ⟨(HJ.one HH.out HB1.out hz hJ hd').1, (HJ.one HH.out HB1.out hz hJ hd').2, .inl rfl⟩, rfl⟩
    | 9, ho =>
      obtain rfl : _ = o := Option.some.inj ho
      obtain rfl : 103 = d := Option.some.inj hd
      have g1 : a'.eval (.tmp 1) = .pointer (some ⟨rb, 0, none⟩) := hk 1 (by kernel_rfl)
      refine ⟨rfl, .inl ⟨.pointer (some ⟨rb, 0, none⟩), X, ?_, ⟨Below.refl _ _, by decide, by decide⟩, rfl⟩⟩
      obtain ⟨ev, hev⟩ : ∃ ev, a'.eval = ev := ⟨_, rfl⟩
      rw [hev] at g1 ⊢
      clear hev hG hk hs
      obtain ⟨c1, c2, c3, c4, c5, c6⟩ := cW X hB
      go_simp
    | 10, ho =>
      obtain rfl : _ = o := Option.some.inj ho
      obtain rfl : 104 = d := Option.some.inj hd
      have g5 : a'.eval (.tmp 5) = .pointer (some ⟨w.heap.size, 0, none⟩) := hk 5 (by kernel_rfl)
      refine ⟨rfl, .inl ⟨.pointer (some ⟨w.heap.size, 1, none⟩), X, ?_, ⟨Below.refl _ _, by decide, by decide⟩, rfl⟩⟩
      obtain ⟨ev, hev⟩ : ∃ ev, a'.eval = ev := ⟨_, rfl⟩
      rw [hev] at g5 ⊢
      clear hev hG hk hs
      obtain ⟨c1, c2, c3, c4, c5, c6⟩ := cW X hB
      go_simp
    | 11, ho =>
      obtain rfl : _ = o := Option.some.inj ho
      obtain rfl : 105 = d := Option.some.inj hd
      have g104 : a'.eval (.tmp 104) = .pointer (some ⟨w.heap.size, 1, none⟩) := hG ⟨10, .data⟩ (by simp) rfl 104 rfl
      refine ⟨rfl, .inl ⟨.int .i64 zi, X, ?_, ⟨Below.refl _ _, by decide, by decide⟩, rfl⟩⟩
      obtain ⟨ev, hev⟩ : ∃ ev, a'.eval = ev := ⟨_, rfl⟩
      rw [hev] at g104 ⊢
      clear hev hG hk hs
      obtain ⟨c1, c2, c3, c4, c5, c6⟩ := cW X hB
      go_simp
    | 12, ho =>
      obtain rfl : _ = o := Option.some.inj ho
      obtain rfl : 106 = d := Option.some.inj hd
      have g5 : a'.eval (.tmp 5) = .pointer (some ⟨w.heap.size, 0, none⟩) := hk 5 (by kernel_rfl)
      refine ⟨rfl, .inl ⟨.pointer (some ⟨w.heap.size, 2, none⟩), X, ?_, ⟨Below.refl _ _, by decide, by decide⟩, rfl⟩⟩
      obtain ⟨ev, hev⟩ : ∃ ev, a'.eval = ev := ⟨_, rfl⟩
      rw [hev] at g5 ⊢
      clear hev hG hk hs
      obtain ⟨c1, c2, c3, c4, c5, c6⟩ := cW X hB
      go_simp
    | 13, ho =>
      obtain rfl : _ = o := Option.some.inj ho
      obtain rfl : 107 = d := Option.some.inj hd
      have g106 : a'.eval (.tmp 106) = .pointer (some ⟨w.heap.size, 2, none⟩) := hG ⟨12, .data⟩ (by simp) rfl 106 rfl
      refine ⟨rfl, .inl ⟨.int .i64 zid, X, ?_, ⟨Below.refl _ _, by decide, by decide⟩, rfl⟩⟩
      obtain ⟨ev, hev⟩ : ∃ ev, a'.eval = ev := ⟨_, rfl⟩
      rw [hev] at g106 ⊢
      clear hev hG hk hs
      obtain ⟨c1, c2, c3, c4, c5, c6⟩ := cW X hB
      go_simp
    | 14, ho =>
      obtain rfl : _ = o := Option.some.inj ho
      obtain rfl : 108 = d := Option.some.inj hd
      have g5 : a'.eval (.tmp 5) = .pointer (some ⟨w.heap.size, 0, none⟩) := hk 5 (by kernel_rfl)
      refine ⟨rfl, .inl ⟨.pointer (some ⟨w.heap.size, 4, none⟩), X, ?_, ⟨Below.refl _ _, by decide, by decide⟩, rfl⟩⟩
      obtain ⟨ev, hev⟩ : ∃ ev, a'.eval = ev := ⟨_, rfl⟩
      rw [hev] at g5 ⊢
      clear hev hG hk hs
      obtain ⟨c1, c2, c3, c4, c5, c6⟩ := cW X hB
      go_simp
    | 15, ho =>
      obtain rfl : _ = o := Option.some.inj ho
      obtain rfl : 109 = d := Option.some.inj hd
      have g108 : a'.eval (.tmp 108) = .pointer (some ⟨w.heap.size, 4, none⟩) := hG ⟨14, .data⟩ (by simp) rfl 108 rfl
      refine ⟨rfl, .inl ⟨.int .i64 zn, X, ?_, ⟨Below.refl _ _, by decide, by decide⟩, rfl⟩⟩
      obtain ⟨ev, hev⟩ : ∃ ev, a'.eval = ev := ⟨_, rfl⟩
      rw [hev] at g108 ⊢
      clear hev hG hk hs
      obtain ⟨c1, c2, c3, c4, c5, c6⟩ := cW X hB
      go_simp
    | 16, ho =>
      obtain rfl : _ = o := Option.some.inj ho
      obtain rfl : 110 = d := Option.some.inj hd
      have g103 : a'.eval (.tmp 103) = .pointer (some ⟨rb, 0, none⟩) := hG ⟨9, .data⟩ (by simp) rfl 103 rfl
      have g105 : a'.eval (.tmp 105) = .int .i64 zi := hG ⟨11, .data⟩ (by simp) rfl 105 rfl
      have g107 : a'.eval (.tmp 107) = .int .i64 zid := hG ⟨13, .data⟩ (by simp) rfl 107 rfl
      have g109 : a'.eval (.tmp 109) = .int .i64 zn := hG ⟨15, .data⟩ (by simp) rfl 109 rfl
      obtain rfl := hp2 rfl
      refine ⟨rfl, .inr ⟨24, #[.pointer (some ⟨rb, 0, none⟩), .int .i64 zi, .int .i64 zid, .int .i64 zn], ?_, ?_⟩⟩
      · have gF : a'.eval (.func 24) = .func (.func 24) #[] #[] := rfl
        obtain ⟨ev, hev⟩ : ∃ ev, a'.eval = ev := ⟨_, rfl⟩
        rw [hev] at gF g103 g105 g107 g109 ⊢
        exact exec_call4 rfl gF g103 g105 g107 g109 (enters_of Try.func24 (by kernel_rfl) rfl)
      obtain ⟨⟨F1, x1, x2, x3⟩, x4⟩ := _root_.id hJ
      obtain ⟨K, hinv⟩ := HH.out.inv
      exact (rShift_any x2 HH.out.rel hinv zi zid zn).mono fun e W' ⟨he, hd'⟩ => ⟨_, he, .inr ⟨(HJ.two HH.out hJ hbW x1 x2 hd').1, (HJ.two HH.out hJ hbW x1 x2 hd').2, .inr rfl⟩, rfl⟩
    | 17, ho =>
      obtain rfl : _ = o := Option.some.inj ho
      obtain rfl : 111 = d := Option.some.inj hd
      have g102 : a'.eval (.tmp 102) = .int .i64 (shiftS S zi zid zn) := hG ⟨8, .data⟩ (by simp) rfl 102 rfl
      have g110 : a'.eval (.tmp 110) = .int .i64 (shiftS S zi zid zn) := hG ⟨16, .data⟩ (by simp) rfl 110 rfl
      refine ⟨rfl, .inl ⟨.bool true, X, ?_, ⟨Below.refl _ _, by decide, by decide⟩, rfl⟩⟩
      obtain ⟨ev, hev⟩ : ∃ ev, a'.eval = ev := ⟨_, rfl⟩
      rw [hev] at g102 g110 ⊢
      clear hev hG hk hs
      obtain ⟨c1, c2, c3, c4, c5, c6⟩ := cW X hB
      go_simp
    | 18, ho =>
      obtain rfl : _ = o := Option.some.inj ho
      obtain rfl : 6 = d := Option.some.inj hd
      have g94 : a'.eval (.tmp 94) = .pointer (some ⟨tb, 0, none⟩) := hG ⟨0, .data⟩ (by simp) rfl 94 rfl
      refine ⟨rfl, .inl ⟨.pointer (some ⟨tb, 0, none⟩), X, ?_, ⟨Below.refl _ _, by decide, by decide⟩, rfl⟩⟩
      obtain ⟨ev, hev⟩ : ∃ ev, a'.eval = ev := ⟨_, rfl⟩
      rw [hev] at g94 ⊢
      clear hev hG hk hs
      obtain ⟨c1, c2, c3, c4, c5, c6⟩ := cW X hB
      go_simp
    | 19, ho =>
      obtain rfl : _ = o := Option.some.inj ho
      obtain rfl : 7 = d := Option.some.inj hd
      have g111 : a'.eval (.tmp 111) = .bool true := hG ⟨17, .data⟩ (by simp) rfl 111 rfl
      refine ⟨rfl, .inl ⟨.bool true, X, ?_, ⟨Below.refl _ _, by decide, by decide⟩, rfl⟩⟩
      obtain ⟨ev, hev⟩ : ∃ ev, a'.eval = ev := ⟨_, rfl⟩
      rw [hev] at g111 ⊢
      clear hev hG hk hs
      obtain ⟨c1, c2, c3, c4, c5, c6⟩ := cW X hB
      go_simp
    | j + 20, ho => simp at ho
  · intro a' X hJ hB hs hdf hk hG
    obtain ⟨tm, df⟩ := a'
    obtain rfl : df = [] := hdf
    have e0 : tm.getD 0 undef = .pointer (some ⟨tb, 0, none⟩) := hk 0 (by kernel_rfl)
    have e1 : tm.getD 1 undef = .pointer (some ⟨rb, 0, none⟩) := hk 1 (by kernel_rfl)
    have e2 : tm.getD 2 undef = .agg #[.int .i64 4, .int .i64 zi, .int .i64 zid, .int .i64 zw, .int .i64 zn, .int .i64 zd, .slice zp xs.length cc] := hk 2 (by kernel_rfl)
    have e3 : tm.getD 3 undef = undef := hk 3 (by kernel_rfl)
    have e4 : tm.getD 4 undef = undef := hk 4 (by kernel_rfl)
    have e5 : tm.getD 5 undef = .pointer (some ⟨w.heap.size, 0, none⟩) := hk 5 (by kernel_rfl)
    have e8 : tm.getD 8 undef = undef := hk 8 (by kernel_rfl)
    have e9 : tm.getD 9 undef = undef := hk 9 (by kernel_rfl)
    have e10 : tm.getD 10 undef = undef := hk 10 (by kernel_rfl)
    have e11 : tm.getD 11 undef = undef := hk 11 (by kernel_rfl)
    have e12 : tm.getD 12 undef = undef := hk 12 (by kernel_rfl)
    have e13 : tm.getD 13 undef = undef := hk 13 (by kernel_rfl)
    have e14 : tm.getD 14 undef = undef := hk 14 (by kernel_rfl)
    have e15 : tm.getD 15 undef = undef := hk 15 (by kernel_rfl)
    have e16 : tm.getD 16 undef = undef := hk 16 (by kernel_rfl)
    have e17 : tm.getD 17 undef = .pointer (some ⟨w.heap.size, 0, none⟩) := hk 17 (by kernel_rfl)
    have e18 : tm.getD 18 undef = .int .i64 4 := hk 18 (by kernel_rfl)
    have e19 : tm.getD 19 undef = .bool false := hk 19 (by kernel_rfl)
    have e20 : tm.getD 20 undef = .bool false := hk 20 (by kernel_rfl)
    have e21 : tm.getD 21 undef = undef := hk 21 (by kernel_rfl)
    have e22 : tm.getD 22 undef = undef := hk 22 (by kernel_rfl)
    have e23 : tm.getD 23 undef = undef := hk 23 (by kernel_rfl)
    have e24 : tm.getD 24 undef = undef := hk 24 (by kernel_rfl)
    have e25 : tm.getD 25 undef = undef := hk 25 (by kernel_rfl)
    have e26 : tm.getD 26 undef = undef := hk 26 (by kernel_rfl)
    have e27 : tm.getD 27 undef = undef := hk 27 (by kernel_rfl)
    have e28 : tm.getD 28 undef = undef := hk 28 (by kernel_rfl)
    have e29 : tm.getD 29 undef = undef := hk 29 (by kernel_rfl)
    have e30 : tm.getD 30 undef = undef := hk 30 (by kernel_rfl)
    have e31 : tm.getD 31 undef = undef := hk 31 (by kernel_rfl)
    have e32 : tm.getD 32 undef = undef := hk 32 (by kernel_rfl)
    have e33 : tm.getD 33 undef = undef := hk 33 (by kernel_rfl)
    have e34 : tm.getD 34 undef = undef := hk 34 (by kernel_rfl)
    have e35 : tm.getD 35 undef = undef := hk 35 (by kernel_rfl)
    have e36 : tm.getD 36 undef = undef := hk 36 (by kernel_rfl)
    have e37 : tm.getD 37 undef = undef := hk 37 (by kernel_rfl)
    have e38 : tm.getD 38 undef = undef := hk 38 (by kernel_rfl)
    have e39 : tm.getD 39 undef = undef := hk 39 (by kernel_rfl)
    have e40 : tm.getD 40 undef = undef := hk 40 (by kernel_rfl)
    have e41 : tm.getD 41 undef = undef := hk 41 (by kernel_rfl)
    have e42 : tm.getD 42 undef = undef := hk 42 (by kernel_rfl)
    have e43 : tm.getD 43 undef = undef := hk 43 (by kernel_rfl)
    have e44 : tm.getD 44 undef = undef := hk 44 (by kernel_rfl)
    have e45 : tm.getD 45 undef = undef := hk 45 (by kernel_rfl)
    have e46 : tm.getD 46 undef = undef := hk 46 (by kernel_rfl)
    have e47 : tm.getD 47 undef = .bool false := hk 47 (by kernel_rfl)
    have e48 : tm.getD 48 undef = .bool false := hk 48 (by kernel_rfl)
    have e49 : tm.getD 49 undef = undef := hk 49 (by kernel_rfl)
    have e50 : tm.getD 50 undef = undef := hk 50 (by kernel_rfl)
    have e51 : tm.getD 51 undef = undef := hk 51 (by kernel_rfl)
    have e52 : tm.getD 52 undef = undef := hk 52 (by kernel_rfl)
    have e53 : tm.getD 53 undef = undef := hk 53 (by kernel_rfl)
    have e54 : tm.getD 54 undef = undef := hk 54 (by kernel_rfl)
    have e55 : tm.getD 55 undef = undef := hk 55 (by kernel_rfl)
    have e56 : tm.getD 56 undef = undef := hk 56 (by kernel_rfl)
    have e57 : tm.getD 57 undef = undef := hk 57 (by kernel_rfl)
    have e58 : tm.getD 58 undef = undef := hk 58 (by kernel_rfl)
    have e59 : tm.getD 59 undef = undef := hk 59 (by kernel_rfl)
    have e60 : tm.getD 60 undef = undef := hk 60 (by kernel_rfl)
    have e61 : tm.getD 61 undef = undef := hk 61 (by kernel_rfl)
    have e62 : tm.getD 62 undef = undef := hk 62 (by kernel_rfl)
    have e63 : tm.getD 63 undef = .bool false := hk 63 (by kernel_rfl)
    have e64 : tm.getD 64 undef = .bool false := hk 64 (by kernel_rfl)
    have e65 : tm.getD 65 undef = undef := hk 65 (by kernel_rfl)
    have e66 : tm.getD 66 undef = undef := hk 66 (by kernel_rfl)
    have e67 : tm.getD 67 undef = undef := hk 67 (by kernel_rfl)
    have e68 : tm.getD 68 undef = undef := hk 68 (by kernel_rfl)
    have e69 : tm.getD 69 undef = undef := hk 69 (by kernel_rfl)
    have e70 : tm.getD 70 undef = undef := hk 70 (by kernel_rfl)
    have e71 : tm.getD 71 undef = undef := hk 71 (by kernel_rfl)
    have e72 : tm.getD 72 undef = undef := hk 72 (by kernel_rfl)
    have e73 : tm.getD 73 undef = undef := hk 73 (by kernel_rfl)
    have e74 : tm.getD 74 undef = undef := hk 74 (by kernel_rfl)
    have e75 : tm.getD 75 undef = undef := hk 75 (by kernel_rfl)
    have e76 : tm.getD 76 undef = undef := hk 76 (by kernel_rfl)
    have e77 : tm.getD 77 undef = undef := hk 77 (by kernel_rfl)
    have e78 : tm.getD 78 undef = undef := hk 78 (by kernel_rfl)
    have e79 : tm.getD 79 undef = undef := hk 79 (by kernel_rfl)
    have e80 : tm.getD 80 undef = undef := hk 80 (by kernel_rfl)
    have e81 : tm.getD 81 undef = undef := hk 81 (by kernel_rfl)
    have e82 : tm.getD 82 undef = undef := hk 82 (by kernel_rfl)
    have e83 : tm.getD 83 undef = undef := hk 83 (by kernel_rfl)
    have e84 : tm.getD 84 undef = undef := hk 84 (by kernel_rfl)
    have e85 : tm.getD 85 undef = undef := hk 85 (by kernel_rfl)
    have e86 : tm.getD 86 undef = undef := hk 86 (by kernel_rfl)
    have e87 : tm.getD 87 undef = undef := hk 87 (by kernel_rfl)
    have e88 : tm.getD 88 undef = undef := hk 88 (by kernel_rfl)
    have e89 : tm.getD 89 undef = undef := hk 89 (by kernel_rfl)
    have e90 : tm.getD 90 undef = undef := hk 90 (by kernel_rfl)
    have e91 : tm.getD 91 undef = undef := hk 91 (by kernel_rfl)
    have e92 : tm.getD 92 undef = .bool true := hk 92 (by kernel_rfl)
    have e93 : tm.getD 93 undef = .bool true := hk 93 (by kernel_rfl)
    have e112 : tm.getD 112 undef = undef := hk 112 (by kernel_rfl)
    have e113 : tm.getD 113 undef = undef := hk 113 (by kernel_rfl)
    have e114 : tm.getD 114 undef = undef := hk 114 (by kernel_rfl)
    have e115 : tm.getD 115 undef = undef := hk 115 (by kernel_rfl)
    have e116 : tm.getD 116 undef = undef := hk 116 (by kernel_rfl)
    have e117 : tm.getD 117 undef = undef := hk 117 (by kernel_rfl)
    have e118 : tm.getD 118 undef = undef := hk 118 (by kernel_rfl)
    have e119 : tm.getD 119 undef = undef := hk 119 (by kernel_rfl)
    have e120 : tm.getD 120 undef = undef := hk 120 (by kernel_rfl)
    have e121 : tm.getD 121 undef = undef := hk 121 (by kernel_rfl)
    have e122 : tm.getD 122 undef = undef := hk 122 (by kernel_rfl)
    have e123 : tm.getD 123 undef = undef := hk 123 (by kernel_rfl)
    have e124 : tm.getD 124 undef = undef := hk 124 (by kernel_rfl)
    have e125 : tm.getD 125 undef = undef := hk 125 (by kernel_rfl)
    have e126 : tm.getD 126 undef = undef := hk 126 (by kernel_rfl)
    have e127 : tm.getD 127 undef = undef := hk 127 (by kernel_rfl)
    have e128 : tm.getD 128 undef = undef := hk 128 (by kernel_rfl)
    have e129 : tm.getD 129 undef = undef := hk 129 (by kernel_rfl)
    have e130 : tm.getD 130 undef = undef := hk 130 (by kernel_rfl)
    have e131 : tm.getD 131 undef = undef := hk 131 (by kernel_rfl)
    have e132 : tm.getD 132 undef = undef := hk 132 (by kernel_rfl)
    have e133 : tm.getD 133 undef = undef := hk 133 (by kernel_rfl)
    have e134 : tm.getD 134 undef = undef := hk 134 (by kernel_rfl)
    have e135 : tm.getD 135 undef = undef := hk 135 (by kernel_rfl)
    have e136 : tm.getD 136 undef = undef := hk 136 (by kernel_rfl)
    have e137 : tm.getD 137 undef = undef := hk 137 (by kernel_rfl)
    have e138 : tm.getD 138 undef = undef := hk 138 (by kernel_rfl)
    have e139 : tm.getD 139 undef = undef := hk 139 (by kernel_rfl)
    have e140 : tm.getD 140 undef = undef := hk 140 (by kernel_rfl)
    have e141 : tm.getD 141 undef = undef := hk 141 (by kernel_rfl)
    have e142 : tm.getD 142 undef = undef := hk 142 (by kernel_rfl)
    have e143 : tm.getD 143 undef = undef := hk 143 (by kernel_rfl)
    have e144 : tm.getD 144 undef = undef := hk 144 (by kernel_rfl)
    have e145 : tm.getD 145 undef = undef := hk 145 (by kernel_rfl)
    have e146 : tm.getD 146 undef = undef := hk 146 (by kernel_rfl)
    have e147 : tm.getD 147 undef = undef := hk 147 (by kernel_rfl)
    have e148 : tm.getD 148 undef = undef := hk 148 (by kernel_rfl)
    have e149 : tm.getD 149 undef = undef := hk 149 (by kernel_rfl)
    have e150 : tm.getD 150 undef = undef := hk 150 (by kernel_rfl)
    have e151 : tm.getD 151 undef = undef := hk 151 (by kernel_rfl)
    have e152 : tm.getD 152 undef = undef := hk 152 (by kernel_rfl)
    have e153 : tm.getD 153 undef = undef := hk 153 (by kernel_rfl)
    have e154 : tm.getD 154 undef = undef := hk 154 (by kernel_rfl)
    have e155 : tm.getD 155 undef = undef := hk 155 (by kernel_rfl)
    have e156 : tm.getD 156 undef = undef := hk 156 (by kernel_rfl)
    have e157 : tm.getD 157 undef = undef := hk 157 (by kernel_rfl)
    have e158 : tm.getD 158 undef = undef := hk 158 (by kernel_rfl)
    have e159 : tm.getD 159 undef = undef := hk 159 (by kernel_rfl)
    have e160 : tm.getD 160 undef = undef := hk 160 (by kernel_rfl)
    have e161 : tm.getD 161 undef = undef := hk 161 (by kernel_rfl)
    have e162 : tm.getD 162 undef = undef := hk 162 (by kernel_rfl)
    have e163 : tm.getD 163 undef = undef := hk 163 (by kernel_rfl)
    have e164 : tm.getD 164 undef = undef := hk 164 (by kernel_rfl)
    have e165 : tm.getD 165 undef = undef := hk 165 (by kernel_rfl)
    have e166 : tm.getD 166 undef = undef := hk 166 (by kernel_rfl)
    have e167 : tm.getD 167 undef = undef := hk 167 (by kernel_rfl)
    have e168 : tm.getD 168 undef = undef := hk 168 (by kernel_rfl)
    have e169 : tm.getD 169 undef = undef := hk 169 (by kernel_rfl)
    have e170 : tm.getD 170 undef = undef := hk 170 (by kernel_rfl)
    have e171 : tm.getD 171 undef = undef := hk 171 (by kernel_rfl)
    have e172 : tm.getD 172 undef = undef := hk 172 (by kernel_rfl)
    have g94 : (tm.getD 94 undef) = .pointer (some ⟨tb, 0, none⟩) := hG 0 94 (by decide) rfl
    have g95 : (tm.getD 95 undef) = .pointer (some ⟨tb, 0, none⟩) := hG 1 95 (by decide) rfl
    have g96 : (tm.getD 96 undef) = .pointer (some ⟨w.heap.size, 1, none⟩) := hG 2 96 (by decide) rfl
    have g97 : (tm.getD 97 undef) = .int .i64 zi := hG 3 97 (by decide) rfl
    have g98 : (tm.getD 98 undef) = .pointer (some ⟨w.heap.size, 2, none⟩) := hG 4 98 (by decide) rfl
    have g99 : (tm.getD 99 undef) = .int .i64 zid := hG 5 99 (by decide) rfl
    have g100 : (tm.getD 100 undef) = .pointer (some ⟨w.heap.size, 4, none⟩) := hG 6 100 (by decide) rfl
    have g101 : (tm.getD 101 undef) = .int .i64 zn := hG 7 101 (by decide) rfl
    have g102 : (tm.getD 102 undef) = .int .i64 (shiftS S zi zid zn) := hG 8 102 (by decide) rfl
    have g103 : (tm.getD 103 undef) = .pointer (some ⟨rb, 0, none⟩) := hG 9 103 (by decide) rfl
    have g104 : (tm.getD 104 undef) = .pointer (some ⟨w.heap.size, 1, none⟩) := hG 10 104 (by decide) rfl
    have g105 : (tm.getD 105 undef) = .int .i64 zi := hG 11 105 (by decide) rfl
    have g106 : (tm.getD 106 undef) = .pointer (some ⟨w.heap.size, 2, none⟩) := hG 12 106 (by decide) rfl
    have g107 : (tm.getD 107 undef) = .int .i64 zid := hG 13 107 (by decide) rfl
    have g108 : (tm.getD 108 undef) = .pointer (some ⟨w.heap.size, 4, none⟩) := hG 14 108 (by decide) rfl
    have g109 : (tm.getD 109 undef) = .int .i64 zn := hG 15 109 (by decide) rfl
    have g110 : (tm.getD 110 undef) = .int .i64 (shiftS S zi zid zn) := hG 16 110 (by decide) rfl
    have g111 : (tm.getD 111 undef) = .bool true := hG 17 111 (by decide) rfl
    have g6 : (tm.getD 6 undef) = .pointer (some ⟨tb, 0, none⟩) := hG 18 6 (by decide) rfl
    have g7 : (tm.getD 7 undef) = .bool true := hG 19 7 (by decide) rfl
    have htm := arr_of tm ((.pointer (some ⟨tb, 0, none⟩) : Value) :: (.pointer (some ⟨rb, 0, none⟩) : Value) :: (.agg #[.int .i64 4, .int .i64 zi, .int .i64 zid, .int .i64 zw, .int .i64 zn, .int .i64 zd, .slice zp xs.length cc] : Value) :: (undef : Value) :: (undef : Value) :: (.pointer (some ⟨w.heap.size, 0, none⟩) : Value) :: (tm.getD 6 undef : Value) :: (tm.getD 7 undef : Value) :: (undef : Value) :: (undef : Value) :: (undef : Value) :: (undef : Value) :: (undef : Value) :: (undef : Value) :: (undef : Value) :: (undef : Value) :: (undef : Value) :: (.pointer (some ⟨w.heap.size, 0, none⟩) : Value) :: (.int .i64 4 : Value) :: (.bool false : Value) :: (.bool false : Value) :: (undef : Value) :: (undef : Value) :: (undef : Value) :: (undef : Value) :: (undef : Value) :: (undef : Value) :: (undef : Value) :: (undef : Value) :: (undef : Value) :: (undef : Value) :: (undef : Value) :: (undef : Value) :: (undef : Value) :: (undef : Value) :: (undef : Value) :: (undef : Value) :: (undef : Value) :: (undef : Value) :: (undef : Value) :: (undef : Value) :: (undef : Value) :: (undef : Value) :: (undef : Value) :: (undef : Value) :: (undef : Value) :: (undef : Value) :: (.bool false : Value) :: (.bool false : Value) :: (undef : Value) :: (undef : Value) :: (undef : Value) :: (undef : Value) :: (undef : Value) :: (undef : Value) :: (undef : Value) :: (undef : Value) :: (undef : Value) :: (undef : Value) :: (undef : Value) :: (undef : Value) :: (undef : Value) :: (undef : Value) :: (.bool false : Value) :: (.bool false : Value) :: (undef : Value) :: (undef : Value) :: (undef : Value) :: (undef : Value) :: (undef : Value) :: (undef : Value) :: (undef : Value) :: (undef : Value) :: (undef : Value) :: (undef : Value) :: (undef : Value) :: (undef : Value) :: (undef : Value) :: (undef : Value) :: (undef : Value) :: (undef : Value) :: (undef : Value) :: (undef : Value) :: (undef : Value) :: (undef : Value) :: (undef : Value) :: (undef : Value) :: (undef : Value) :: (undef : Value) :: (undef : Value) :: (undef : Value) :: (undef : Value) :: (.bool true : Value) :: (.bool true : Value) :: (tm.getD 94 undef : Value) :: (tm.getD 95 undef : Value) :: (tm.getD 96 undef : Value) :: (tm.getD 97 undef : Value) :: (tm.getD 98 undef : Value) :: (tm.getD 99 undef : Value) :: (tm.getD 100 undef : Value) :: (tm.getD 101 undef : Value) :: (tm.getD 102 undef : Value) :: (tm.getD 103 undef : Value) :: (tm.getD 104 undef : Value) :: (tm.getD 105 undef : Value) :: (tm.getD 106 undef : Value) :: (tm.getD 107 undef : Value) :: (tm.getD 108 undef : Value) :: (tm.getD 109 undef : Value) :: (tm.getD 110 undef : Value) :: (tm.getD 111 undef : Value) :: (undef : Value) :: (undef : Value) :: (undef : Value) :: (undef : Value) :: (undef : Value) :: (undef : Value) :: (undef : Value) :: (undef : Value) :: (undef : Value) :: (undef : Value) :: (undef : Value) :: (undef : Value) :: (undef : Value) :: (undef : Value) :: (undef : Value) :: (undef : Value) :: (undef : Value) :: (undef : Value) :: (undef : Value) :: (undef : Value) :: (undef : Value) :: (undef : Value) :: (undef : Value) :: (undef : Value) :: (undef : Value) :: (undef : Value) :: (undef : Value) :: (undef : Value) :: (undef : Value) :: (undef : Value) :: (undef : Value) :: (undef : Value) :: (undef : Value) :: (undef : Value) :: (undef : Value) :: (undef : Value) :: (undef : Value) :: (undef : Value) :: (undef : Value) :: (undef : Value) :: (undef : Value) :: (undef : Value) :: (undef : Value) :: (undef : Value) :: (undef : Value) :: (undef : Value) :: (undef : Value) :: (undef : Value) :: (undef : Value) :: (undef : Value) :: (undef : Value) :: (undef : Value) :: (undef : Value) :: (undef : Value) :: (undef : Value) :: (undef : Value) :: (undef : Value) :: (undef : Value) :: (undef : Value) :: (undef : Value) :: (undef : Value) :: []) hs (by show (tm.getD 0 undef :: tm.getD 1 undef :: tm.getD 2 undef :: tm.getD 3 undef :: tm.getD 4 undef :: tm.getD 5 undef :: tm.getD 6 undef :: tm.getD 7 undef :: tm.getD 8 undef :: tm.getD 9 undef :: tm.getD 10 undef :: tm.getD 11 undef :: tm.getD 12 undef :: tm.getD 13 undef :: tm.getD 14 undef :: tm.getD 15 undef :: tm.getD 16 undef :: tm.getD 17 undef :: tm.getD 18 undef :: tm.getD 19 undef :: tm.getD 20 undef :: tm.getD 21 undef :: tm.getD 22 undef :: tm.getD 23 undef :: tm.getD 24 undef :: tm.getD 25 undef :: tm.getD 26 undef :: tm.getD 27 undef :: tm.getD 28 undef :: tm.getD 29 undef :: tm.getD 30 undef :: tm.getD 31 undef :: tm.getD 32 undef :: tm.getD 33 undef :: tm.getD 34 undef :: tm.getD 35 undef :: tm.getD 36 undef :: tm.getD 37 undef :: tm.getD 38 undef :: tm.getD 39 undef :: tm.getD 40 undef :: tm.getD 41 undef :: tm.getD 42 undef :: tm.getD 43 undef :: tm.getD 44 undef :: tm.getD 45 undef :: tm.getD 46 undef :: tm.getD 47 undef :: tm.getD 48 undef :: tm.getD 49 undef :: tm.getD 50 undef :: tm.getD 51 undef :: tm.getD 52 undef :: tm.getD 53 undef :: tm.getD 54 undef :: tm.getD 55 undef :: tm.getD 56 undef :: tm.getD 57 undef :: tm.getD 58 undef :: tm.getD 59 undef :: tm.getD 60 undef :: tm.getD 61 undef :: tm.getD 62 undef :: tm.getD 63 undef :: tm.getD 64 undef :: tm.getD 65 undef :: tm.getD 66 undef :: tm.getD 67 undef :: tm.getD 68 undef :: tm.getD 69 undef :: tm.getD 70 undef :: tm.getD 71 undef :: tm.getD 72 undef :: tm.getD 73 undef :: tm.getD 74 undef :: tm.getD 75 undef :: tm.getD 76 undef :: tm.getD 77 undef :: tm.getD 78 undef :: tm.getD 79 undef :: tm.getD 80 undef :: tm.getD 81 undef :: tm.getD 82 undef :: tm.getD 83 undef :: tm.getD 84 undef :: tm.getD 85 undef :: tm.getD 86 undef :: tm.getD 87 undef :: tm.getD 88 undef :: tm.getD 89 undef :: tm.getD 90 undef :: tm.getD 91 undef :: tm.getD 92 undef :: tm.getD 93 undef :: tm.getD 94 undef :: tm.getD 95 undef :: tm.getD 96 undef :: tm.getD 97 undef :: tm.getD 98 undef :: tm.getD 99 undef :: tm.getD 100 undef :: tm.getD 101 undef :: tm.getD 102 undef :: tm.getD 103 undef :: tm.getD 104 undef :: tm.getD 105 undef :: tm.getD 106 undef :: tm.getD 107 undef :: tm.getD 108 undef :: tm.getD 109 undef :: tm.getD 110 undef :: tm.getD 111 undef :: tm.getD 112 undef :: tm.getD 113 undef :: tm.getD 114 undef :: tm.getD 115 undef :: tm.getD 116 undef :: tm.getD 117 undef :: tm.getD 118 undef :: tm.getD 119 undef :: tm.getD 120 undef :: tm.getD 121 undef :: tm.getD 122 undef :: tm.getD 123 undef :: tm.getD 124 undef :: tm.getD 125 undef :: tm.getD 126 undef :: tm.getD 127 undef :: tm.getD 128 undef :: tm.getD 129 undef :: tm.getD 130 undef :: tm.getD 131 undef :: tm.getD 132 undef :: tm.getD 133 undef :: tm.getD 134 undef :: tm.getD 135 undef :: tm.getD 136 undef :: tm.getD 137 undef :: tm.getD 138 undef :: tm.getD 139 undef :: tm.getD 140 undef :: tm.getD 141 undef :: tm.getD 142 undef :: tm.getD 143 undef :: tm.getD 144 undef :: tm.getD 145 undef :: tm.getD 146 undef :: tm.getD 147 undef :: tm.getD 148 undef :: tm.getD 149 undef :: tm.getD 150 undef :: tm.getD 151 undef :: tm.getD 152 undef :: tm.getD 153 undef :: tm.getD 154 undef :: tm.getD 155 undef :: tm.getD 156 undef :: tm.getD 157 undef :: tm.getD 158 undef :: tm.getD 159 undef :: tm.getD 160 undef :: tm.getD 161 undef :: tm.getD 162 undef :: tm.getD 163 undef :: tm.getD 164 undef :: tm.getD 165 undef :: tm.getD 166 undef :: tm.getD 167 undef :: tm.getD 168 undef :: tm.getD 169 undef :: tm.getD 170 undef :: tm.getD 171 undef :: tm.getD 172 undef :: []) = _; rw [e0, e1, e2, e3, e4, e5, e8, e9, e10, e11, e12, e13, e14, e15, e16, e17, e18, e19, e20, e21, e22, e23, e24, e25, e26, e27, e28, e29, e30, e31, e32, e33, e34, e35, e36, e37, e38, e39, e40, e41, e42, e43, e44, e45, e46, e47, e48, e49, e50, e51, e52, e53, e54, e55, e56, e57, e58, e59, e60, e61, e62, e63, e64, e65, e66, e67, e68, e69, e70, e71, e72, e73, e74, e75, e76, e77, e78, e79, e80, e81, e82, e83, e84, e85, e86, e87, e88, e89, e90, e91, e92, e93, e112, e113, e114, e115, e116, e117, e118, e119, e120, e121, e122, e123, e124, e125, e126, e127, e128, e129, e130, e131, e132, e133, e134, e135, e136, e137, e138, e139, e140, e141, e142, e143, e144, e145, e146, e147, e148, e149, e150, e151, e152, e153, e154, e155, e156, e157, e158, e159, e160, e161, e162, e163, e164, e165, e166, e167, e168, e169, e170, e171, e172]; try rfl)
    clear hs hk hG e0 e1 e2 e3 e4 e5 e8 e9 e10 e11 e12 e13 e14 e15 e16 e17 e18 e19 e20 e21 e22 e23 e24 e25 e26 e27 e28 e29 e30 e31 e32 e33 e34 e35 e36 e37 e38 e39 e40 e41 e42 e43 e44 e45 e46 e47 e48 e49 e50 e51 e52 e53 e54 e55 e56 e57 e58 e59 e60 e61 e62 e63 e64 e65 e66 e67 e68 e69 e70 e71 e72 e73 e74 e75 e76 e77 e78 e79 e80 e81 e82 e83 e84 e85 e86 e87 e88 e89 e90 e91 e92 e93 e112 e113 e114 e115 e116 e117 e118 e119 e120 e121 e122 e123 e124 e125 e126 e127 e128 e129 e130 e131 e132 e133 e134 e135 e136 e137 e138 e139 e140 e141 e142 e143 e144 e145 e146 e147 e148 e149 e150 e151 e152 e153 e154 e155 e156 e157 e158 e159 e160 e161 e162 e163 e164 e165 e166 e167 e168 e169 e170 e171 e172
    generalize tm.getD 94 undef = t94 at htm g94
    generalize tm.getD 95 undef = t95 at htm g95
    generalize tm.getD 96 undef = t96 at htm g96
    generalize tm.getD 97 undef = t97 at htm g97
    generalize tm.getD 98 undef = t98 at htm g98
    generalize tm.getD 99 undef = t99 at htm g99
    generalize tm.getD 100 undef = t100 at htm g100
    generalize tm.getD 101 undef = t101 at htm g101
    generalize tm.getD 102 undef = t102 at htm g102
    generalize tm.getD 103 undef = t103 at htm g103
    generalize tm.getD 104 undef = t104 at htm g104
    generalize tm.getD 105 undef = t105 at htm g105
    generalize tm.getD 106 undef = t106 at htm g106
    generalize tm.getD 107 undef = t107 at htm g107
    generalize tm.getD 108 undef = t108 at htm g108
    generalize tm.getD 109 undef = t109 at htm g109
    generalize tm.getD 110 undef = t110 at htm g110
    generalize tm.getD 111 undef = t111 at htm g111
    generalize tm.getD 6 undef = t6 at htm g6
    generalize tm.getD 7 undef = t7 at htm g7
    subst htm
    subst g94
    subst g95
    subst g96
    subst g97
    subst g98
    subst g99
    subst g100
    subst g101
    subst g102
    subst g103
    subst g104
    subst g105
    subst g106
    subst g107
    subst g108
    subst g109
    subst g110
    subst g111
    subst g6
    subst g7
    have HJ2 := Lib.hid hJ
    clear hJ hB
    go_wp2_with fail
    go_ret2
    obtain ⟨⟨F', g', cap', cs', L', hb⟩, hw⟩ := HJ2.out
    exact ⟨rfl, ⟨F', _, g', cap', cs', L', hb⟩, (HB1.out.mono HH.out.bw).trans hw⟩
end Go.Proofs.Ytebcnlhgkpaghaa
/- A step of the law: relab. -/
namespace Go.Proofs.Ytebcnlhgkpaghaa
open Go.RowKit Go.Sort
set_option maxRecDepth 100000 in
set_option maxHeartbeats 8000000 in
theorem stepH_relab {w : World} {b0 tb rb : Nat} {root : Int} {base mb : Nat} {F : Nat → Prop} {S : Abs} {g cap : Nat} {cs : Array Value} {L : List Th} (h : Bo w b0 tb rb root base mb F S g cap cs L) (zi zid zw zn zd : Int) (zp : Option Addr) (cc : Nat) (xs : List (Int × Int)) (hm : xs.length ≤ maxLen) (hc : CatsAt w zp xs) (hp : 0 < xs.length → ∀ a, zp = some a → a.block < b0) (_ii : i64 zi) (iid : i64 zid) :
    Calls Try.prog 7 #[.pointer (some ⟨tb, 0, none⟩), .pointer (some ⟨rb, 0, none⟩), .agg #[.int .i64 5, .int .i64 zi, .int .i64 zid, .int .i64 zw, .int .i64 zn, .int .i64 zd, .slice zp xs.length cc]] w fun e w' => e = .returned (.tuple #[.pointer (some ⟨tb, 0, none⟩), .bool true]) ∧ (∃ F' S' g' cap' cs' L', Bo w' b0 tb rb root base mb F' S' g' cap' cs' L') ∧ Below b0 w w' := by
  have HH := Lib.hid h
  obtain ⟨W1, hW1⟩ : ∃ W1, w.alloc (.cells #[.int .i64 5, .int .i64 zi, .int .i64 zid, .int .i64 zw, .int .i64 zn, .int .i64 zd, .slice zp xs.length cc] 32) = W1 := ⟨_, rfl⟩
  have b1 : Below w.heap.size w W1 := by rw [← hW1]; exact (Below.refl _ _).alloc (Nat.le_refl _) _
  have hz : w.heap.size < W1.heap.size := by rw [← hW1]; simp
  have hbW : b0 ≤ W1.heap.size := Nat.le_trans h.bw b1.size
  have hO : W1.heap[w.heap.size]? = some (.cells #[.int .i64 5, .int .i64 zi, .int .i64 zid, .int .i64 zw, .int .i64 zn, .int .i64 zd, .slice zp xs.length cc] 32 (0, 0)) := by rw [← hW1]; exact heap_new _ _
  have d0 : W1.cell? ⟨w.heap.size, 0, none⟩ = some (.int .i64 5) := by simp [World.cell?, hO]
  have cW : ∀ X, OpS w.heap.size W1 X → X.cell? ⟨w.heap.size, 1, none⟩ = some (.int .i64 zi) ∧ X.cell? ⟨w.heap.size, 2, none⟩ = some (.int .i64 zid) ∧ X.cell? ⟨w.heap.size, 3, none⟩ = some (.int .i64 zw) ∧ X.cell? ⟨w.heap.size, 4, none⟩ = some (.int .i64 zn) ∧ X.cell? ⟨w.heap.size, 5, none⟩ = some (.int .i64 zd) ∧ X.cell? ⟨w.heap.size, 6, none⟩ = some (.slice zp xs.length cc) := fun X hX => ⟨op_cells hO hX rfl, op_cells hO hX rfl, op_cells hO hX rfl, op_cells hO hX rfl, op_cells hO hX rfl, op_cells hO hX rfl⟩
  have HB1 := Lib.hid b1
  have HC := Lib.hid hc
  have HPB := Lib.hid hp
  have hcX : Hid (∀ X, HJ W1 b0 tb rb root base mb (relabT S zid zd xs) g cap cs L 0 X → CatsAt X zp xs) := fun X hX => (hc.below b1).below hX
  have hcY : Hid (∀ X, Below b0 W1 X → CatsAt X zp xs ∧ ∀ F' : Nat → Prop, (∀ k, F' k → base ≤ k) → Off (fun b => b = rb ∨ b = g ∨ F' b) zp xs.length) := fun X hX => by
    have hk : ∀ k, k < W1.heap.size → ¬ b0 ≤ k → X.heap[k]? = W1.heap[k]? := fun k _ h2 => hX.block k (by omega)
    refine ⟨cats_keep (P := fun k => b0 ≤ k) (hc.below b1) (fun hn a ha e => by have := hp hn a ha; omega) hk hX.size, fun F' hF hn a ha hx => ?_⟩
    have := hp hn a ha
    rcases hx with e | e | e
    · have := h.b2; omega
    · have := h.b3; omega
    · have := hF _ e; have := h.b1; omega
  clear h hO b1 hc hp
  go_enter Try.func7, Try.ntmps7
  go_upto_region 13 with fail
  refine wp_region_phT 6 6 12 (OpS w.heap.size) (HJ W1 b0 tb rb root base mb (relabT S zid zd xs) g cap cs L) (fun kq v X => match kq with | 114 => v = .pointer (some ⟨tb, 0, none⟩) | 115 => v = .pointer (some ⟨tb, 0, none⟩) | 116 => v = .pointer (some ⟨w.heap.size, 2, none⟩) | 117 => v = .int .i64 zid | 118 => v = .pointer (some ⟨w.heap.size, 5, none⟩) | 119 => v = .agg #[.int .i64 zd, .slice zp xs.length cc] | 120 => v = .int .i64 (relabS S zid zd xs) | 121 => v = .pointer (some ⟨rb, 0, none⟩) | 122 => v = .pointer (some ⟨w.heap.size, 2, none⟩) | 123 => v = .int .i64 zid | 124 => v = .pointer (some ⟨w.heap.size, 5, none⟩) | 125 => v = .agg #[.int .i64 zd, .slice zp xs.length cc] | 126 => v = .int .i64 (relabS S zid zd xs) | 127 => v = .bool true | 6 => v = .pointer (some ⟨tb, 0, none⟩) | 7 => v = .bool true | _ => True) (by kernel_rfl) (by kernel_rfl) (by kernel_rfl) (by kernel_rfl) (by decide) (by decide) (fun _ _ h => OpS.of_below h) (fun _ _ _ h k => OpS.trans h k) (fun _ _ _ h hb => HJ.below h hbW hb) ((Below.refl _ _).drew) ?_ ?_ ?_
  · intro kq v W W' h hb
    revert h
    try dsimp only
    split
    · intro h; exact h
    · intro h; exact h
    · intro h; exact h
    · intro h; exact h
    · intro h; exact h
    · intro h; exact h
    · intro h; exact h
    · intro h; exact h
    · intro h; exact h
    · intro h; exact h
    · intro h; exact h
    · intro h; exact h
    · intro h; exact h
    · intro h; exact h
    · intro h; exact h
    · intro h; exact h
    · intro h; trivial
  · intro a' X p hJ hB hs hk i o d ho hd hp1 hp2 hG
    match i, ho with
    | 0, ho =>
      obtain rfl : _ = o := Option.some.inj ho
      obtain rfl : 114 = d := Option.some.inj hd
      have g0 : a'.eval (.tmp 0) = .pointer (some ⟨tb, 0, none⟩) := hk 0 (by kernel_rfl)
      refine ⟨rfl, .inl ⟨.pointer (some ⟨tb, 0, none⟩), X, ?_, ⟨Below.refl _ _, by decide, by decide⟩, rfl⟩⟩
      obtain ⟨ev, hev⟩ : ∃ ev, a'.eval = ev := ⟨_, rfl⟩
      rw [hev] at g0 ⊢
      clear hev hG hk hs
      obtain ⟨c1, c2, c3, c4, c5, c6⟩ := cW X hB
      go_simp
    | 1, ho =>
      obtain rfl : _ = o := Option.some.inj ho
      obtain rfl : 115 = d := Option.some.inj hd
      have g0 : a'.eval (.tmp 0) = .pointer (some ⟨tb, 0, none⟩) := hk 0 (by kernel_rfl)
      refine ⟨rfl, .inl ⟨.pointer (some ⟨tb, 0, none⟩), X, ?_, ⟨Below.refl _ _, by decide, by decide⟩, rfl⟩⟩
      obtain ⟨ev, hev⟩ : ∃ ev, a'.eval = ev := ⟨_, rfl⟩
      rw [hev] at g0 ⊢
      clear hev hG hk hs
      obtain ⟨c1, c2, c3, c4, c5, c6⟩ := cW X hB
      go_simp
    | 2, ho =>
      obtain rfl : _ = o := Option.some.inj ho
      obtain rfl : 116 = d := Option.some.inj hd
      have g5 : a'.eval (.tmp 5) = .pointer (some ⟨w.heap.size, 0, none⟩) := hk 5 (by kernel_rfl)
      refine ⟨rfl, .inl ⟨.pointer (some ⟨w.heap.size, 2, none⟩), X, ?_, ⟨Below.refl _ _, by decide, by decide⟩, rfl⟩⟩
      obtain ⟨ev, hev⟩ : ∃ ev, a'.eval = ev := ⟨_, rfl⟩
      rw [hev] at g5 ⊢
      clear hev hG hk hs
      obtain ⟨c1, c2, c3, c4, c5, c6⟩ := cW X hB
      go_simp
    | 3, ho =>
      obtain rfl : _ = o := Option.some.inj ho
      obtain rfl : 117 = d := Option.some.inj hd
      have g116 : a'.eval (.tmp 116) = .pointer (some ⟨w.heap.size, 2, none⟩) := hG ⟨2, .data⟩ (by simp) rfl 116 rfl
      refine ⟨rfl, .inl ⟨.int .i64 zid, X, ?_, ⟨Below.refl _ _, by decide, by decide⟩, rfl⟩⟩
      obtain ⟨ev, hev⟩ : ∃ ev, a'.eval = ev := ⟨_, rfl⟩
      rw [hev] at g116 ⊢
      clear hev hG hk hs
      obtain ⟨c1, c2, c3, c4, c5, c6⟩ := cW X hB
      go_simp
    | 4, ho =>
      obtain rfl : _ = o := Option.some.inj ho
      obtain rfl : 118 = d := Option.some.inj hd
      have g5 : a'.eval (.tmp 5) = .pointer (some ⟨w.heap.size, 0, none⟩) := hk 5 (by kernel_rfl)
      refine ⟨rfl, .inl ⟨.pointer (some ⟨w.heap.size, 5, none⟩), X, ?_, ⟨Below.refl _ _, by decide, by decide⟩, rfl⟩⟩
      obtain ⟨ev, hev⟩ : ∃ ev, a'.eval = ev := ⟨_, rfl⟩
      rw [hev] at g5 ⊢
      clear hev hG hk hs
      obtain ⟨c1, c2, c3, c4, c5, c6⟩ := cW X hB
      go_simp
    | 5, ho =>
      obtain rfl : _ = o := Option.some.inj ho
      obtain rfl : 119 = d := Option.some.inj hd
      have g118 : a'.eval (.tmp 118) = .pointer (some ⟨w.heap.size, 5, none⟩) := hG ⟨4, .data⟩ (by simp) rfl 118 rfl
      refine ⟨rfl, .inl ⟨.agg #[.int .i64 zd, .slice zp xs.length cc], X, ?_, ⟨Below.refl _ _, by decide, by decide⟩, rfl⟩⟩
      obtain ⟨ev, hev⟩ : ∃ ev, a'.eval = ev := ⟨_, rfl⟩
      rw [hev] at g118 ⊢
      clear hev hG hk hs
      obtain ⟨c1, c2, c3, c4, c5, c6⟩ := cW X hB
      go_simp
    | 6, ho =>
      obtain rfl : _ = o := Option.some.inj ho
      obtain rfl : 120 = d := Option.some.inj hd
      have g115 : a'.eval (.tmp 115) = .pointer (some ⟨tb, 0, none⟩) := hG ⟨1, .data⟩ (by simp) rfl 115 rfl
      have g117 : a'.eval (.tmp 117) = .int .i64 zid := hG ⟨3, .data⟩ (by simp) rfl 117 rfl
      have g119 : a'.eval (.tmp 119) = .agg #[.int .i64 zd, .slice zp xs.length cc] := hG ⟨5, .data⟩ (by simp) rfl 119 rfl
      obtain rfl := hp1 rfl
      refine ⟨rfl, .inr ⟨25, #[.pointer (some ⟨tb, 0, none⟩), .int .i64 zid, .agg #[.int .i64 zd, .slice zp xs.length cc]], ?_, ?_⟩⟩
      · have gF : a'.eval (.func 25) = .func (.func 25) #[] #[] := rfl
        obtain ⟨ev, hev⟩ : ∃ ev, a'.eval = ev := ⟨_, rfl⟩
        rw [hev] at gF g115 g117 g119 ⊢
        exact exec_call3 rfl gF g115 g117 g119 (enters_of Try.func25 (by kernel_rfl) rfl)
      exact (relab_x (HJ.bo HH.out HB1.out hJ).hx zid zd zp cc xs hm (hcX.out X hJ) iid).mono fun e W' ⟨he, hd'⟩ => ⟨_, he, .inr ⟨(HJ.one HH.out HB1.out hz hJ hd').1, (HJ.one HH.out HB1.out hz hJ hd').2, .inl rfl⟩, rfl⟩
    | 7, ho =>
      obtain rfl : _ = o := Option.some.inj ho
      obtain rfl : 121 = d := Option.some.inj hd
      have g1 : a'.eval (.tmp 1) = .pointer (some ⟨rb, 0, none⟩) := hk 1 (by kernel_rfl)
      refine ⟨rfl, .inl ⟨.pointer (some ⟨rb, 0, none⟩), X, ?_, ⟨Below.refl _ _, by decide, by decide⟩, rfl⟩⟩
      obtain ⟨ev, hev⟩ : ∃ ev, a'.eval = ev := ⟨_, rfl⟩
      rw [hev] at g1 ⊢
      clear hev hG hk hs
      obtain ⟨c1, c2, c3, c4, c5, c6⟩ := cW X hB
      go_simp
    | 8, ho =>
      obtain rfl : _ = o := Option.some.inj ho
      obtain rfl : 122 = d := Option.some.inj hd
      have g5 : a'.eval (.tmp 5) = .pointer (some ⟨w.heap.size, 0, none⟩) := hk 5 (by kernel_rfl)
      refine ⟨rfl, .inl ⟨.pointer (some ⟨w.heap.size, 2, none⟩), X, ?_, ⟨Below.refl _ _, by decide, by decide⟩, rfl⟩⟩
      obtain ⟨ev, hev⟩ : ∃ ev, a'.eval = ev := ⟨_, rfl⟩
      rw [hev] at g5 ⊢
      clear hev hG hk hs
      obtain ⟨c1, c2, c3, c4, c5, c6⟩ := cW X hB
      go_simp
    | 9, ho =>
      obtain rfl : _ = o := Option.some.inj ho
      obtain rfl : 123 = d := Option.some.inj hd
      have g122 : a'.eval (.tmp 122) = .pointer (some ⟨w.heap.size, 2, none⟩) := hG ⟨8, .data⟩ (by simp) rfl 122 rfl
      refine ⟨rfl, .inl ⟨.int .i64 zid, X, ?_, ⟨Below.refl _ _, by decide, by decide⟩, rfl⟩⟩
      obtain ⟨ev, hev⟩ : ∃ ev, a'.eval = ev := ⟨_, rfl⟩
      rw [hev] at g122 ⊢
      clear hev hG hk hs
      obtain ⟨c1, c2, c3, c4, c5, c6⟩ := cW X hB
      go_simp
    | 10, ho =>
      obtain rfl : _ = o := Option.some.inj ho
      obtain rfl : 124 = d := Option.some.inj hd
      have g5 : a'.eval (.tmp 5) = .pointer (some ⟨w.heap.size, 0, none⟩) := hk 5 (by kernel_rfl)
      refine ⟨rfl, .inl ⟨.pointer (some ⟨w.heap.size, 5, none⟩), X, ?_, ⟨Below.refl _ _, by decide, by decide⟩, rfl⟩⟩
      obtain ⟨ev, hev⟩ : ∃ ev, a'.eval = ev := ⟨_, rfl⟩
      rw [hev] at g5 ⊢
      clear hev hG hk hs
      obtain ⟨c1, c2, c3, c4, c5, c6⟩ := cW X hB
      go_simp
    | 11, ho =>
      obtain rfl : _ = o := Option.some.inj ho
      obtain rfl : 125 = d := Option.some.inj hd
      have g124 : a'.eval (.tmp 124) = .pointer (some ⟨w.heap.size, 5, none⟩) := hG ⟨10, .data⟩ (by simp) rfl 124 rfl
      refine ⟨rfl, .inl ⟨.agg #[.int .i64 zd, .slice zp xs.length cc], X, ?_, ⟨Below.refl _ _, by decide, by decide⟩, rfl⟩⟩
      obtain ⟨ev, hev⟩ : ∃ ev, a'.eval = ev := ⟨_, rfl⟩
      rw [hev] at g124 ⊢
      clear hev hG hk hs
      obtain ⟨c1, c2, c3, c4, c5, c6⟩ := cW X hB
      go_simp
    | 12, ho =>
      obtain rfl : _ = o := Option.some.inj ho
      obtain rfl : 126 = d := Option.some.inj hd
      have g121 : a'.eval (.tmp 121) = .pointer (some ⟨rb, 0, none⟩) := hG ⟨7, .data⟩ (by simp) rfl 121 rfl
      have g123 : a'.eval (.tmp 123) = .int .i64 zid := hG ⟨9, .data⟩ (by simp) rfl 123 rfl
      have g125 : a'.eval (.tmp 125) = .agg #[.int .i64 zd, .slice zp xs.length cc] := hG ⟨11, .data⟩ (by simp) rfl 125 rfl
      obtain rfl := hp2 rfl
      refine ⟨rfl, .inr ⟨26, #[.pointer (some ⟨rb, 0, none⟩), .int .i64 zid, .agg #[.int .i64 zd, .slice zp xs.length cc]], ?_, ?_⟩⟩
      · have gF : a'.eval (.func 26) = .func (.func 26) #[] #[] := rfl
        obtain ⟨ev, hev⟩ : ∃ ev, a'.eval = ev := ⟨_, rfl⟩
        rw [hev] at gF g121 g123 g125 ⊢
        exact exec_call3 rfl gF g121 g123 g125 (enters_of Try.func26 (by kernel_rfl) rfl)
      obtain ⟨⟨F1, x1, x2, x3⟩, x4⟩ := _root_.id hJ
      obtain ⟨K, hinv⟩ := HH.out.inv
      exact (rRelab_any x2 HH.out.rel zid zd zp cc xs hm (hcY.out X x4).1 ((hcY.out X x4).2 F1 x3)).mono fun e W' ⟨he, hd'⟩ => ⟨_, he, .inr ⟨(HJ.two HH.out hJ hbW x1 x2 hd').1, (HJ.two HH.out hJ hbW x1 x2 hd').2, .inr rfl⟩, rfl⟩
    | 13, ho =>
      obtain rfl : _ = o := Option.some.inj ho
      obtain rfl : 127 = d := Option.some.inj hd
      have g120 : a'.eval (.tmp 120) = .int .i64 (relabS S zid zd xs) := hG ⟨6, .data⟩ (by simp) rfl 120 rfl
      have g126 : a'.eval (.tmp 126) = .int .i64 (relabS S zid zd xs) := hG ⟨12, .data⟩ (by simp) rfl 126 rfl
      refine ⟨rfl, .inl ⟨.bool true, X, ?_, ⟨Below.refl _ _, by decide, by decide⟩, rfl⟩⟩
      obtain ⟨ev, hev⟩ : ∃ ev, a'.eval = ev := ⟨_, rfl⟩
      rw [hev] at g120 g126 ⊢
      clear hev hG hk hs
      obtain ⟨c1, c2, c3, c4, c5, c6⟩ := cW X hB
      go_simp
    | 14, ho =>
      obtain rfl : _ = o := Option.some.inj ho
      obtain rfl : 6 = d := Option.some.inj hd
      have g114 : a'.eval (.tmp 114) = .pointer (some ⟨tb, 0, none⟩) := hG ⟨0, .data⟩ (by simp) rfl 114 rfl
      refine ⟨rfl, .inl ⟨.pointer (some ⟨tb, 0, none⟩), X, ?_, ⟨Below.refl _ _, by decide, by decide⟩, rfl⟩⟩
      obtain ⟨ev, hev⟩ : ∃ ev, a'.eval = ev := ⟨_, rfl⟩
      rw [hev] at g114 ⊢
      clear hev hG hk hs
      obtain ⟨c1, c2, c3, c4, c5, c6⟩ := cW X hB
      go_simp
    | 15, ho =>
      obtain rfl : _ = o := Option.some.inj ho
      obtain rfl : 7 = d := Option.some.inj hd
      have g127 : a'.eval (.tmp 127) = .bool true := hG ⟨13, .data⟩ (by simp) rfl 127 rfl
      refine ⟨rfl, .inl ⟨.bool true, X, ?_, ⟨Below.refl _ _, by decide, by decide⟩, rfl⟩⟩
      obtain ⟨ev, hev⟩ : ∃ ev, a'.eval = ev := ⟨_, rfl⟩
      rw [hev] at g127 ⊢
      clear hev hG hk hs
      obtain ⟨c1, c2, c3, c4, c5, c6⟩ := cW X hB
      go_simp
    | j + 16, ho => simp at ho
  · intro a' X hJ hB hs hdf hk hG
    obtain ⟨tm, df⟩ := a'
    obtain rfl : df = [] := hdf
    have e0 : tm.getD 0 undef = .pointer (some ⟨tb, 0, none⟩) := hk 0 (by kernel_rfl)
    have e1 : tm.getD 1 undef = .pointer (some ⟨rb, 0, none⟩) := hk 1 (by kernel_rfl)
    have e2 : tm.getD 2 undef = .agg #[.int .i64 5, .int .i64 zi, .int .i64 zid, .int .i64 zw, .int .i64 zn, .int .i64 zd, .slice zp xs.length cc] := hk 2 (by kernel_rfl)
    have e3 : tm.getD 3 undef = undef := hk 3 (by kernel_rfl)
    have e4 : tm.getD 4 undef = undef := hk 4 (by kernel_rfl)
    have e5 : tm.getD 5 undef = .pointer (some ⟨w.heap.size, 0, none⟩) := hk 5 (by kernel_rfl)
    have e8 : tm.getD 8 undef = undef := hk 8 (by kernel_rfl)
    have e9 : tm.getD 9 undef = undef := hk 9 (by kernel_rfl)
    have e10 : tm.getD 10 undef = undef := hk 10 (by kernel_rfl)
    have e11 : tm.getD 11 undef = undef := hk 11 (by kernel_rfl)
    have e12 : tm.getD 12 undef = undef := hk 12 (by kernel_rfl)
    have e13 : tm.getD 13 undef = undef := hk 13 (by kernel_rfl)
    have e14 : tm.getD 14 undef = undef := hk 14 (by kernel_rfl)
    have e15 : tm.getD 15 undef = undef := hk 15 (by kernel_rfl)
    have e16 : tm.getD 16 undef = undef := hk 16 (by kernel_rfl)
    have e17 : tm.getD 17 undef = .pointer (some ⟨w.heap.size, 0, none⟩) := hk 17 (by kernel_rfl)
    have e18 : tm.getD 18 undef = .int .i64 5 := hk 18 (by kernel_rfl)
    have e19 : tm.getD 19 undef = .bool false := hk 19 (by kernel_rfl)
    have e20 : tm.getD 20 undef = .bool false := hk 20 (by kernel_rfl)
    have e21 : tm.getD 21 undef = undef := hk 21 (by kernel_rfl)
    have e22 : tm.getD 22 undef = undef := hk 22 (by kernel_rfl)
    have e23 : tm.getD 23 undef = undef := hk 23 (by kernel_rfl)
    have e24 : tm.getD 24 undef = undef := hk 24 (by kernel_rfl)
    have e25 : tm.getD 25 undef = undef := hk 25 (by kernel_rfl)
    have e26 : tm.getD 26 undef = undef := hk 26 (by kernel_rfl)
    have e27 : tm.getD 27 undef = undef := hk 27 (by kernel_rfl)
    have e28 : tm.getD 28 undef = undef := hk 28 (by kernel_rfl)
    have e29 : tm.getD 29 undef = undef := hk 29 (by kernel_rfl)
    have e30 : tm.getD 30 undef = undef := hk 30 (by kernel_rfl)
    have e31 : tm.getD 31 undef = undef := hk 31 (by kernel_rfl)
    have e32 : tm.getD 32 undef = undef := hk 32 (by kernel_rfl)
    have e33 : tm.getD 33 undef = undef := hk 33 (by kernel_rfl)
    have e34 : tm.getD 34 undef = undef := hk 34 (by kernel_rfl)
    have e35 : tm.getD 35 undef = undef := hk 35 (by kernel_rfl)
    have e36 : tm.getD 36 undef = undef := hk 36 (by kernel_rfl)
    have e37 : tm.getD 37 undef = undef := hk 37 (by kernel_rfl)
    have e38 : tm.getD 38 undef = undef := hk 38 (by kernel_rfl)
    have e39 : tm.getD 39 undef = undef := hk 39 (by kernel_rfl)
    have e40 : tm.getD 40 undef = undef := hk 40 (by kernel_rfl)
    have e41 : tm.getD 41 undef = undef := hk 41 (by kernel_rfl)
    have e42 : tm.getD 42 undef = undef := hk 42 (by kernel_rfl)
    have e43 : tm.getD 43 undef = undef := hk 43 (by kernel_rfl)
    have e44 : tm.getD 44 undef = undef := hk 44 (by kernel_rfl)
    have e45 : tm.getD 45 undef = undef := hk 45 (by kernel_rfl)
    have e46 : tm.getD 46 undef = undef := hk 46 (by kernel_rfl)
    have e47 : tm.getD 47 undef = .bool false := hk 47 (by kernel_rfl)
    have e48 : tm.getD 48 undef = .bool false := hk 48 (by kernel_rfl)
    have e49 : tm.getD 49 undef = undef := hk 49 (by kernel_rfl)
    have e50 : tm.getD 50 undef = undef := hk 50 (by kernel_rfl)
    have e51 : tm.getD 51 undef = undef := hk 51 (by kernel_rfl)
    have e52 : tm.getD 52 undef = undef := hk 52 (by kernel_rfl)
    have e53 : tm.getD 53 undef = undef := hk 53 (by kernel_rfl)
    have e54 : tm.getD 54 undef = undef := hk 54 (by kernel_rfl)
    have e55 : tm.getD 55 undef = undef := hk 55 (by kernel_rfl)
    have e56 : tm.getD 56 undef = undef := hk 56 (by kernel_rfl)
    have e57 : tm.getD 57 undef = undef := hk 57 (by kernel_rfl)
    have e58 : tm.getD 58 undef = undef := hk 58 (by kernel_rfl)
    have e59 : tm.getD 59 undef = undef := hk 59 (by kernel_rfl)
    have e60 : tm.getD 60 undef = undef := hk 60 (by kernel_rfl)
    have e61 : tm.getD 61 undef = undef := hk 61 (by kernel_rfl)
    have e62 : tm.getD 62 undef = undef := hk 62 (by kernel_rfl)
    have e63 : tm.getD 63 undef = .bool false := hk 63 (by kernel_rfl)
    have e64 : tm.getD 64 undef = .bool false := hk 64 (by kernel_rfl)
    have e65 : tm.getD 65 undef = undef := hk 65 (by kernel_rfl)
    have e66 : tm.getD 66 undef = undef := hk 66 (by kernel_rfl)
    have e67 : tm.getD 67 undef = undef := hk 67 (by kernel_rfl)
    have e68 : tm.getD 68 undef = undef := hk 68 (by kernel_rfl)
    have e69 : tm.getD 69 undef = undef := hk 69 (by kernel_rfl)
    have e70 : tm.getD 70 undef = undef := hk 70 (by kernel_rfl)
    have e71 : tm.getD 71 undef = undef := hk 71 (by kernel_rfl)
    have e72 : tm.getD 72 undef = undef := hk 72 (by kernel_rfl)
    have e73 : tm.getD 73 undef = undef := hk 73 (by kernel_rfl)
    have e74 : tm.getD 74 undef = undef := hk 74 (by kernel_rfl)
    have e75 : tm.getD 75 undef = undef := hk 75 (by kernel_rfl)
    have e76 : tm.getD 76 undef = undef := hk 76 (by kernel_rfl)
    have e77 : tm.getD 77 undef = undef := hk 77 (by kernel_rfl)
    have e78 : tm.getD 78 undef = undef := hk 78 (by kernel_rfl)
    have e79 : tm.getD 79 undef = undef := hk 79 (by kernel_rfl)
    have e80 : tm.getD 80 undef = undef := hk 80 (by kernel_rfl)
    have e81 : tm.getD 81 undef = undef := hk 81 (by kernel_rfl)
    have e82 : tm.getD 82 undef = undef := hk 82 (by kernel_rfl)
    have e83 : tm.getD 83 undef = undef := hk 83 (by kernel_rfl)
    have e84 : tm.getD 84 undef = undef := hk 84 (by kernel_rfl)
    have e85 : tm.getD 85 undef = undef := hk 85 (by kernel_rfl)
    have e86 : tm.getD 86 undef = undef := hk 86 (by kernel_rfl)
    have e87 : tm.getD 87 undef = undef := hk 87 (by kernel_rfl)
    have e88 : tm.getD 88 undef = undef := hk 88 (by kernel_rfl)
    have e89 : tm.getD 89 undef = undef := hk 89 (by kernel_rfl)
    have e90 : tm.getD 90 undef = undef := hk 90 (by kernel_rfl)
    have e91 : tm.getD 91 undef = undef := hk 91 (by kernel_rfl)
    have e92 : tm.getD 92 undef = .bool false := hk 92 (by kernel_rfl)
    have e93 : tm.getD 93 undef = .bool false := hk 93 (by kernel_rfl)
    have e94 : tm.getD 94 undef = undef := hk 94 (by kernel_rfl)
    have e95 : tm.getD 95 undef = undef := hk 95 (by kernel_rfl)
    have e96 : tm.getD 96 undef = undef := hk 96 (by kernel_rfl)
    have e97 : tm.getD 97 undef = undef := hk 97 (by kernel_rfl)
    have e98 : tm.getD 98 undef = undef := hk 98 (by kernel_rfl)
    have e99 : tm.getD 99 undef = undef := hk 99 (by kernel_rfl)
    have e100 : tm.getD 100 undef = undef := hk 100 (by kernel_rfl)
    have e101 : tm.getD 101 undef = undef := hk 101 (by kernel_rfl)
    have e102 : tm.getD 102 undef = undef := hk 102 (by kernel_rfl)
    have e103 : tm.getD 103 undef = undef := hk 103 (by kernel_rfl)
    have e104 : tm.getD 104 undef = undef := hk 104 (by kernel_rfl)
    have e105 : tm.getD 105 undef = undef := hk 105 (by kernel_rfl)
    have e106 : tm.getD 106 undef = undef := hk 106 (by kernel_rfl)
    have e107 : tm.getD 107 undef = undef := hk 107 (by kernel_rfl)
    have e108 : tm.getD 108 undef = undef := hk 108 (by kernel_rfl)
    have e109 : tm.getD 109 undef = undef := hk 109 (by kernel_rfl)
    have e110 : tm.getD 110 undef = undef := hk 110 (by kernel_rfl)
    have e111 : tm.getD 111 undef = undef := hk 111 (by kernel_rfl)
    have e112 : tm.getD 112 undef = .bool true := hk 112 (by kernel_rfl)
    have e113 : tm.getD 113 undef = .bool true := hk 113 (by kernel_rfl)
    have e128 : tm.getD 128 undef = undef := hk 128 (by kernel_rfl)
    have e129 : tm.getD 129 undef = undef := hk 129 (by kernel_rfl)
    have e130 : tm.getD 130 undef = undef := hk 130 (by kernel_rfl)
    have e131 : tm.getD 131 undef = undef := hk 131 (by kernel_rfl)
    have e132 : tm.getD 132 undef = undef := hk 132 (by kernel_rfl)
    have e133 : tm.getD 133 undef = undef := hk 133 (by kernel_rfl)
    have e134 : tm.getD 134 undef = undef := hk 134 (by kernel_rfl)
    have e135 : tm.getD 135 undef = undef := hk 135 (by kernel_rfl)
    have e136 : tm.getD 136 undef = undef := hk 136 (by kernel_rfl)
    have e137 : tm.getD 137 undef = undef := hk 137 (by kernel_rfl)
    have e138 : tm.getD 138 undef = undef := hk 138 (by kernel_rfl)
    have e139 : tm.getD 139 undef = undef := hk 139 (by kernel_rfl)
    have e140 : tm.getD 140 undef = undef := hk 140 (by kernel_rfl)
    have e141 : tm.getD 141 undef = undef := hk 141 (by kernel_rfl)
    have e142 : tm.getD 142 undef = undef := hk 142 (by kernel_rfl)
    have e143 : tm.getD 143 undef = undef := hk 143 (by kernel_rfl)
    have e144 : tm.getD 144 undef = undef := hk 144 (by kernel_rfl)
    have e145 : tm.getD 145 undef = undef := hk 145 (by kernel_rfl)
    have e146 : tm.getD 146 undef = undef := hk 146 (by kernel_rfl)
    have e147 : tm.getD 147 undef = undef := hk 147 (by kernel_rfl)
    have e148 : tm.getD 148 undef = undef := hk 148 (by kernel_rfl)
    have e149 : tm.getD 149 undef = undef := hk 149 (by kernel_rfl)
    have e150 : tm.getD 150 undef = undef := hk 150 (by kernel_rfl)
    have e151 : tm.getD 151 undef = undef := hk 151 (by kernel_rfl)
    have e152 : tm.getD 152 undef = undef := hk 152 (by kernel_rfl)
    have e153 : tm.getD 153 undef = undef := hk 153 (by kernel_rfl)
    have e154 : tm.getD 154 undef = undef := hk 154 (by kernel_rfl)
    have e155 : tm.getD 155 undef = undef := hk 155 (by kernel_rfl)
    have e156 : tm.getD 156 undef = undef := hk 156 (by kernel_rfl)
    have e157 : tm.getD 157 undef = undef := hk 157 (by kernel_rfl)
    have e158 : tm.getD 158 undef = undef := hk 158 (by kernel_rfl)
    have e159 : tm.getD 159 undef = undef := hk 159 (by kernel_rfl)
    have e160 : tm.getD 160 undef = undef := hk 160 (by kernel_rfl)
    have e161 : tm.getD 161 undef = undef := hk 161 (by kernel_rfl)
    have e162 : tm.getD 162 undef = undef := hk 162 (by kernel_rfl)
    have e163 : tm.getD 163 undef = undef := hk 163 (by kernel_rfl)
    have e164 : tm.getD 164 undef = undef := hk 164 (by kernel_rfl)
    have e165 : tm.getD 165 undef = undef := hk 165 (by kernel_rfl)
    have e166 : tm.getD 166 undef = undef := hk 166 (by kernel_rfl)
    have e167 : tm.getD 167 undef = undef := hk 167 (by kernel_rfl)
    have e168 : tm.getD 168 undef = undef := hk 168 (by kernel_rfl)
    have e169 : tm.getD 169 undef = undef := hk 169 (by kernel_rfl)
    have e170 : tm.getD 170 undef = undef := hk 170 (by kernel_rfl)
    have e171 : tm.getD 171 undef = undef := hk 171 (by kernel_rfl)
    have e172 : tm.getD 172 undef = undef := hk 172 (by kernel_rfl)
    have g114 : (tm.getD 114 undef) = .pointer (some ⟨tb, 0, none⟩) := hG 0 114 (by decide) rfl
    have g115 : (tm.getD 115 undef) = .pointer (some ⟨tb, 0, none⟩) := hG 1 115 (by decide) rfl
    have g116 : (tm.getD 116 undef) = .pointer (some ⟨w.heap.size, 2, none⟩) := hG 2 116 (by decide) rfl
    have g117 : (tm.getD 117 undef) = .int .i64 zid := hG 3 117 (by decide) rfl
    have g118 : (tm.getD 118 undef) = .pointer (some ⟨w.heap.size, 5, none⟩) := hG 4 118 (by decide) rfl
    have g119 : (tm.getD 119 undef) = .agg #[.int .i64 zd, .slice zp xs.length cc] := hG 5 119 (by decide) rfl
    have g120 : (tm.getD 120 undef) = .int .i64 (relabS S zid zd xs) := hG 6 120 (by decide) rfl
    have g121 : (tm.getD 121 undef) = .pointer (some ⟨rb, 0, none⟩) := hG 7 121 (by decide) rfl
    have g122 : (tm.getD 122 undef) = .pointer (some ⟨w.heap.size, 2, none⟩) := hG 8 122 (by decide) rfl
    have g123 : (tm.getD 123 undef) = .int .i64 zid := hG 9 123 (by decide) rfl
    have g124 : (tm.getD 124 undef) = .pointer (some ⟨w.heap.size, 5, none⟩) := hG 10 124 (by decide) rfl
    have g125 : (tm.getD 125 undef) = .agg #[.int .i64 zd, .slice zp xs.length cc] := hG 11 125 (by decide) rfl
    have g126 : (tm.getD 126 undef) = .int .i64 (relabS S zid zd xs) := hG 12 126 (by decide) rfl
    have g127 : (tm.getD 127 undef) = .bool true := hG 13 127 (by decide) rfl
    have g6 : (tm.getD 6 undef) = .pointer (some ⟨tb, 0, none⟩) := hG 14 6 (by decide) rfl
    have g7 : (tm.getD 7 undef) = .bool true := hG 15 7 (by decide) rfl
    have htm := arr_of tm ((.pointer (some ⟨tb, 0, none⟩) : Value) :: (.pointer (some ⟨rb, 0, none⟩) : Value) :: (.agg #[.int .i64 5, .int .i64 zi, .int .i64 zid, .int .i64 zw, .int .i64 zn, .int .i64 zd, .slice zp xs.length cc] : Value) :: (undef : Value) :: (undef : Value) :: (.pointer (some ⟨w.heap.size, 0, none⟩) : Value) :: (tm.getD 6 undef : Value) :: (tm.getD 7 undef : Value) :: (undef : Value) :: (undef : Value) :: (undef : Value) :: (undef : Value) :: (undef : Value) :: (undef : Value) :: (undef : Value) :: (undef : Value) :: (undef : Value) :: (.pointer (some ⟨w.heap.size, 0, none⟩) : Value) :: (.int .i64 5 : Value) :: (.bool false : Value) :: (.bool false : Value) :: (undef : Value) :: (undef : Value) :: (undef : Value) :: (undef : Value) :: (undef : Value) :: (undef : Value) :: (undef : Value) :: (undef : Value) :: (undef : Value) :: (undef : Value) :: (undef : Value) :: (undef : Value) :: (undef : Value) :: (undef : Value) :: (undef : Value) :: (undef : Value) :: (undef : Value) :: (undef : Value) :: (undef : Value) :: (undef : Value) :: (undef : Value) :: (undef : Value) :: (undef : Value) :: (undef : Value) :: (undef : Value) :: (undef : Value) :: (.bool false : Value) :: (.bool false : Value) :: (undef : Value) :: (undef : Value) :: (undef : Value) :: (undef : Value) :: (undef : Value) :: (undef : Value) :: (undef : Value) :: (undef : Value) :: (undef : Value) :: (undef : Value) :: (undef : Value) :: (undef : Value) :: (undef : Value) :: (undef : Value) :: (.bool false : Value) :: (.bool false : Value) :: (undef : Value) :: (undef : Value) :: (undef : Value) :: (undef : Value) :: (undef : Value) :: (undef : Value) :: (undef : Value) :: (undef : Value) :: (undef : Value) :: (undef : Value) :: (undef : Value) :: (undef : Value) :: (undef : Value) :: (undef : Value) :: (undef : Value) :: (undef : Value) :: (undef : Value) :: (undef : Value) :: (undef : Value) :: (undef : Value) :: (undef : Value) :: (undef : Value) :: (undef : Value) :: (undef : Value) :: (undef : Value) :: (undef : Value) :: (undef : Value) :: (.bool false : Value) :: (.bool false : Value) :: (undef : Value) :: (undef : Value) :: (undef : Value) :: (undef : Value) :: (undef : Value) :: (undef : Value) :: (undef : Value) :: (undef : Value) :: (undef : Value) :: (undef : Value) :: (undef : Value) :: (undef : Value) :: (undef : Value) :: (undef : Value) :: (undef : Value) :: (undef : Value) :: (undef : Value) :: (undef : Value) :: (.bool true : Value) :: (.bool true : Value) :: (tm.getD 114 undef : Value) :: (tm.getD 115 undef : Value) :: (tm.getD 116 undef : Value) :: (tm.getD 117 undef : Value) :: (tm.getD 118 undef : Value) :: (tm.getD 119 undef : Value) :: (tm.getD 120 undef : Value) :: (tm.getD 121 undef : Value) :: (tm.getD 122 undef : Value) :: (tm.getD 123 undef : Value) :: (tm.getD 124 undef : Value) :: (tm.getD 125 undef : Value) :: (tm.getD 126 undef : Value) :: (tm.getD 127 undef : Value) :: (undef : Value) :: (undef : Value) :: (undef : Value) :: (undef : Value) :: (undef : Value) :: (undef : Value) :: (undef : Value) :: (undef : Value) :: (undef : Value) :: (undef : Value) :: (undef : Value) :: (undef : Value) :: (undef : Value) :: (undef : Value) :: (undef : Value) :: (undef : Value) :: (undef : Value) :: (undef : Value) :: (undef : Value) :: (undef : Value) :: (undef : Value) :: (undef : Value) :: (undef : Value) :: (undef : Value) :: (undef : Value) :: (undef : Value) :: (undef : Value) :: (undef : Value) :: (undef : Value) :: (undef : Value) :: (undef : Value) :: (undef : Value) :: (undef : Value) :: (undef : Value) :: (undef : Value) :: (undef : Value) :: (undef : Value) :: (undef : Value) :: (undef : Value) :: (undef : Value) :: (undef : Value) :: (undef : Value) :: (undef : Value) :: (undef : Value) :: (undef : Value) :: []) hs (by show (tm.getD 0 undef :: tm.getD 1 undef :: tm.getD 2 undef :: tm.getD 3 undef :: tm.getD 4 undef :: tm.getD 5 undef :: tm.getD 6 undef :: tm.getD 7 undef :: tm.getD 8 undef :: tm.getD 9 undef :: tm.getD 10 undef :: tm.getD 11 undef :: tm.getD 12 undef :: tm.getD 13 undef :: tm.getD 14 undef :: tm.getD 15 undef :: tm.getD 16 undef :: tm.getD 17 undef :: tm.getD 18 undef :: tm.getD 19 undef :: tm.getD 20 undef :: tm.getD 21 undef :: tm.getD 22 undef :: tm.getD 23 undef :: tm.getD 24 undef :: tm.getD 25 undef :: tm.getD 26 undef :: tm.getD 27 undef :: tm.getD 28 undef :: tm.getD 29 undef :: tm.getD 30 undef :: tm.getD 31 undef :: tm.getD 32 undef :: tm.getD 33 undef :: tm.getD 34 undef :: tm.getD 35 undef :: tm.getD 36 undef :: tm.getD 37 undef :: tm.getD 38 undef :: tm.getD 39 undef :: tm.getD 40 undef :: tm.getD 41 undef :: tm.getD 42 undef :: tm.getD 43 undef :: tm.getD 44 undef :: tm.getD 45 undef :: tm.getD 46 undef :: tm.getD 47 undef :: tm.getD 48 undef :: tm.getD 49 undef :: tm.getD 50 undef :: tm.getD 51 undef :: tm.getD 52 undef :: tm.getD 53 undef :: tm.getD 54 undef :: tm.getD 55 undef :: tm.getD 56 undef :: tm.getD 57 undef :: tm.getD 58 undef :: tm.getD 59 undef :: tm.getD 60 undef :: tm.getD 61 undef :: tm.getD 62 undef :: tm.getD 63 undef :: tm.getD 64 undef :: tm.getD 65 undef :: tm.getD 66 undef :: tm.getD 67 undef :: tm.getD 68 undef :: tm.getD 69 undef :: tm.getD 70 undef :: tm.getD 71 undef :: tm.getD 72 undef :: tm.getD 73 undef :: tm.getD 74 undef :: tm.getD 75 undef :: tm.getD 76 undef :: tm.getD 77 undef :: tm.getD 78 undef :: tm.getD 79 undef :: tm.getD 80 undef :: tm.getD 81 undef :: tm.getD 82 undef :: tm.getD 83 undef :: tm.getD 84 undef :: tm.getD 85 undef :: tm.getD 86 undef :: tm.getD 87 undef :: tm.getD 88 undef :: tm.getD 89 undef :: tm.getD 90 undef :: tm.getD 91 undef :: tm.getD 92 undef :: tm.getD 93 undef :: tm.getD 94 undef :: tm.getD 95 undef :: tm.getD 96 undef :: tm.getD 97 undef :: tm.getD 98 undef :: tm.getD 99 undef :: tm.getD 100 undef :: tm.getD 101 undef :: tm.getD 102 undef :: tm.getD 103 undef :: tm.getD 104 undef :: tm.getD 105 undef :: tm.getD 106 undef :: tm.getD 107 undef :: tm.getD 108 undef :: tm.getD 109 undef :: tm.getD 110 undef :: tm.getD 111 undef :: tm.getD 112 undef :: tm.getD 113 undef :: tm.getD 114 undef :: tm.getD 115 undef :: tm.getD 116 undef :: tm.getD 117 undef :: tm.getD 118 undef :: tm.getD 119 undef :: tm.getD 120 undef :: tm.getD 121 undef :: tm.getD 122 undef :: tm.getD 123 undef :: tm.getD 124 undef :: tm.getD 125 undef :: tm.getD 126 undef :: tm.getD 127 undef :: tm.getD 128 undef :: tm.getD 129 undef :: tm.getD 130 undef :: tm.getD 131 undef :: tm.getD 132 undef :: tm.getD 133 undef :: tm.getD 134 undef :: tm.getD 135 undef :: tm.getD 136 undef :: tm.getD 137 undef :: tm.getD 138 undef :: tm.getD 139 undef :: tm.getD 140 undef :: tm.getD 141 undef :: tm.getD 142 undef :: tm.getD 143 undef :: tm.getD 144 undef :: tm.getD 145 undef :: tm.getD 146 undef :: tm.getD 147 undef :: tm.getD 148 undef :: tm.getD 149 undef :: tm.getD 150 undef :: tm.getD 151 undef :: tm.getD 152 undef :: tm.getD 153 undef :: tm.getD 154 undef :: tm.getD 155 undef :: tm.getD 156 undef :: tm.getD 157 undef :: tm.getD 158 undef :: tm.getD 159 undef :: tm.getD 160 undef :: tm.getD 161 undef :: tm.getD 162 undef :: tm.getD 163 undef :: tm.getD 164 undef :: tm.getD 165 undef :: tm.getD 166 undef :: tm.getD 167 undef :: tm.getD 168 undef :: tm.getD 169 undef :: tm.getD 170 undef :: tm.getD 171 undef :: tm.getD 172 undef :: []) = _; rw [e0, e1, e2, e3, e4, e5, e8, e9, e10, e11, e12, e13, e14, e15, e16, e17, e18, e19, e20, e21, e22, e23, e24, e25, e26, e27, e28, e29, e30, e31, e32, e33, e34, e35, e36, e37, e38, e39, e40, e41, e42, e43, e44, e45, e46, e47, e48, e49, e50, e51, e52, e53, e54, e55, e56, e57, e58, e59, e60, e61, e62, e63, e64, e65, e66, e67, e68, e69, e70, e71, e72, e73, e74, e75, e76, e77, e78, e79, e80, e81, e82, e83, e84, e85, e86, e87, e88, e89, e90, e91, e92, e93, e94, e95, e96, e97, e98, e99, e100, e101, e102, e103, e104, e105, e106, e107, e108, e109, e110, e111, e112, e113, e128, e129, e130, e131, e132, e133, e134, e135, e136, e137, e138, e139, e140, e141, e142, e143, e144, e145, e146, e147, e148, e149, e150, e151, e152, e153, e154, e155, e156, e157, e158, e159, e160, e161, e162, e163, e164, e165, e166, e167, e168, e169, e170, e171, e172]; try rfl)
    clear hs hk hG e0 e1 e2 e3 e4 e5 e8 e9 e10 e11 e12 e13 e14 e15 e16 e17 e18 e19 e20 e21 e22 e23 e24 e25 e26 e27 e28 e29 e30 e31 e32 e33 e34 e35 e36 e37 e38 e39 e40 e41 e42 e43 e44 e45 e46 e47 e48 e49 e50 e51 e52 e53 e54 e55 e56 e57 e58 e59 e60 e61 e62 e63 e64 e65 e66 e67 e68 e69 e70 e71 e72 e73 e74 e75 e76 e77 e78 e79 e80 e81 e82 e83 e84 e85 e86 e87 e88 e89 e90 e91 e92 e93 e94 e95 e96 e97 e98 e99 e100 e101 e102 e103 e104 e105 e106 e107 e108 e109 e110 e111 e112 e113 e128 e129 e130 e131 e132 e133 e134 e135 e136 e137 e138 e139 e140 e141 e142 e143 e144 e145 e146 e147 e148 e149 e150 e151 e152 e153 e154 e155 e156 e157 e158 e159 e160 e161 e162 e163 e164 e165 e166 e167 e168 e169 e170 e171 e172
    generalize tm.getD 114 undef = t114 at htm g114
    generalize tm.getD 115 undef = t115 at htm g115
    generalize tm.getD 116 undef = t116 at htm g116
    generalize tm.getD 117 undef = t117 at htm g117
    generalize tm.getD 118 undef = t118 at htm g118
    generalize tm.getD 119 undef = t119 at htm g119
    generalize tm.getD 120 undef = t120 at htm g120
    generalize tm.getD 121 undef = t121 at htm g121
    generalize tm.getD 122 undef = t122 at htm g122
    generalize tm.getD 123 undef = t123 at htm g123
    generalize tm.getD 124 undef = t124 at htm g124
    generalize tm.getD 125 undef = t125 at htm g125
    generalize tm.getD 126 undef = t126 at htm g126
    generalize tm.getD 127 undef = t127 at htm g127
    generalize tm.getD 6 undef = t6 at htm g6
    generalize tm.getD 7 undef = t7 at htm g7
    subst htm
    subst g114
    subst g115
    subst g116
    subst g117
    subst g118
    subst g119
    subst g120
    subst g121
    subst g122
    subst g123
    subst g124
    subst g125
    subst g126
    subst g127
    subst g6
    subst g7
    have HJ2 := Lib.hid hJ
    clear hJ hB
    go_wp2_with fail
    go_ret2
    obtain ⟨⟨F', g', cap', cs', L', hb⟩, hw⟩ := HJ2.out
    exact ⟨rfl, ⟨F', _, g', cap', cs', L', hb⟩, (HB1.out.mono HH.out.bw).trans hw⟩
end Go.Proofs.Ytebcnlhgkpaghaa
/- A step of the law: make. -/
namespace Go.Proofs.Ytebcnlhgkpaghaa
open Go.RowKit Go.Sort
set_option maxRecDepth 100000 in
set_option maxHeartbeats 8000000 in
theorem stepH_make {w : World} {b0 tb rb : Nat} {root : Int} {base mb : Nat} {F : Nat → Prop} {S : Abs} {g cap : Nat} {cs : Array Value} {L : List Th} (h : Bo w b0 tb rb root base mb F S g cap cs L) (zi zid zw zn zd : Int) (zp : Option Addr) (cc : Nat) (xs : List (Int × Int)) (hm : xs.length ≤ maxLen) (hc : CatsAt w zp xs) (hp : 0 < xs.length → ∀ a, zp = some a → a.block < b0) (ii : i64 zi) (_iid : i64 zid) :
    Calls Try.prog 7 #[.pointer (some ⟨tb, 0, none⟩), .pointer (some ⟨rb, 0, none⟩), .agg #[.int .i64 1, .int .i64 zi, .int .i64 zid, .int .i64 zw, .int .i64 zn, .int .i64 zd, .slice zp xs.length cc]] w fun e w' => e = .returned (.tuple #[.pointer (some ⟨tb, 0, none⟩), .bool true]) ∧ (∃ F' S' g' cap' cs' L', Bo w' b0 tb rb root base mb F' S' g' cap' cs' L') ∧ Below b0 w w' := by
  have HH := Lib.hid h
  obtain ⟨W1, hW1⟩ : ∃ W1, w.alloc (.cells #[.int .i64 1, .int .i64 zi, .int .i64 zid, .int .i64 zw, .int .i64 zn, .int .i64 zd, .slice zp xs.length cc] 32) = W1 := ⟨_, rfl⟩
  have b1 : Below w.heap.size w W1 := by rw [← hW1]; exact (Below.refl _ _).alloc (Nat.le_refl _) _
  have hz : w.heap.size < W1.heap.size := by rw [← hW1]; simp
  have hbW : b0 ≤ W1.heap.size := Nat.le_trans h.bw b1.size
  have hO : W1.heap[w.heap.size]? = some (.cells #[.int .i64 1, .int .i64 zi, .int .i64 zid, .int .i64 zw, .int .i64 zn, .int .i64 zd, .slice zp xs.length cc] 32 (0, 0)) := by rw [← hW1]; exact heap_new _ _
  have d0 : W1.cell? ⟨w.heap.size, 0, none⟩ = some (.int .i64 1) := by simp [World.cell?, hO]
  have cW : ∀ X, OpS w.heap.size W1 X → X.cell? ⟨w.heap.size, 1, none⟩ = some (.int .i64 zi) ∧ X.cell? ⟨w.heap.size, 2, none⟩ = some (.int .i64 zid) ∧ X.cell? ⟨w.heap.size, 3, none⟩ = some (.int .i64 zw) ∧ X.cell? ⟨w.heap.size, 4, none⟩ = some (.int .i64 zn) ∧ X.cell? ⟨w.heap.size, 5, none⟩ = some (.int .i64 zd) ∧ X.cell? ⟨w.heap.size, 6, none⟩ = some (.slice zp xs.length cc) := fun X hX => ⟨op_cells hO hX rfl, op_cells hO hX rfl, op_cells hO hX rfl, op_cells hO hX rfl, op_cells hO hX rfl, op_cells hO hX rfl⟩
  have HB1 := Lib.hid b1
  have HC := Lib.hid hc
  have HPB := Lib.hid hp
  have hcX : Hid (∀ X, HJ W1 b0 tb rb root base mb (makeT S L.length zi zid zw zn zd xs) g cap cs L 0 X → CatsAt X zp xs) := fun X hX => (hc.below b1).below hX
  have hcY : Hid (∀ X, Below b0 W1 X → CatsAt X zp xs ∧ ∀ F' : Nat → Prop, (∀ k, F' k → base ≤ k) → Off (fun b => b = rb ∨ b = g ∨ F' b) zp xs.length) := fun X hX => by
    have hk : ∀ k, k < W1.heap.size → ¬ b0 ≤ k → X.heap[k]? = W1.heap[k]? := fun k _ h2 => hX.block k (by omega)
    refine ⟨cats_keep (P := fun k => b0 ≤ k) (hc.below b1) (fun hn a ha e => by have := hp hn a ha; omega) hk hX.size, fun F' hF hn a ha hx => ?_⟩
    have := hp hn a ha
    rcases hx with e | e | e
    · have := h.b2; omega
    · have := h.b3; omega
    · have := hF _ e; have := h.b1; omega
  clear h hO b1 hc hp
  go_enter Try.func7, Try.ntmps7
  go_upto_region 3 with fail
  refine wp_region_phT 6 12 24 (OpS w.heap.size) (HJ W1 b0 tb rb root base mb (makeT S L.length zi zid zw zn zd xs) g cap cs L) (fun kq v X => match kq with | 21 => v = .pointer (some ⟨tb, 0, none⟩) | 22 => v = .pointer (some ⟨tb, 0, none⟩) | 23 => v = .pointer (some ⟨w.heap.size, 1, none⟩) | 24 => v = .int .i64 zi | 25 => v = .pointer (some ⟨w.heap.size, 2, none⟩) | 26 => v = .int .i64 zid | 27 => v = .pointer (some ⟨w.heap.size, 3, none⟩) | 28 => v = .int .i64 zw | 29 => v = .pointer (some ⟨w.heap.size, 4, none⟩) | 30 => v = .int .i64 zn | 31 => v = .pointer (some ⟨w.heap.size, 5, none⟩) | 32 => v = .agg #[.int .i64 zd, .slice zp xs.length cc] | 33 => v = .int .i64 (makeS S L.length zi zid zw zn zd xs) | 34 => v = .pointer (some ⟨rb, 0, none⟩) | 35 => v = .pointer (some ⟨w.heap.size, 1, none⟩) | 36 => v = .int .i64 zi | 37 => v = .pointer (some ⟨w.heap.size, 2, none⟩) | 38 => v = .int .i64 zid | 39 => v = .pointer (some ⟨w.heap.size, 3, none⟩) | 40 => v = .int .i64 zw | 41 => v = .pointer (some ⟨w.heap.size, 4, none⟩) | 42 => v = .int .i64 zn | 43 => v = .pointer (some ⟨w.heap.size, 5, none⟩) | 44 => v = .agg #[.int .i64 zd, .slice zp xs.length cc] | 45 => v = .int .i64 (makeS S L.length zi zid zw zn zd xs) | 46 => v = .bool true | 6 => v = .pointer (some ⟨tb, 0, none⟩) | 7 => v = .bool true | _ => True) (by kernel_rfl) (by kernel_rfl) (by kernel_rfl) (by kernel_rfl) (by decide) (by decide) (fun _ _ h => OpS.of_below h) (fun _ _ _ h k => OpS.trans h k) (fun _ _ _ h hb => HJ.below h hbW hb) ((Below.refl _ _).drew) ?_ ?_ ?_
  · intro kq v W W' h hb
    revert h
    try dsimp only
    split
    · intro h; exact h
    · intro h; exact h
    · intro h; exact h
    · intro h; exact h
    · intro h; exact h
    · intro h; exact h
    · intro h; exact h
    · intro h; exact h
    · intro h; exact h
    · intro h; exact h
    · intro h; exact h
    · intro h; exact h
    · intro h; exact h
    · intro h; exact h
    · intro h; exact h
    · intro h; exact h
    · intro h; exact h
    · intro h; exact h
    · intro h; exact h
    · intro h; exact h
    · intro h; exact h
    · intro h; exact h
    · intro h; exact h
    · intro h; exact h
    · intro h; exact h
    · intro h; exact h
    · intro h; exact h
    · intro h; exact h
    · intro h; trivial
  · intro a' X p hJ hB hs hk i o d ho hd hp1 hp2 hG
    match i, ho with
    | 0, ho =>
      obtain rfl : _ = o := Option.some.inj ho
      obtain rfl : 21 = d := Option.some.inj hd
      have g0 : a'.eval (.tmp 0) = .pointer (some ⟨tb, 0, none⟩) := hk 0 (by kernel_rfl)
      refine ⟨rfl, .inl ⟨.pointer (some ⟨tb, 0, none⟩), X, ?_, ⟨Below.refl _ _, by decide, by decide⟩, rfl⟩⟩
      obtain ⟨ev, hev⟩ : ∃ ev, a'.eval = ev := ⟨_, rfl⟩
      rw [hev] at g0 ⊢
      clear hev hG hk hs
      obtain ⟨c1, c2, c3, c4, c5, c6⟩ := cW X hB
      go_simp
    | 1, ho =>
      obtain rfl : _ = o := Option.some.inj ho
      obtain rfl : 22 = d := Option.some.inj hd
      have g0 : a'.eval (.tmp 0) = .pointer (some ⟨tb, 0, none⟩) := hk 0 (by kernel_rfl)
      refine ⟨rfl, .inl ⟨.pointer (some ⟨tb, 0, none⟩), X, ?_, ⟨Below.refl _ _, by decide, by decide⟩, rfl⟩⟩
      obtain ⟨ev, hev⟩ : ∃ ev, a'.eval = ev := ⟨_, rfl⟩
      rw [hev] at g0 ⊢
      clear hev hG hk hs
      obtain ⟨c1, c2, c3, c4, c5, c6⟩ := cW X hB
      go_simp
    | 2, ho =>
      obtain rfl : _ = o := Option.some.inj ho
      obtain rfl : 23 = d := Option.some.inj hd
      have g5 : a'.eval (.tmp 5) = .pointer (some ⟨w.heap.size, 0, none⟩) := hk 5 (by kernel_rfl)
      refine ⟨rfl, .inl ⟨.pointer (some ⟨w.heap.size, 1, none⟩), X, ?_, ⟨Below.refl _ _, by decide, by decide⟩, rfl⟩⟩
      obtain ⟨ev, hev⟩ : ∃ ev, a'.eval = ev := ⟨_, rfl⟩
      rw [hev] at g5 ⊢
      clear hev hG hk hs
      obtain ⟨c1, c2, c3, c4, c5, c6⟩ := cW X hB
      go_simp
    | 3, ho =>
      obtain rfl : _ = o := Option.some.inj ho
      obtain rfl : 24 = d := Option.some.inj hd
      have g23 : a'.eval (.tmp 23) = .pointer (some ⟨w.heap.size, 1, none⟩) := hG ⟨2, .data⟩ (by simp) rfl 23 rfl
      refine ⟨rfl, .inl ⟨.int .i64 zi, X, ?_, ⟨Below.refl _ _, by decide, by decide⟩, rfl⟩⟩
      obtain ⟨ev, hev⟩ : ∃ ev, a'.eval = ev := ⟨_, rfl⟩
      rw [hev] at g23 ⊢
      clear hev hG hk hs
      obtain ⟨c1, c2, c3, c4, c5, c6⟩ := cW X hB
      go_simp
    | 4, ho =>
      obtain rfl : _ = o := Option.some.inj ho
      obtain rfl : 25 = d := Option.some.inj hd
      have g5 : a'.eval (.tmp 5) = .pointer (some ⟨w.heap.size, 0, none⟩) := hk 5 (by kernel_rfl)
      refine ⟨rfl, .inl ⟨.pointer (some ⟨w.heap.size, 2, none⟩), X, ?_, ⟨Below.refl _ _, by decide, by decide⟩, rfl⟩⟩
      obtain ⟨ev, hev⟩ : ∃ ev, a'.eval = ev := ⟨_, rfl⟩
      rw [hev] at g5 ⊢
      clear hev hG hk hs
      obtain ⟨c1, c2, c3, c4, c5, c6⟩ := cW X hB
      go_simp
    | 5, ho =>
      obtain rfl : _ = o := Option.some.inj ho
      obtain rfl : 26 = d := Option.some.inj hd
      have g25 : a'.eval (.tmp 25) = .pointer (some ⟨w.heap.size, 2, none⟩) := hG ⟨4, .data⟩ (by simp) rfl 25 rfl
      refine ⟨rfl, .inl ⟨.int .i64 zid, X, ?_, ⟨Below.refl _ _, by decide, by decide⟩, rfl⟩⟩
      obtain ⟨ev, hev⟩ : ∃ ev, a'.eval = ev := ⟨_, rfl⟩
      rw [hev] at g25 ⊢
      clear hev hG hk hs
      obtain ⟨c1, c2, c3, c4, c5, c6⟩ := cW X hB
      go_simp
    | 6, ho =>
      obtain rfl : _ = o := Option.some.inj ho
      obtain rfl : 27 = d := Option.some.inj hd
      have g5 : a'.eval (.tmp 5) = .pointer (some ⟨w.heap.size, 0, none⟩) := hk 5 (by kernel_rfl)
      refine ⟨rfl, .inl ⟨.pointer (some ⟨w.heap.size, 3, none⟩), X, ?_, ⟨Below.refl _ _, by decide, by decide⟩, rfl⟩⟩
      obtain ⟨ev, hev⟩ : ∃ ev, a'.eval = ev := ⟨_, rfl⟩
      rw [hev] at g5 ⊢
      clear hev hG hk hs
      obtain ⟨c1, c2, c3, c4, c5, c6⟩ := cW X hB
      go_simp
    | 7, ho =>
      obtain rfl : _ = o := Option.some.inj ho
      obtain rfl : 28 = d := Option.some.inj hd
      have g27 : a'.eval (.tmp 27) = .pointer (some ⟨w.heap.size, 3, none⟩) := hG ⟨6, .data⟩ (by simp) rfl 27 rfl
      refine ⟨rfl, .inl ⟨.int .i64 zw, X, ?_, ⟨Below.refl _ _, by decide, by decide⟩, rfl⟩⟩
      obtain ⟨ev, hev⟩ : ∃ ev, a'.eval = ev := ⟨_, rfl⟩
      rw [hev] at g27 ⊢
      clear hev hG hk hs
      obtain ⟨c1, c2, c3, c4, c5, c6⟩ := cW X hB
      go_simp
    | 8, ho =>
      obtain rfl : _ = o := Option.some.inj ho
      obtain rfl : 29 = d := Option.some.inj hd
      have g5 : a'.eval (.tmp 5) = .pointer (some ⟨w.heap.size, 0, none⟩) := hk 5 (by kernel_rfl)
      refine ⟨rfl, .inl ⟨.pointer (some ⟨w.heap.size, 4, none⟩), X, ?_, ⟨Below.refl _ _, by decide, by decide⟩, rfl⟩⟩
      obtain ⟨ev, hev⟩ : ∃ ev, a'.eval = ev := ⟨_, rfl⟩
      rw [hev] at g5 ⊢
      clear hev hG hk hs
      obtain ⟨c1, c2, c3, c4, c5, c6⟩ := cW X hB
      go_simp
    | 9, ho =>
      obtain rfl : _ = o := Option.some.inj ho
      obtain rfl : 30 = d := Option.some.inj hd
      have g29 : a'.eval (.tmp 29) = .pointer (some ⟨w.heap.size, 4, none⟩) := hG ⟨8, .data⟩ (by simp) rfl 29 rfl
      refine ⟨rfl, .inl ⟨.int .i64 zn, X, ?_, ⟨Below.refl _ _, by decide, by decide⟩, rfl⟩⟩
      obtain ⟨ev, hev⟩ : ∃ ev, a'.eval = ev := ⟨_, rfl⟩
      rw [hev] at g29 ⊢
      clear hev hG hk hs
      obtain ⟨c1, c2, c3, c4, c5, c6⟩ := cW X hB
      go_simp
    | 10, ho =>
      obtain rfl : _ = o := Option.some.inj ho
      obtain rfl : 31 = d := Option.some.inj hd
      have g5 : a'.eval (.tmp 5) = .pointer (some ⟨w.heap.size, 0, none⟩) := hk 5 (by kernel_rfl)
      refine ⟨rfl, .inl ⟨.pointer (some ⟨w.heap.size, 5, none⟩), X, ?_, ⟨Below.refl _ _, by decide, by decide⟩, rfl⟩⟩
      obtain ⟨ev, hev⟩ : ∃ ev, a'.eval = ev := ⟨_, rfl⟩
      rw [hev] at g5 ⊢
      clear hev hG hk hs
      obtain ⟨c1, c2, c3, c4, c5, c6⟩ := cW X hB
      go_simp
    | 11, ho =>
      obtain rfl : _ = o := Option.some.inj ho
      obtain rfl : 32 = d := Option.some.inj hd
      have g31 : a'.eval (.tmp 31) = .pointer (some ⟨w.heap.size, 5, none⟩) := hG ⟨10, .data⟩ (by simp) rfl 31 rfl
      refine ⟨rfl, .inl ⟨.agg #[.int .i64 zd, .slice zp xs.length cc], X, ?_, ⟨Below.refl _ _, by decide, by decide⟩, rfl⟩⟩
      obtain ⟨ev, hev⟩ : ∃ ev, a'.eval = ev := ⟨_, rfl⟩
      rw [hev] at g31 ⊢
      clear hev hG hk hs
      obtain ⟨c1, c2, c3, c4, c5, c6⟩ := cW X hB
      go_simp
    | 12, ho =>
      obtain rfl : _ = o := Option.some.inj ho
      obtain rfl : 33 = d := Option.some.inj hd
      have g22 : a'.eval (.tmp 22) = .pointer (some ⟨tb, 0, none⟩) := hG ⟨1, .data⟩ (by simp) rfl 22 rfl
      have g24 : a'.eval (.tmp 24) = .int .i64 zi := hG ⟨3, .data⟩ (by simp) rfl 24 rfl
      have g26 : a'.eval (.tmp 26) = .int .i64 zid := hG ⟨5, .data⟩ (by simp) rfl 26 rfl
      have g28 : a'.eval (.tmp 28) = .int .i64 zw := hG ⟨7, .data⟩ (by simp) rfl 28 rfl
      have g30 : a'.eval (.tmp 30) = .int .i64 zn := hG ⟨9, .data⟩ (by simp) rfl 30 rfl
      have g32 : a'.eval (.tmp 32) = .agg #[.int .i64 zd, .slice zp xs.length cc] := hG ⟨11, .data⟩ (by simp) rfl 32 rfl
      obtain rfl := hp1 rfl
      refine ⟨rfl, .inr ⟨10, #[.pointer (some ⟨tb, 0, none⟩), .int .i64 zi, .int .i64 zid, .int .i64 zw, .int .i64 zn, .agg #[.int .i64 zd, .slice zp xs.length cc]], ?_, ?_⟩⟩
      · have gF : a'.eval (.func 10) = .func (.func 10) #[] #[] := rfl
        obtain ⟨ev, hev⟩ : ∃ ev, a'.eval = ev := ⟨_, rfl⟩
        rw [hev] at gF g22 g24 g26 g28 g30 g32 ⊢
        exact exec_call6 rfl gF g22 g24 g26 g28 g30 g32 (enters_of Try.func10 (by kernel_rfl) rfl)
      exact (make_x (HJ.bo HH.out HB1.out hJ).hx L.length HH.out.len zi zid zw zn zd zp cc xs hm (hcX.out X hJ) ii).mono fun e W' ⟨he, hd'⟩ => ⟨_, he, .inr ⟨(HJ.one HH.out HB1.out hz hJ hd').1, (HJ.one HH.out HB1.out hz hJ hd').2, .inl rfl⟩, rfl⟩
    | 13, ho =>
      obtain rfl : _ = o := Option.some.inj ho
      obtain rfl : 34 = d := Option.some.inj hd
      have g1 : a'.eval (.tmp 1) = .pointer (some ⟨rb, 0, none⟩) := hk 1 (by kernel_rfl)
      refine ⟨rfl, .inl ⟨.pointer (some ⟨rb, 0, none⟩), X, ?_, ⟨Below.refl _ _, by decide, by decide⟩, rfl⟩⟩
      obtain ⟨ev, hev⟩ : ∃ ev, a'.eval = ev := ⟨_, rfl⟩
      rw [hev] at g1 ⊢
      clear hev hG hk hs
      obtain ⟨c1, c2, c3, c4, c5, c6⟩ := cW X hB
      go_simp
    | 14, ho =>
      obtain rfl : _ = o := Option.some.inj ho
      obtain rfl : 35 = d := Option.some.inj hd
      have g5 : a'.eval (.tmp 5) = .pointer (some ⟨w.heap.size, 0, none⟩) := hk 5 (by kernel_rfl)
      refine ⟨rfl, .inl ⟨.pointer (some ⟨w.heap.size, 1, none⟩), X, ?_, ⟨Below.refl _ _, by decide, by decide⟩, rfl⟩⟩
      obtain ⟨ev, hev⟩ : ∃ ev, a'.eval = ev := ⟨_, rfl⟩
      rw [hev] at g5 ⊢
      clear hev hG hk hs
      obtain ⟨c1, c2, c3, c4, c5, c6⟩ := cW X hB
      go_simp
    | 15, ho =>
      obtain rfl : _ = o := Option.some.inj ho
      obtain rfl : 36 = d := Option.some.inj hd
      have g35 : a'.eval (.tmp 35) = .pointer (some ⟨w.heap.size, 1, none⟩) := hG ⟨14, .data⟩ (by simp) rfl 35 rfl
      refine ⟨rfl, .inl ⟨.int .i64 zi, X, ?_, ⟨Below.refl _ _, by decide, by decide⟩, rfl⟩⟩
      obtain ⟨ev, hev⟩ : ∃ ev, a'.eval = ev := ⟨_, rfl⟩
      rw [hev] at g35 ⊢
      clear hev hG hk hs
      obtain ⟨c1, c2, c3, c4, c5, c6⟩ := cW X hB
      go_simp
    | 16, ho =>
      obtain rfl : _ = o := Option.some.inj ho
      obtain rfl : 37 = d := Option.some.inj hd
      have g5 : a'.eval (.tmp 5) = .pointer (some ⟨w.heap.size, 0, none⟩) := hk 5 (by kernel_rfl)
      refine ⟨rfl, .inl ⟨.pointer (some ⟨w.heap.size, 2, none⟩), X, ?_, ⟨Below.refl _ _, by decide, by decide⟩, rfl⟩⟩
      obtain ⟨ev, hev⟩ : ∃ ev, a'.eval = ev := ⟨_, rfl⟩
      rw [hev] at g5 ⊢
      clear hev hG hk hs
      obtain ⟨c1, c2, c3, c4, c5, c6⟩ := cW X hB
      go_simp
    | 17, ho =>
      obtain rfl : _ = o := Option.some.inj ho
      obtain rfl : 38 = d := Option.some.inj hd
      have g37 : a'.eval (.tmp 37) = .pointer (some ⟨w.heap.size, 2, none⟩) := hG ⟨16, .data⟩ (by simp) rfl 37 rfl
      refine ⟨rfl, .inl ⟨.int .i64 zid, X, ?_, ⟨Below.refl _ _, by decide, by decide⟩, rfl⟩⟩
      obtain ⟨ev, hev⟩ : ∃ ev, a'.eval = ev := ⟨_, rfl⟩
      rw [hev] at g37 ⊢
      clear hev hG hk hs
      obtain ⟨c1, c2, c3, c4, c5, c6⟩ := cW X hB
      go_simp
    | 18, ho =>
      obtain rfl : _ = o := Option.some.inj ho
      obtain rfl : 39 = d := Option.some.inj hd
      have g5 : a'.eval (.tmp 5) = .pointer (some ⟨w.heap.size, 0, none⟩) := hk 5 (by kernel_rfl)
      refine ⟨rfl, .inl ⟨.pointer (some ⟨w.heap.size, 3, none⟩), X, ?_, ⟨Below.refl _ _, by decide, by decide⟩, rfl⟩⟩
      obtain ⟨ev, hev⟩ : ∃ ev, a'.eval = ev := ⟨_, rfl⟩
      rw [hev] at g5 ⊢
      clear hev hG hk hs
      obtain ⟨c1, c2, c3, c4, c5, c6⟩ := cW X hB
      go_simp
    | 19, ho =>
      obtain rfl : _ = o := Option.some.inj ho
      obtain rfl : 40 = d := Option.some.inj hd
      have g39 : a'.eval (.tmp 39) = .pointer (some ⟨w.heap.size, 3, none⟩) := hG ⟨18, .data⟩ (by simp) rfl 39 rfl
      refine ⟨rfl, .inl ⟨.int .i64 zw, X, ?_, ⟨Below.refl _ _, by decide, by decide⟩, rfl⟩⟩
      obtain ⟨ev, hev⟩ : ∃ ev, a'.eval = ev := ⟨_, rfl⟩
      rw [hev] at g39 ⊢
      clear hev hG hk hs
      obtain ⟨c1, c2, c3, c4, c5, c6⟩ := cW X hB
      go_simp
    | 20, ho =>
      obtain rfl : _ = o := Option.some.inj ho
      obtain rfl : 41 = d := Option.some.inj hd
      have g5 : a'.eval (.tmp 5) = .pointer (some ⟨w.heap.size, 0, none⟩) := hk 5 (by kernel_rfl)
      refine ⟨rfl, .inl ⟨.pointer (some ⟨w.heap.size, 4, none⟩), X, ?_, ⟨Below.refl _ _, by decide, by decide⟩, rfl⟩⟩
      obtain ⟨ev, hev⟩ : ∃ ev, a'.eval = ev := ⟨_, rfl⟩
      rw [hev] at g5 ⊢
      clear hev hG hk hs
      obtain ⟨c1, c2, c3, c4, c5, c6⟩ := cW X hB
      go_simp
    | 21, ho =>
      obtain rfl : _ = o := Option.some.inj ho
      obtain rfl : 42 = d := Option.some.inj hd
      have g41 : a'.eval (.tmp 41) = .pointer (some ⟨w.heap.size, 4, none⟩) := hG ⟨20, .data⟩ (by simp) rfl 41 rfl
      refine ⟨rfl, .inl ⟨.int .i64 zn, X, ?_, ⟨Below.refl _ _, by decide, by decide⟩, rfl⟩⟩
      obtain ⟨ev, hev⟩ : ∃ ev, a'.eval = ev := ⟨_, rfl⟩
      rw [hev] at g41 ⊢
      clear hev hG hk hs
      obtain ⟨c1, c2, c3, c4, c5, c6⟩ := cW X hB
      go_simp
    | 22, ho =>
      obtain rfl : _ = o := Option.some.inj ho
      obtain rfl : 43 = d := Option.some.inj hd
      have g5 : a'.eval (.tmp 5) = .pointer (some ⟨w.heap.size, 0, none⟩) := hk 5 (by kernel_rfl)
      refine ⟨rfl, .inl ⟨.pointer (some ⟨w.heap.size, 5, none⟩), X, ?_, ⟨Below.refl _ _, by decide, by decide⟩, rfl⟩⟩
      obtain ⟨ev, hev⟩ : ∃ ev, a'.eval = ev := ⟨_, rfl⟩
      rw [hev] at g5 ⊢
      clear hev hG hk hs
      obtain ⟨c1, c2, c3, c4, c5, c6⟩ := cW X hB
      go_simp
    | 23, ho =>
      obtain rfl : _ = o := Option.some.inj ho
      obtain rfl : 44 = d := Option.some.inj hd
      have g43 : a'.eval (.tmp 43) = .pointer (some ⟨w.heap.size, 5, none⟩) := hG ⟨22, .data⟩ (by simp) rfl 43 rfl
      refine ⟨rfl, .inl ⟨.agg #[.int .i64 zd, .slice zp xs.length cc], X, ?_, ⟨Below.refl _ _, by decide, by decide⟩, rfl⟩⟩
      obtain ⟨ev, hev⟩ : ∃ ev, a'.eval = ev := ⟨_, rfl⟩
      rw [hev] at g43 ⊢
      clear hev hG hk hs
      obtain ⟨c1, c2, c3, c4, c5, c6⟩ := cW X hB
      go_simp
    | 24, ho =>
      obtain rfl : _ = o := Option.some.inj ho
      obtain rfl : 45 = d := Option.some.inj hd
      have g34 : a'.eval (.tmp 34) = .pointer (some ⟨rb, 0, none⟩) := hG ⟨13, .data⟩ (by simp) rfl 34 rfl
      have g36 : a'.eval (.tmp 36) = .int .i64 zi := hG ⟨15, .data⟩ (by simp) rfl 36 rfl
      have g38 : a'.eval (.tmp 38) = .int .i64 zid := hG ⟨17, .data⟩ (by simp) rfl 38 rfl
      have g40 : a'.eval (.tmp 40) = .int .i64 zw := hG ⟨19, .data⟩ (by simp) rfl 40 rfl
      have g42 : a'.eval (.tmp 42) = .int .i64 zn := hG ⟨21, .data⟩ (by simp) rfl 42 rfl
      have g44 : a'.eval (.tmp 44) = .agg #[.int .i64 zd, .slice zp xs.length cc] := hG ⟨23, .data⟩ (by simp) rfl 44 rfl
      obtain rfl := hp2 rfl
      refine ⟨rfl, .inr ⟨19, #[.pointer (some ⟨rb, 0, none⟩), .int .i64 zi, .int .i64 zid, .int .i64 zw, .int .i64 zn, .agg #[.int .i64 zd, .slice zp xs.length cc]], ?_, ?_⟩⟩
      · have gF : a'.eval (.func 19) = .func (.func 19) #[] #[] := rfl
        obtain ⟨ev, hev⟩ : ∃ ev, a'.eval = ev := ⟨_, rfl⟩
        rw [hev] at gF g34 g36 g38 g40 g42 g44 ⊢
        exact exec_call6 rfl gF g34 g36 g38 g40 g42 g44 (enters_of Try.func19 (by kernel_rfl) rfl)
      obtain ⟨⟨F1, x1, x2, x3⟩, x4⟩ := _root_.id hJ
      obtain ⟨K, hinv⟩ := HH.out.inv
      exact (rMake_any x2 HH.out.rel hinv zi zid zw zn zd zp cc xs hm (hcY.out X x4).1 ((hcY.out X x4).2 F1 x3)).mono fun e W' ⟨he, hd'⟩ => ⟨_, he, .inr ⟨(HJ.two HH.out hJ hbW x1 x2 hd').1, (HJ.two HH.out hJ hbW x1 x2 hd').2, .inr rfl⟩, rfl⟩
    | 25, ho =>
      obtain rfl : _ = o := Option.some.inj ho
      obtain rfl : 46 = d := Option.some.inj hd
      have g33 : a'.eval (.tmp 33) = .int .i64 (makeS S L.length zi zid zw zn zd xs) := hG ⟨12, .data⟩ (by simp) rfl 33 rfl
      have g45 : a'.eval (.tmp 45) = .int .i64 (makeS S L.length zi zid zw zn zd xs) := hG ⟨24, .data⟩ (by simp) rfl 45 rfl
      refine ⟨rfl, .inl ⟨.bool true, X, ?_, ⟨Below.refl _ _, by decide, by decide⟩, rfl⟩⟩
      obtain ⟨ev, hev⟩ : ∃ ev, a'.eval = ev := ⟨_, rfl⟩
      rw [hev] at g33 g45 ⊢
      clear hev hG hk hs
      obtain ⟨c1, c2, c3, c4, c5, c6⟩ := cW X hB
      go_simp
    | 26, ho =>
      obtain rfl : _ = o := Option.some.inj ho
      obtain rfl : 6 = d := Option.some.inj hd
      have g21 : a'.eval (.tmp 21) = .pointer (some ⟨tb, 0, none⟩) := hG ⟨0, .data⟩ (by simp) rfl 21 rfl
      refine ⟨rfl, .inl ⟨.pointer (some ⟨tb, 0, none⟩), X, ?_, ⟨Below.refl _ _, by decide, by decide⟩, rfl⟩⟩
      obtain ⟨ev, hev⟩ : ∃ ev, a'.eval = ev := ⟨_, rfl⟩
      rw [hev] at g21 ⊢
      clear hev hG hk hs
      obtain ⟨c1, c2, c3, c4, c5, c6⟩ := cW X hB
      go_simp
    | 27, ho =>
      obtain rfl : _ = o := Option.some.inj ho
      obtain rfl : 7 = d := Option.some.inj hd
      have g46 : a'.eval (.tmp 46) = .bool true := hG ⟨25, .data⟩ (by simp) rfl 46 rfl
      refine ⟨rfl, .inl ⟨.bool true, X, ?_, ⟨Below.refl _ _, by decide, by decide⟩, rfl⟩⟩
      obtain ⟨ev, hev⟩ : ∃ ev, a'.eval = ev := ⟨_, rfl⟩
      rw [hev] at g46 ⊢
      clear hev hG hk hs
      obtain ⟨c1, c2, c3, c4, c5, c6⟩ := cW X hB
      go_simp
    | j + 28, ho => simp at ho
  · intro a' X hJ hB hs hdf hk hG
    obtain ⟨tm, df⟩ := a'
    obtain rfl : df = [] := hdf
    have e0 : tm.getD 0 undef = .pointer (some ⟨tb, 0, none⟩) := hk 0 (by kernel_rfl)
    have e1 : tm.getD 1 undef = .pointer (some ⟨rb, 0, none⟩) := hk 1 (by kernel_rfl)
    have e2 : tm.getD 2 undef = .agg #[.int .i64 1, .int .i64 zi, .int .i64 zid, .int .i64 zw, .int .i64 zn, .int .i64 zd, .slice zp xs.length cc] := hk 2 (by kernel_rfl)
    have e3 : tm.getD 3 undef = undef := hk 3 (by kernel_rfl)
    have e4 : tm.getD 4 undef = undef := hk 4 (by kernel_rfl)
    have e5 : tm.getD 5 undef = .pointer (some ⟨w.heap.size, 0, none⟩) := hk 5 (by kernel_rfl)
    have e8 : tm.getD 8 undef = undef := hk 8 (by kernel_rfl)
    have e9 : tm.getD 9 undef = undef := hk 9 (by kernel_rfl)
    have e10 : tm.getD 10 undef = undef := hk 10 (by kernel_rfl)
    have e11 : tm.getD 11 undef = undef := hk 11 (by kernel_rfl)
    have e12 : tm.getD 12 undef = undef := hk 12 (by kernel_rfl)
    have e13 : tm.getD 13 undef = undef := hk 13 (by kernel_rfl)
    have e14 : tm.getD 14 undef = undef := hk 14 (by kernel_rfl)
    have e15 : tm.getD 15 undef = undef := hk 15 (by kernel_rfl)
    have e16 : tm.getD 16 undef = undef := hk 16 (by kernel_rfl)
    have e17 : tm.getD 17 undef = .pointer (some ⟨w.heap.size, 0, none⟩) := hk 17 (by kernel_rfl)
    have e18 : tm.getD 18 undef = .int .i64 1 := hk 18 (by kernel_rfl)
    have e19 : tm.getD 19 undef = .bool true := hk 19 (by kernel_rfl)
    have e20 : tm.getD 20 undef = .bool true := hk 20 (by kernel_rfl)
    have e47 : tm.getD 47 undef = undef := hk 47 (by kernel_rfl)
    have e48 : tm.getD 48 undef = undef := hk 48 (by kernel_rfl)
    have e49 : tm.getD 49 undef = undef := hk 49 (by kernel_rfl)
    have e50 : tm.getD 50 undef = undef := hk 50 (by kernel_rfl)
    have e51 : tm.getD 51 undef = undef := hk 51 (by kernel_rfl)
    have e52 : tm.getD 52 undef = undef := hk 52 (by kernel_rfl)
    have e53 : tm.getD 53 undef = undef := hk 53 (by kernel_rfl)
    have e54 : tm.getD 54 undef = undef := hk 54 (by kernel_rfl)
    have e55 : tm.getD 55 undef = undef := hk 55 (by kernel_rfl)
    have e56 : tm.getD 56 undef = undef := hk 56 (by kernel_rfl)
    have e57 : tm.getD 57 undef = undef := hk 57 (by kernel_rfl)
    have e58 : tm.getD 58 undef = undef := hk 58 (by kernel_rfl)
    have e59 : tm.getD 59 undef = undef := hk 59 (by kernel_rfl)
    have e60 : tm.getD 60 undef = undef := hk 60 (by kernel_rfl)
    have e61 : tm.getD 61 undef = undef := hk 61 (by kernel_rfl)
    have e62 : tm.getD 62 undef = undef := hk 62 (by kernel_rfl)
    have e63 : tm.getD 63 undef = undef := hk 63 (by kernel_rfl)
    have e64 : tm.getD 64 undef = undef := hk 64 (by kernel_rfl)
    have e65 : tm.getD 65 undef = undef := hk 65 (by kernel_rfl)
    have e66 : tm.getD 66 undef = undef := hk 66 (by kernel_rfl)
    have e67 : tm.getD 67 undef = undef := hk 67 (by kernel_rfl)
    have e68 : tm.getD 68 undef = undef := hk 68 (by kernel_rfl)
    have e69 : tm.getD 69 undef = undef := hk 69 (by kernel_rfl)
    have e70 : tm.getD 70 undef = undef := hk 70 (by kernel_rfl)
    have e71 : tm.getD 71 undef = undef := hk 71 (by kernel_rfl)
    have e72 : tm.getD 72 undef = undef := hk 72 (by kernel_rfl)
    have e73 : tm.getD 73 undef = undef := hk 73 (by kernel_rfl)
    have e74 : tm.getD 74 undef = undef := hk 74 (by kernel_rfl)
    have e75 : tm.getD 75 undef = undef := hk 75 (by kernel_rfl)
    have e76 : tm.getD 76 undef = undef := hk 76 (by kernel_rfl)
    have e77 : tm.getD 77 undef = undef := hk 77 (by kernel_rfl)
    have e78 : tm.getD 78 undef = undef := hk 78 (by kernel_rfl)
    have e79 : tm.getD 79 undef = undef := hk 79 (by kernel_rfl)
    have e80 : tm.getD 80 undef = undef := hk 80 (by kernel_rfl)
    have e81 : tm.getD 81 undef = undef := hk 81 (by kernel_rfl)
    have e82 : tm.getD 82 undef = undef := hk 82 (by kernel_rfl)
    have e83 : tm.getD 83 undef = undef := hk 83 (by kernel_rfl)
    have e84 : tm.getD 84 undef = undef := hk 84 (by kernel_rfl)
    have e85 : tm.getD 85 undef = undef := hk 85 (by kernel_rfl)
    have e86 : tm.getD 86 undef = undef := hk 86 (by kernel_rfl)
    have e87 : tm.getD 87 undef = undef := hk 87 (by kernel_rfl)
    have e88 : tm.getD 88 undef = undef := hk 88 (by kernel_rfl)
    have e89 : tm.getD 89 undef = undef := hk 89 (by kernel_rfl)
    have e90 : tm.getD 90 undef = undef := hk 90 (by kernel_rfl)
    have e91 : tm.getD 91 undef = undef := hk 91 (by kernel_rfl)
    have e92 : tm.getD 92 undef = undef := hk 92 (by kernel_rfl)
    have e93 : tm.getD 93 undef = undef := hk 93 (by kernel_rfl)
    have e94 : tm.getD 94 undef = undef := hk 94 (by kernel_rfl)
    have e95 : tm.getD 95 undef = undef := hk 95 (by kernel_rfl)
    have e96 : tm.getD 96 undef = undef := hk 96 (by kernel_rfl)
    have e97 : tm.getD 97 undef = undef := hk 97 (by kernel_rfl)
    have e98 : tm.getD 98 undef = undef := hk 98 (by kernel_rfl)
    have e99 : tm.getD 99 undef = undef := hk 99 (by kernel_rfl)
    have e100 : tm.getD 100 undef = undef := hk 100 (by kernel_rfl)
    have e101 : tm.getD 101 undef = undef := hk 101 (by kernel_rfl)
    have e102 : tm.getD 102 undef = undef := hk 102 (by kernel_rfl)
    have e103 : tm.getD 103 undef = undef := hk 103 (by kernel_rfl)
    have e104 : tm.getD 104 undef = undef := hk 104 (by kernel_rfl)
    have e105 : tm.getD 105 undef = undef := hk 105 (by kernel_rfl)
    have e106 : tm.getD 106 undef = undef := hk 106 (by kernel_rfl)
    have e107 : tm.getD 107 undef = undef := hk 107 (by kernel_rfl)
    have e108 : tm.getD 108 undef = undef := hk 108 (by kernel_rfl)
    have e109 : tm.getD 109 undef = undef := hk 109 (by kernel_rfl)
    have e110 : tm.getD 110 undef = undef := hk 110 (by kernel_rfl)
    have e111 : tm.getD 111 undef = undef := hk 111 (by kernel_rfl)
    have e112 : tm.getD 112 undef = undef := hk 112 (by kernel_rfl)
    have e113 : tm.getD 113 undef = undef := hk 113 (by kernel_rfl)
    have e114 : tm.getD 114 undef = undef := hk 114 (by kernel_rfl)
    have e115 : tm.getD 115 undef = undef := hk 115 (by kernel_rfl)
    have e116 : tm.getD 116 undef = undef := hk 116 (by kernel_rfl)
    have e117 : tm.getD 117 undef = undef := hk 117 (by kernel_rfl)
    have e118 : tm.getD 118 undef = undef := hk 118 (by kernel_rfl)
    have e119 : tm.getD 119 undef = undef := hk 119 (by kernel_rfl)
    have e120 : tm.getD 120 undef = undef := hk 120 (by kernel_rfl)
    have e121 : tm.getD 121 undef = undef := hk 121 (by kernel_rfl)
    have e122 : tm.getD 122 undef = undef := hk 122 (by kernel_rfl)
    have e123 : tm.getD 123 undef = undef := hk 123 (by kernel_rfl)
    have e124 : tm.getD 124 undef = undef := hk 124 (by kernel_rfl)
    have e125 : tm.getD 125 undef = undef := hk 125 (by kernel_rfl)
    have e126 : tm.getD 126 undef = undef := hk 126 (by kernel_rfl)
    have e127 : tm.getD 127 undef = undef := hk 127 (by kernel_rfl)
    have e128 : tm.getD 128 undef = undef := hk 128 (by kernel_rfl)
    have e129 : tm.getD 129 undef = undef := hk 129 (by kernel_rfl)
    have e130 : tm.getD 130 undef = undef := hk 130 (by kernel_rfl)
    have e131 : tm.getD 131 undef = undef := hk 131 (by kernel_rfl)
    have e132 : tm.getD 132 undef = undef := hk 132 (by kernel_rfl)
    have e133 : tm.getD 133 undef = undef := hk 133 (by kernel_rfl)
    have e134 : tm.getD 134 undef = undef := hk 134 (by kernel_rfl)
    have e135 : tm.getD 135 undef = undef := hk 135 (by kernel_rfl)
    have e136 : tm.getD 136 undef = undef := hk 136 (by kernel_rfl)
    have e137 : tm.getD 137 undef = undef := hk 137 (by kernel_rfl)
    have e138 : tm.getD 138 undef = undef := hk 138 (by kernel_rfl)
    have e139 : tm.getD 139 undef = undef := hk 139 (by kernel_rfl)
    have e140 : tm.getD 140 undef = undef := hk 140 (by kernel_rfl)
    have e141 : tm.getD 141 undef = undef := hk 141 (by kernel_rfl)
    have e142 : tm.getD 142 undef = undef := hk 142 (by kernel_rfl)
    have e143 : tm.getD 143 undef = undef := hk 143 (by kernel_rfl)
    have e144 : tm.getD 144 undef = undef := hk 144 (by kernel_rfl)
    have e145 : tm.getD 145 undef = undef := hk 145 (by kernel_rfl)
    have e146 : tm.getD 146 undef = undef := hk 146 (by kernel_rfl)
    have e147 : tm.getD 147 undef = undef := hk 147 (by kernel_rfl)
    have e148 : tm.getD 148 undef = undef := hk 148 (by kernel_rfl)
    have e149 : tm.getD 149 undef = undef := hk 149 (by kernel_rfl)
    have e150 : tm.getD 150 undef = undef := hk 150 (by kernel_rfl)
    have e151 : tm.getD 151 undef = undef := hk 151 (by kernel_rfl)
    have e152 : tm.getD 152 undef = undef := hk 152 (by kernel_rfl)
    have e153 : tm.getD 153 undef = undef := hk 153 (by kernel_rfl)
    have e154 : tm.getD 154 undef = undef := hk 154 (by kernel_rfl)
    have e155 : tm.getD 155 undef = undef := hk 155 (by kernel_rfl)
    have e156 : tm.getD 156 undef = undef := hk 156 (by kernel_rfl)
    have e157 : tm.getD 157 undef = undef := hk 157 (by kernel_rfl)
    have e158 : tm.getD 158 undef = undef := hk 158 (by kernel_rfl)
    have e159 : tm.getD 159 undef = undef := hk 159 (by kernel_rfl)
    have e160 : tm.getD 160 undef = undef := hk 160 (by kernel_rfl)
    have e161 : tm.getD 161 undef = undef := hk 161 (by kernel_rfl)
    have e162 : tm.getD 162 undef = undef := hk 162 (by kernel_rfl)
    have e163 : tm.getD 163 undef = undef := hk 163 (by kernel_rfl)
    have e164 : tm.getD 164 undef = undef := hk 164 (by kernel_rfl)
    have e165 : tm.getD 165 undef = undef := hk 165 (by kernel_rfl)
    have e166 : tm.getD 166 undef = undef := hk 166 (by kernel_rfl)
    have e167 : tm.getD 167 undef = undef := hk 167 (by kernel_rfl)
    have e168 : tm.getD 168 undef = undef := hk 168 (by kernel_rfl)
    have e169 : tm.getD 169 undef = undef := hk 169 (by kernel_rfl)
    have e170 : tm.getD 170 undef = undef := hk 170 (by kernel_rfl)
    have e171 : tm.getD 171 undef = undef := hk 171 (by kernel_rfl)
    have e172 : tm.getD 172 undef = undef := hk 172 (by kernel_rfl)
    have g21 : (tm.getD 21 undef) = .pointer (some ⟨tb, 0, none⟩) := hG 0 21 (by decide) rfl
    have g22 : (tm.getD 22 undef) = .pointer (some ⟨tb, 0, none⟩) := hG 1 22 (by decide) rfl
    have g23 : (tm.getD 23 undef) = .pointer (some ⟨w.heap.size, 1, none⟩) := hG 2 23 (by decide) rfl
    have g24 : (tm.getD 24 undef) = .int .i64 zi := hG 3 24 (by decide) rfl
    have g25 : (tm.getD 25 undef) = .pointer (some ⟨w.heap.size, 2, none⟩) := hG 4 25 (by decide) rfl
    have g26 : (tm.getD 26 undef) = .int .i64 zid := hG 5 26 (by decide) rfl
    have g27 : (tm.getD 27 undef) = .pointer (some ⟨w.heap.size, 3, none⟩) := hG 6 27 (by decide) rfl
    have g28 : (tm.getD 28 undef) = .int .i64 zw := hG 7 28 (by decide) rfl
    have g29 : (tm.getD 29 undef) = .pointer (some ⟨w.heap.size, 4, none⟩) := hG 8 29 (by decide) rfl
    have g30 : (tm.getD 30 undef) = .int .i64 zn := hG 9 30 (by decide) rfl
    have g31 : (tm.getD 31 undef) = .pointer (some ⟨w.heap.size, 5, none⟩) := hG 10 31 (by decide) rfl
    have g32 : (tm.getD 32 undef) = .agg #[.int .i64 zd, .slice zp xs.length cc] := hG 11 32 (by decide) rfl
    have g33 : (tm.getD 33 undef) = .int .i64 (makeS S L.length zi zid zw zn zd xs) := hG 12 33 (by decide) rfl
    have g34 : (tm.getD 34 undef) = .pointer (some ⟨rb, 0, none⟩) := hG 13 34 (by decide) rfl
    have g35 : (tm.getD 35 undef) = .pointer (some ⟨w.heap.size, 1, none⟩) := hG 14 35 (by decide) rfl
    have g36 : (tm.getD 36 undef) = .int .i64 zi := hG 15 36 (by decide) rfl
    have g37 : (tm.getD 37 undef) = .pointer (some ⟨w.heap.size, 2, none⟩) := hG 16 37 (by decide) rfl
    have g38 : (tm.getD 38 undef) = .int .i64 zid := hG 17 38 (by decide) rfl
    have g39 : (tm.getD 39 undef) = .pointer (some ⟨w.heap.size, 3, none⟩) := hG 18 39 (by decide) rfl
    have g40 : (tm.getD 40 undef) = .int .i64 zw := hG 19 40 (by decide) rfl
    have g41 : (tm.getD 41 undef) = .pointer (some ⟨w.heap.size, 4, none⟩) := hG 20 41 (by decide) rfl
    have g42 : (tm.getD 42 undef) = .int .i64 zn := hG 21 42 (by decide) rfl
    have g43 : (tm.getD 43 undef) = .pointer (some ⟨w.heap.size, 5, none⟩) := hG 22 43 (by decide) rfl
    have g44 : (tm.getD 44 undef) = .agg #[.int .i64 zd, .slice zp xs.length cc] := hG 23 44 (by decide) rfl
    have g45 : (tm.getD 45 undef) = .int .i64 (makeS S L.length zi zid zw zn zd xs) := hG 24 45 (by decide) rfl
    have g46 : (tm.getD 46 undef) = .bool true := hG 25 46 (by decide) rfl
    have g6 : (tm.getD 6 undef) = .pointer (some ⟨tb, 0, none⟩) := hG 26 6 (by decide) rfl
    have g7 : (tm.getD 7 undef) = .bool true := hG 27 7 (by decide) rfl
    have htm := arr_of tm ((.pointer (some ⟨tb, 0, none⟩) : Value) :: (.pointer (some ⟨rb, 0, none⟩) : Value) :: (.agg #[.int .i64 1, .int .i64 zi, .int .i64 zid, .int .i64 zw, .int .i64 zn, .int .i64 zd, .slice zp xs.length cc] : Value) :: (undef : Value) :: (undef : Value) :: (.pointer (some ⟨w.heap.size, 0, none⟩) : Value) :: (tm.getD 6 undef : Value) :: (tm.getD 7 undef : Value) :: (undef : Value) :: (undef : Value) :: (undef : Value) :: (undef : Value) :: (undef : Value) :: (undef : Value) :: (undef : Value) :: (undef : Value) :: (undef : Value) :: (.pointer (some ⟨w.heap.size, 0, none⟩) : Value) :: (.int .i64 1 : Value) :: (.bool true : Value) :: (.bool true : Value) :: (tm.getD 21 undef : Value) :: (tm.getD 22 undef : Value) :: (tm.getD 23 undef : Value) :: (tm.getD 24 undef : Value) :: (tm.getD 25 undef : Value) :: (tm.getD 26 undef : Value) :: (tm.getD 27 undef : Value) :: (tm.getD 28 undef : Value) :: (tm.getD 29 undef : Value) :: (tm.getD 30 undef : Value) :: (tm.getD 31 undef : Value) :: (tm.getD 32 undef : Value) :: (tm.getD 33 undef : Value) :: (tm.getD 34 undef : Value) :: (tm.getD 35 undef : Value) :: (tm.getD 36 undef : Value) :: (tm.getD 37 undef : Value) :: (tm.getD 38 undef : Value) :: (tm.getD 39 undef : Value) :: (tm.getD 40 undef : Value) :: (tm.getD 41 undef : Value) :: (tm.getD 42 undef : Value) :: (tm.getD 43 undef : Value) :: (tm.getD 44 undef : Value) :: (tm.getD 45 undef : Value) :: (tm.getD 46 undef : Value) :: (undef : Value) :: (undef : Value) :: (undef : Value) :: (undef : Value) :: (undef : Value) :: (undef : Value) :: (undef : Value) :: (undef : Value) :: (undef : Value) :: (undef : Value) :: (undef : Value) :: (undef : Value) :: (undef : Value) :: (undef : Value) :: (undef : Value) :: (undef : Value) :: (undef : Value) :: (undef : Value) :: (undef : Value) :: (undef : Value) :: (undef : Value) :: (undef : Value) :: (undef : Value) :: (undef : Value) :: (undef : Value) :: (undef : Value) :: (undef : Value) :: (undef : Value) :: (undef : Value) :: (undef : Value) :: (undef : Value) :: (undef : Value) :: (undef : Value) :: (undef : Value) :: (undef : Value) :: (undef : Value) :: (undef : Value) :: (undef : Value) :: (undef : Value) :: (undef : Value) :: (undef : Value) :: (undef : Value) :: (undef : Value) :: (undef : Value) :: (undef : Value) :: (undef : Value) :: (undef : Value) :: (undef : Value) :: (undef : Value) :: (undef : Value) :: (undef : Value) :: (undef : Value) :: (undef : Value) :: (undef : Value) :: (undef : Value) :: (undef : Value) :: (undef : Value) :: (undef : Value) :: (undef : Value) :: (undef : Value) :: (undef : Value) :: (undef : Value) :: (undef : Value) :: (undef : Value) :: (undef : Value) :: (undef : Value) :: (undef : Value) :: (undef : Value) :: (undef : Value) :: (undef : Value) :: (undef : Value) :: (undef : Value) :: (undef : Value) :: (undef : Value) :: (undef : Value) :: (undef : Value) :: (undef : Value) :: (undef : Value) :: (undef : Value) :: (undef : Value) :: (undef : Value) :: (undef : Value) :: (undef : Value) :: (undef : Value) :: (undef : Value) :: (undef : Value) :: (undef : Value) :: (undef : Value) :: (undef : Value) :: (undef : Value) :: (undef : Value) :: (undef : Value) :: (undef : Value) :: (undef : Value) :: (undef : Value) :: (undef : Value) :: (undef : Value) :: (undef : Value) :: (undef : Value) :: (undef : Value) :: (undef : Value) :: (undef : Value) :: (undef : Value) :: (undef : Value) :: (undef : Value) :: (undef : Value) :: (undef : Value) :: (undef : Value) :: (undef : Value) :: (undef : Value) :: (undef : Value) :: (undef : Value) :: (undef : Value) :: (undef : Value) :: (undef : Value) :: (undef : Value) :: (undef : Value) :: (undef : Value) :: (undef : Value) :: (undef : Value) :: (undef : Value) :: (undef : Value) :: (undef : Value) :: (undef : Value) :: (undef : Value) :: (undef : Value) :: []) hs (by show (tm.getD 0 undef :: tm.getD 1 undef :: tm.getD 2 undef :: tm.getD 3 undef :: tm.getD 4 undef :: tm.getD 5 undef :: tm.getD 6 undef :: tm.getD 7 undef :: tm.getD 8 undef :: tm.getD 9 undef :: tm.getD 10 undef :: tm.getD 11 undef :: tm.getD 12 undef :: tm.getD 13 undef :: tm.getD 14 undef :: tm.getD 15 undef :: tm.getD 16 undef :: tm.getD 17 undef :: tm.getD 18 undef :: tm.getD 19 undef :: tm.getD 20 undef :: tm.getD 21 undef :: tm.getD 22 undef :: tm.getD 23 undef :: tm.getD 24 undef :: tm.getD 25 undef :: tm.getD 26 undef :: tm.getD 27 undef :: tm.getD 28 undef :: tm.getD 29 undef :: tm.getD 30 undef :: tm.getD 31 undef :: tm.getD 32 undef :: tm.getD 33 undef :: tm.getD 34 undef :: tm.getD 35 undef :: tm.getD 36 undef :: tm.getD 37 undef :: tm.getD 38 undef :: tm.getD 39 undef :: tm.getD 40 undef :: tm.getD 41 undef :: tm.getD 42 undef :: tm.getD 43 undef :: tm.getD 44 undef :: tm.getD 45 undef :: tm.getD 46 undef :: tm.getD 47 undef :: tm.getD 48 undef :: tm.getD 49 undef :: tm.getD 50 undef :: tm.getD 51 undef :: tm.getD 52 undef :: tm.getD 53 undef :: tm.getD 54 undef :: tm.getD 55 undef :: tm.getD 56 undef :: tm.getD 57 undef :: tm.getD 58 undef :: tm.getD 59 undef :: tm.getD 60 undef :: tm.getD 61 undef :: tm.getD 62 undef :: tm.getD 63 undef :: tm.getD 64 undef :: tm.getD 65 undef :: tm.getD 66 undef :: tm.getD 67 undef :: tm.getD 68 undef :: tm.getD 69 undef :: tm.getD 70 undef :: tm.getD 71 undef :: tm.getD 72 undef :: tm.getD 73 undef :: tm.getD 74 undef :: tm.getD 75 undef :: tm.getD 76 undef :: tm.getD 77 undef :: tm.getD 78 undef :: tm.getD 79 undef :: tm.getD 80 undef :: tm.getD 81 undef :: tm.getD 82 undef :: tm.getD 83 undef :: tm.getD 84 undef :: tm.getD 85 undef :: tm.getD 86 undef :: tm.getD 87 undef :: tm.getD 88 undef :: tm.getD 89 undef :: tm.getD 90 undef :: tm.getD 91 undef :: tm.getD 92 undef :: tm.getD 93 undef :: tm.getD 94 undef :: tm.getD 95 undef :: tm.getD 96 undef :: tm.getD 97 undef :: tm.getD 98 undef :: tm.getD 99 undef :: tm.getD 100 undef :: tm.getD 101 undef :: tm.getD 102 undef :: tm.getD 103 undef :: tm.getD 104 undef :: tm.getD 105 undef :: tm.getD 106 undef :: tm.getD 107 undef :: tm.getD 108 undef :: tm.getD 109 undef :: tm.getD 110 undef :: tm.getD 111 undef :: tm.getD 112 undef :: tm.getD 113 undef :: tm.getD 114 undef :: tm.getD 115 undef :: tm.getD 116 undef :: tm.getD 117 undef :: tm.getD 118 undef :: tm.getD 119 undef :: tm.getD 120 undef :: tm.getD 121 undef :: tm.getD 122 undef :: tm.getD 123 undef :: tm.getD 124 undef :: tm.getD 125 undef :: tm.getD 126 undef :: tm.getD 127 undef :: tm.getD 128 undef :: tm.getD 129 undef :: tm.getD 130 undef :: tm.getD 131 undef :: tm.getD 132 undef :: tm.getD 133 undef :: tm.getD 134 undef :: tm.getD 135 undef :: tm.getD 136 undef :: tm.getD 137 undef :: tm.getD 138 undef :: tm.getD 139 undef :: tm.getD 140 undef :: tm.getD 141 undef :: tm.getD 142 undef :: tm.getD 143 undef :: tm.getD 144 undef :: tm.getD 145 undef :: tm.getD 146 undef :: tm.getD 147 undef :: tm.getD 148 undef :: tm.getD 149 undef :: tm.getD 150 undef :: tm.getD 151 undef :: tm.getD 152 undef :: tm.getD 153 undef :: tm.getD 154 undef :: tm.getD 155 undef :: tm.getD 156 undef :: tm.getD 157 undef :: tm.getD 158 undef :: tm.getD 159 undef :: tm.getD 160 undef :: tm.getD 161 undef :: tm.getD 162 undef :: tm.getD 163 undef :: tm.getD 164 undef :: tm.getD 165 undef :: tm.getD 166 undef :: tm.getD 167 undef :: tm.getD 168 undef :: tm.getD 169 undef :: tm.getD 170 undef :: tm.getD 171 undef :: tm.getD 172 undef :: []) = _; rw [e0, e1, e2, e3, e4, e5, e8, e9, e10, e11, e12, e13, e14, e15, e16, e17, e18, e19, e20, e47, e48, e49, e50, e51, e52, e53, e54, e55, e56, e57, e58, e59, e60, e61, e62, e63, e64, e65, e66, e67, e68, e69, e70, e71, e72, e73, e74, e75, e76, e77, e78, e79, e80, e81, e82, e83, e84, e85, e86, e87, e88, e89, e90, e91, e92, e93, e94, e95, e96, e97, e98, e99, e100, e101, e102, e103, e104, e105, e106, e107, e108, e109, e110, e111, e112, e113, e114, e115, e116, e117, e118, e119, e120, e121, e122, e123, e124, e125, e126, e127, e128, e129, e130, e131, e132, e133, e134, e135, e136, e137, e138, e139, e140, e141, e142, e143, e144, e145, e146, e147, e148, e149, e150, e151, e152, e153, e154, e155, e156, e157, e158, e159, e160, e161, e162, e163, e164, e165, e166, e167, e168, e169, e170, e171, e172]; try rfl)
    clear hs hk hG e0 e1 e2 e3 e4 e5 e8 e9 e10 e11 e12 e13 e14 e15 e16 e17 e18 e19 e20 e47 e48 e49 e50 e51 e52 e53 e54 e55 e56 e57 e58 e59 e60 e61 e62 e63 e64 e65 e66 e67 e68 e69 e70 e71 e72 e73 e74 e75 e76 e77 e78 e79 e80 e81 e82 e83 e84 e85 e86 e87 e88 e89 e90 e91 e92 e93 e94 e95 e96 e97 e98 e99 e100 e101 e102 e103 e104 e105 e106 e107 e108 e109 e110 e111 e112 e113 e114 e115 e116 e117 e118 e119 e120 e121 e122 e123 e124 e125 e126 e127 e128 e129 e130 e131 e132 e133 e134 e135 e136 e137 e138 e139 e140 e141 e142 e143 e144 e145 e146 e147 e148 e149 e150 e151 e152 e153 e154 e155 e156 e157 e158 e159 e160 e161 e162 e163 e164 e165 e166 e167 e168 e169 e170 e171 e172
    generalize tm.getD 21 undef = t21 at htm g21
    generalize tm.getD 22 undef = t22 at htm g22
    generalize tm.getD 23 undef = t23 at htm g23
    generalize tm.getD 24 undef = t24 at htm g24
    generalize tm.getD 25 undef = t25 at htm g25
    generalize tm.getD 26 undef = t26 at htm g26
    generalize tm.getD 27 undef = t27 at htm g27
    generalize tm.getD 28 undef = t28 at htm g28
    generalize tm.getD 29 undef = t29 at htm g29
    generalize tm.getD 30 undef = t30 at htm g30
    generalize tm.getD 31 undef = t31 at htm g31
    generalize tm.getD 32 undef = t32 at htm g32
    generalize tm.getD 33 undef = t33 at htm g33
    generalize tm.getD 34 undef = t34 at htm g34
    generalize tm.getD 35 undef = t35 at htm g35
    generalize tm.getD 36 undef = t36 at htm g36
    generalize tm.getD 37 undef = t37 at htm g37
    generalize tm.getD 38 undef = t38 at htm g38
    generalize tm.getD 39 undef = t39 at htm g39
    generalize tm.getD 40 undef = t40 at htm g40
    generalize tm.getD 41 undef = t41 at htm g41
    generalize tm.getD 42 undef = t42 at htm g42
    generalize tm.getD 43 undef = t43 at htm g43
    generalize tm.getD 44 undef = t44 at htm g44
    generalize tm.getD 45 undef = t45 at htm g45
    generalize tm.getD 46 undef = t46 at htm g46
    generalize tm.getD 6 undef = t6 at htm g6
    generalize tm.getD 7 undef = t7 at htm g7
    subst htm
    subst g21
    subst g22
    subst g23
    subst g24
    subst g25
    subst g26
    subst g27
    subst g28
    subst g29
    subst g30
    subst g31
    subst g32
    subst g33
    subst g34
    subst g35
    subst g36
    subst g37
    subst g38
    subst g39
    subst g40
    subst g41
    subst g42
    subst g43
    subst g44
    subst g45
    subst g46
    subst g6
    subst g7
    have HJ2 := Lib.hid hJ
    clear hJ hB
    go_wp2_with fail
    go_ret2
    obtain ⟨⟨F', g', cap', cs', L', hb⟩, hw⟩ := HJ2.out
    exact ⟨rfl, ⟨F', _, g', cap', cs', L', hb⟩, (HB1.out.mono HH.out.bw).trans hw⟩
end Go.Proofs.Ytebcnlhgkpaghaa
/- A step of the law: drop. -/
namespace Go.Proofs.Ytebcnlhgkpaghaa
open Go.RowKit Go.Sort
section
variable {w : World} {rb g cap : Nat} {cs : Array Value} {root : Int} {L : List Th} {F : Nat → Prop} {S : Abs} {K : List Int}
set_option maxRecDepth 100000 in
set_option maxHeartbeats 2000000 in
theorem rDrop_no (h : RS w rb g cap cs root L F) (hr : RelD S L []) (i x : Int) (he : entC S i x ≠ 0) :
    Calls Try.prog 21 #[.pointer (some ⟨rb, 0, none⟩), .int .i64 i, .int .i64 x] w fun e w' => e = .returned (.tuple #[.slice none 0 0, .int .i64 (entC S i x)]) ∧ w' = w := by
  obtain ⟨h0, h1⟩ := h.hd
  have hLn := h.lim.1
  cases hS : S i with
  | none =>
    have HB := Lib.hid (rbox_none h i (hr.nopos hS))
    have HE : Hid (entC S i x = 4) := by simp only [Hid]; unfold entC; rw [hS]
    clear h hr
    go_enter Try.func21, Try.ntmps21
    go_wp2_with (go_at_call 50; with_reducible refine Calls.mono HB.out ?_; rintro e w' ⟨rfl, hw'⟩; rw [hw']; clear hw' w')
    go_ret2
    exact ⟨by rw [HE.out]; rfl, rfl⟩
  | some o =>
    obtain ⟨k, hk, e, m⟩ := hr.pos hS
    have HB := Lib.hid (rbox_some h i k hk e)
    rw [← m.1] at HB
    obtain ⟨_, _, _, _, _, c5⟩ := h.six hk
    have hI := (h.cat _ (List.getElem_mem hk)).2
    have hl := (h.lim.2 _ (List.getElem_mem hk)).2
    rw [← m.2.2.2.2] at c5 hI hl
    have HIn := Lib.hid (In_any w L[k].lp L[k].lc o.ents x hI hl)
    have hki : (k : Int) < (L.length : Int) := by omega
    generalize L[k].lp = lp at c5 HIn
    generalize L[k].lc = lc at c5 HIn
    clear h hr hI hl m e
    by_cases hk1 : o.kind = 1
    · rw [if_pos hk1] at HB
      have hin : inB o.ents x = false := by
        cases hb : inB o.ents x with
        | false => rfl
        | true => exact absurd (by unfold entC; rw [hS]; simp [hk1, hb]) he
      rw [hin] at HIn
      have HE : Hid (entC S i x = 4) := by simp only [Hid]; unfold entC; rw [hS]; simp [hk1, hin]
      go_enter Try.func21, Try.ntmps21
      go_wp2_with (first | (go_at_call 50; with_reducible refine Calls.mono HB.out ?_; rintro e w' ⟨rfl, hw'⟩; rw [hw']; clear hw' w') | (go_at_call 54; with_reducible refine Calls.mono HIn.out ?_; rintro e w' ⟨rfl, hw'⟩; rw [hw']; clear hw' w'))
      go_ret2
      exact ⟨by rw [HE.out]; rfl, rfl⟩
    · rw [if_neg hk1] at HB
      have HE : Hid (entC S i x = 5) := by simp only [Hid]; unfold entC; rw [hS]; simp [hk1]
      go_enter Try.func21, Try.ntmps21
      go_wp2_with (first | (go_at_call 50; with_reducible refine Calls.mono HB.out ?_; rintro e w' ⟨rfl, hw'⟩; rw [hw']; clear hw' w'))
      go_ret2
      exact ⟨by rw [HE.out]; rfl, rfl⟩
theorem rDrop_yes (h : RS w rb g cap cs root L F) (hr : RelD S L []) {o p : Ob} {i x : Int} {S' : Abs} {gg : List Int} (hi : Inv root S K) (hSi : S i = some o) (hk1 : o.kind = 1) (hxe : x ∈ o.ents) (hlo : loosS K.length (updS S i (dropO o p.quota x)) x [] = some (S', gg)) :
    Calls Try.prog 21 #[.pointer (some ⟨rb, 0, none⟩), .int .i64 i, .int .i64 x] w fun e w' => ∃ q c, e = .returned (.tuple #[.slice q gg.length c, .int .i64 0]) ∧ IntsAt w' q gg ∧ RStep w w' rb g root F S' := by
  obtain ⟨k, hk, e, m⟩ := hr.pos hSi
  refine (rDrop_any rb root K.length F w g cap cs L (updS S i (dropO o p.quota x)) K [] [] i x k S' gg h hk e (by rw [← m.1]; exact hk1) (by rw [← m.2.2.2.2]; exact hxe) (fun q c => ?_) (fun t ht => ?_) (hi.cutBal hSi hxe) (fun q c y => ?_) (Nat.le_refl _) hi.len (fun k' o' ho' hne => ?_) hlo).mono ?_
  · refine hr.set h.nd hk (t := cutT L[k] q c x) rfl (fun j hj => updS_ne _ _ (fun e2 => hj (e2.trans e.symm))) ⟨fun _ => ⟨dropO o p.quota x, ?_, ?_⟩, (fun hD => by cases hD)⟩
    · show updS S i _ L[k].id = _
      rw [e]; exact updS_at _ _ _
    · refine ⟨m.1, m.2.1, m.2.2.1, m.2.2.2.1, ?_⟩
      show without x o.ents = without x L[k].ents
      rw [m.2.2.2.2]
  · obtain ⟨o', ho', hm'⟩ := hr.yes t ht (by simp)
    rw [← hm'.2.2.2.2]; exact (hi.ok _ _ ho').nd
  · rw [pend_count, List.filter_eq_nil_iff.2 (by simp)]; rfl
  · by_cases e2 : k' = i
    · subst e2
      rw [updS_at] at ho'
      cases ho'
      exact hk1
    · rw [updS_ne _ _ e2] at ho'
      by_cases e3 : o'.kind = 1
      · exact e3
      · exact absurd ((hi.ok _ _ ho').non e3) hne
  · rintro e' w' ⟨q, c, he, hI, g2, cap2, cs2, L', r1, r2, _, _, _, r3⟩
    exact ⟨q, c, he, hI, g2, cap2, cs2, L', r1, r2, r3⟩
end
set_option maxRecDepth 100000 in
set_option maxHeartbeats 8000000 in
theorem stepH_drop {w : World} {b0 tb rb : Nat} {root : Int} {base mb : Nat} {F : Nat → Prop} {S : Abs} {g cap : Nat} {cs : Array Value} {L : List Th} (h : Bo w b0 tb rb root base mb F S g cap cs L) (zi zid zw zn zd : Int) (zp : Option Addr) (cc : Nat) (xs : List (Int × Int)) (ii : i64 zi) :
    Calls Try.prog 7 #[.pointer (some ⟨tb, 0, none⟩), .pointer (some ⟨rb, 0, none⟩), .agg #[.int .i64 3, .int .i64 zi, .int .i64 zid, .int .i64 zw, .int .i64 zn, .int .i64 zd, .slice zp xs.length cc]] w fun e w' => e = .returned (.tuple #[.pointer (some ⟨tb, 0, none⟩), .bool true]) ∧ (∃ F' S' g' cap' cs' L', Bo w' b0 tb rb root base mb F' S' g' cap' cs' L') ∧ Below b0 w w' := by
  have HH := Lib.hid h
  obtain ⟨W1, hW1⟩ : ∃ W1, w.alloc (.cells #[.int .i64 3, .int .i64 zi, .int .i64 zid, .int .i64 zw, .int .i64 zn, .int .i64 zd, .slice zp xs.length cc] 32) = W1 := ⟨_, rfl⟩
  have b1 : Below w.heap.size w W1 := by rw [← hW1]; exact (Below.refl _ _).alloc (Nat.le_refl _) _
  have hz : w.heap.size < W1.heap.size := by rw [← hW1]; simp
  have hO : W1.heap[w.heap.size]? = some (.cells #[.int .i64 3, .int .i64 zi, .int .i64 zid, .int .i64 zw, .int .i64 zn, .int .i64 zd, .slice zp xs.length cc] 32 (0, 0)) := by rw [← hW1]; exact heap_new _ _
  have d0 : W1.cell? ⟨w.heap.size, 0, none⟩ = some (.int .i64 3) := by simp [World.cell?, hO]
  have d1 : W1.cell? ⟨w.heap.size, 1, none⟩ = some (.int .i64 zi) := by simp [World.cell?, hO]
  have d2 : W1.cell? ⟨w.heap.size, 2, none⟩ = some (.int .i64 zid) := by simp [World.cell?, hO]
  have hB1 := h.below b1
  have HD := Lib.hid (drop_x hB1.hx zi zid ii)
  have HO := Lib.hid hO
  have HB1 := Lib.hid b1
  have HBo1 := Lib.hid hB1
  clear h hO b1 hB1
  go_enter Try.func7, Try.ntmps7
  go_wp2_with (go_at_call 12; with_reducible refine Calls.mono HD.out ?_; rintro e X1 ⟨gv, gg, S', rfl, hrow, hdid, hno, hyes⟩; refine Hid.out ?_)
  refine Lib.hid ?_
  obtain ⟨sp, cp, rfl⟩ := row_form hrow
  obtain ⟨F', hx1, hrs1, hbb1⟩ := HBo1.out.hold hdid
  have hopX : OpS w.heap.size W1 X1 := fun hk => by
    obtain ⟨F2, _, f2⟩ := hdid
    refine ⟨Nat.lt_of_lt_of_le hk f2.size, f2.same _ hk (fun e => ?_)⟩
    have := (HH.out.hx.lt e).2
    omega
  have e1 : X1.cell? ⟨w.heap.size, 1, none⟩ = some (.int .i64 zi) := op_cells HO.out hopX rfl
  have e2 : X1.cell? ⟨w.heap.size, 2, none⟩ = some (.int .i64 zid) := op_cells HO.out hopX rfl
  have hbW : b0 ≤ X1.heap.size := Nat.le_trans (Nat.le_trans HH.out.bw HB1.out.size) hbb1.size
  have hgl : gg.length < 1000000 := by
    by_cases hz0 : entC S zi zid = 0
    · obtain ⟨o, p, K, hSi, hk1, hxe, hSx, hinv, hlo⟩ := hyes hz0
      obtain ⟨_, _, e3, ⟨K', g3, e4, _, e5⟩, _⟩ := loos_total root K.length (updS S zi (dropO o p.quota zid)) K zid [] [] (hinv.cutBal hSi hxe) (Nat.le_refl _)
      rw [hlo] at e3
      cases e3
      have := e5.length_eq
      rw [List.nil_append] at e4
      rw [List.length_append] at this
      have := hinv.len
      rw [e4]; omega
    · rw [(hno hz0).2]; simp
  have HDr : Hid (Calls Try.prog 21 #[.pointer (some ⟨rb, 0, none⟩), .int .i64 zi, .int .i64 zid] X1 fun e w' => ∃ q c, e = .returned (.tuple #[.slice q gg.length c, .int .i64 (entC S zi zid)]) ∧ IntsAt w' q gg ∧ RStep X1 w' rb g root F' S') := by
    by_cases hz0 : entC S zi zid = 0
    · obtain ⟨o, p, K, hSi, hk1, hxe, hSx, hinv, hlo⟩ := hyes hz0
      rw [hz0]
      exact rDrop_yes hrs1 HBo1.out.rel hinv hSi hk1 hxe hlo
    · obtain ⟨eS, eg⟩ := hno hz0
      subst eS; subst eg
      exact (rDrop_no hrs1 HBo1.out.rel zi zid hz0).mono fun e w' ⟨a, b⟩ => ⟨none, 0, a, (fun j hj => by simp at hj), by rw [b]; exact RStep.still hrs1 HBo1.out.rel (Below.refl _ _)⟩
  have HROW := Lib.hid hrow
  have HX1 := Lib.hid hx1
  have HRS1 := Lib.hid hrs1
  have HBB1 := Lib.hid hbb1
  generalize entC S zi zid = ec at HDr ⊢
  clear hrow hdid hno hyes hx1 hrs1 hbb1 d0 d1 d2
  go_wp2_with (go_at_call 21; with_reducible refine Calls.mono HDr.out ?_; rintro e X2 ⟨q2, c2, rfl, hI2, hst⟩; refine Hid.out ?_)
  refine Lib.hid ?_
  obtain ⟨⟨g', cap', cs', L', hBo2⟩, hbb2⟩ := HBo1.out.refd HX1.out hbW hst HRS1.out
  have hrow2 : IntsAt X2 sp gg := by
    obtain ⟨_, _, _, _, _, _, r3⟩ := hst
    refine ints_keep (P := fun k => k = rb ∨ k = g) (row_ints HROW.out) (fun hn a ha hx => ?_) (fun k hk hn => r3.same k hk hn) r3.size
    subst ha
    have := (HROW.out.lt a.block rfl).1
    have := HH.out.rs.rl
    omega
  have HSS := Lib.hid (SameInts_irv (w := X2) (l := gg) (u := .slice sp gg.length cp) (v := .slice q2 gg.length c2) ⟨sp, cp, rfl, hrow2⟩ ⟨q2, c2, rfl, hI2⟩ hgl)
  have HBO := Lib.hid hBo2
  have HBB2 := Lib.hid hbb2
  clear hst hrow2 hI2 hBo2 hbb2 e1 e2
  go_wp2_with (go_at_call 22; with_reducible refine Calls.mono HSS.out ?_; rintro e X3 ⟨rfl, hb3⟩; have HB3 := Lib.hid hb3; clear hb3)
  go_ret2
  refine ⟨rfl, ⟨F', S', g', cap', cs', L', HBO.out.below HB3.out⟩, ?_⟩
  have t1 : Below b0 w X2 := ((HB1.out.mono HH.out.bw).trans HBB1.out).trans HBB2.out
  exact t1.trans (HB3.out.mono (Nat.le_trans HH.out.bw (by have := t1.size; omega)))
end Go.Proofs.Ytebcnlhgkpaghaa
/- A step of the law: copy; and what Info answers of any number. -/
namespace Go.Proofs.Ytebcnlhgkpaghaa
open Go.RowKit Go.Sort
set_option maxRecDepth 100000 in
set_option maxHeartbeats 8000000 in
theorem stepH_copy {w : World} {b0 tb rb : Nat} {root : Int} {base mb : Nat} {F : Nat → Prop} {S : Abs} {g cap : Nat} {cs : Array Value} {L : List Th} (h : Bo w b0 tb rb root base mb F S g cap cs L) (zi zid zw zn zd : Int) (zp : Option Addr) (cc : Nat) (xs : List (Int × Int)) :
    Calls Try.prog 7 #[.pointer (some ⟨tb, 0, none⟩), .pointer (some ⟨rb, 0, none⟩), .agg #[.int .i64 6, .int .i64 zi, .int .i64 zid, .int .i64 zw, .int .i64 zn, .int .i64 zd, .slice zp xs.length cc]] w fun e w' => ∃ tb', e = .returned (.tuple #[.pointer (some ⟨tb', 0, none⟩), .bool true]) ∧ (∃ base' mb' F', Bo w' b0 tb' rb root base' mb' F' S g cap cs L) ∧ Below b0 w w' := by
  have HH := Lib.hid h
  obtain ⟨W1, hW1⟩ : ∃ W1, w.alloc (.cells #[.int .i64 6, .int .i64 zi, .int .i64 zid, .int .i64 zw, .int .i64 zn, .int .i64 zd, .slice zp xs.length cc] 32) = W1 := ⟨_, rfl⟩
  have b1 : Below w.heap.size w W1 := by rw [← hW1]; exact (Below.refl _ _).alloc (Nat.le_refl _) _
  have d0 : W1.cell? ⟨w.heap.size, 0, none⟩ = some (.int .i64 6) := by rw [← hW1]; simp [go_sem]
  have hB1 := h.below b1
  have HC := Lib.hid (copy_x hB1.hx)
  have HB1 := Lib.hid b1
  have HBo1 := Lib.hid hB1
  clear h b1 hB1
  go_enter Try.func7, Try.ntmps7
  go_wp2_with (go_at_call 27; with_reducible refine Calls.mono HC.out ?_; rintro e X1 ⟨tb', mb', F', rfl, hx, hb⟩; have HX1 := Lib.hid hx; have HBX := Lib.hid hb; clear hx hb)
  go_ret2
  have hz := HB1.out.size
  have hbw := HH.out.bw
  have hrs := HBo1.out.rs.keep (F' := F') (fun k hk _ => HBX.out.block k hk) HBX.out.size (fun k hk => .inr (HX1.out.lt hk).1) (fun k hk => (HX1.out.lt hk).2)
  exact ⟨tb', rfl, ⟨W1.heap.size, mb', F', HX1.out, hrs, HBo1.out.rel, by omega, HH.out.b2, HH.out.b3, Nat.le_trans HBo1.out.bw HBX.out.size⟩, (HB1.out.mono hbw).trans (HBX.out.mono (by omega))⟩
def zOb : Ob := ⟨0, 0, 0, 0, 0, 0, [], []⟩
section
variable {w : World} {b0 tb rb : Nat} {root : Int} {base mb : Nat} {F : Nat → Prop} {S : Abs} {g cap : Nat} {cs : Array Value} {L : List Th}
theorem info_z (h : HX root w base tb mb F S) (x : Int) (hx : i64 x) :
    Calls Try.prog 28 #[.pointer (some ⟨tb, 0, none⟩), .int .i64 x] w fun e w' => ∃ p c, e = .returned (.tuple #[.agg #[.int .i64 ((S x).getD zOb).id, .int .i64 ((S x).getD zOb).kind, .int .i64 ((S x).getD zOb).quota, .int .i64 ((S x).getD zOb).used, .int .i64 ((S x).getD zOb).links, .int .i64 ((S x).getD zOb).df, .slice p ((S x).getD zOb).cats.length c], .bool (S x).isSome]) ∧ CatsAt w' p ((S x).getD zOb).cats ∧ Below w.heap.size w w' := by
  cases hS : S x with
  | some o => exact info_x h x o hS
  | none =>
    obtain ⟨K, D, T, h1, h2, h3, h4⟩ := h
    refine (infoN (N := Maps.size D) ⟨D, T, h1, h2, rfl, h3⟩ x hx hS).mono ?_
    rintro e w' ⟨rfl, hb⟩
    exact ⟨none, 0, rfl, (fun j hj => by simp [zOb] at hj), hb⟩
theorem rInfo_z (h : Bo w b0 tb rb root base mb F S g cap cs L) (x : Int) :
    Calls Try.prog 29 #[.pointer (some ⟨rb, 0, none⟩), .int .i64 x] w fun e w' => ∃ p c, e = .returned (.tuple #[.agg #[.int .i64 ((S x).getD zOb).id, .int .i64 ((S x).getD zOb).kind, .int .i64 ((S x).getD zOb).quota, .int .i64 ((S x).getD zOb).used, .int .i64 ((S x).getD zOb).links, .int .i64 ((S x).getD zOb).df, .slice p ((S x).getD zOb).cats.length c], .bool (S x).isSome]) ∧ CatsAt w' p ((S x).getD zOb).cats ∧ Below w.heap.size w w' := by
  obtain ⟨K, hinv⟩ := h.inv
  cases hS : S x with
  | some o => exact rInfo_some h.rs h.rel hinv x hS
  | none => exact (rInfo_none h.rs h.rel x hS).mono fun e w' ⟨a, b⟩ => ⟨none, 0, a, (fun j hj => by simp [zOb] at hj), b⟩
theorem cats_z (h : Bo w b0 tb rb root base mb F S g cap cs L) (x : Int) : ((S x).getD zOb).cats.length < 1000000 := by
  obtain ⟨K, hinv⟩ := h.inv
  cases hS : S x with
  | some o => exact (hinv.ok _ _ hS).cat
  | none => decide
end
end Go.Proofs.Ytebcnlhgkpaghaa
/- A step of the law: a question. -/
namespace Go.Proofs.Ytebcnlhgkpaghaa
open Go.RowKit Go.Sort
set_option maxRecDepth 100000 in
set_option maxHeartbeats 8000000 in
theorem stepH_oth {w : World} {b0 tb rb : Nat} {root : Int} {base mb : Nat} {F : Nat → Prop} {S : Abs} {g cap : Nat} {cs : Array Value} {L : List Th} (h : Bo w b0 tb rb root base mb F S g cap cs L) (zk zi zid zw zn zd : Int) (zp : Option Addr) (cc : Nat) (xs : List (Int × Int)) (ii : i64 zi) (iid : i64 zid) (k1 : zk ≠ 1) (k2 : zk ≠ 2) (k3 : zk ≠ 3) (k4 : zk ≠ 4) (k5 : zk ≠ 5) (k6 : zk ≠ 6) :
    Calls Try.prog 7 #[.pointer (some ⟨tb, 0, none⟩), .pointer (some ⟨rb, 0, none⟩), .agg #[.int .i64 zk, .int .i64 zi, .int .i64 zid, .int .i64 zw, .int .i64 zn, .int .i64 zd, .slice zp xs.length cc]] w fun e w' => e = .returned (.tuple #[.pointer (some ⟨tb, 0, none⟩), .bool true]) ∧ Below w.heap.size w w' := by
  have HH := Lib.hid h
  have j1 : (zk == 1) = false := by simpa using k1
  have j2 : (zk == 2) = false := by simpa using k2
  have j3 : (zk == 3) = false := by simpa using k3
  have j4 : (zk == 4) = false := by simpa using k4
  have j5 : (zk == 5) = false := by simpa using k5
  have j6 : (zk == 6) = false := by simpa using k6
  obtain ⟨W1, hW1⟩ : ∃ W1, w.alloc (.cells #[.int .i64 zk, .int .i64 zi, .int .i64 zid, .int .i64 zw, .int .i64 zn, .int .i64 zd, .slice zp xs.length cc] 32) = W1 := ⟨_, rfl⟩
  have b1 : Below w.heap.size w W1 := by rw [← hW1]; exact (Below.refl _ _).alloc (Nat.le_refl _) _
  have hz : w.heap.size < W1.heap.size := by rw [← hW1]; simp
  have hO : W1.heap[w.heap.size]? = some (.cells #[.int .i64 zk, .int .i64 zi, .int .i64 zid, .int .i64 zw, .int .i64 zn, .int .i64 zd, .slice zp xs.length cc] 32 (0, 0)) := by rw [← hW1]; exact heap_new _ _
  have d0 : W1.cell? ⟨w.heap.size, 0, none⟩ = some (.int .i64 zk) := by simp [World.cell?, hO]
  have d2 : W1.cell? ⟨w.heap.size, 2, none⟩ = some (.int .i64 zid) := by simp [World.cell?, hO]
  have hB1 := h.below b1
  have HO := Lib.hid hO
  have HB1 := Lib.hid b1
  have HBo1 := Lib.hid hB1
  have hcz := cats_z h zid
  have HIx : Hid (∀ W, Below W1.heap.size W1 W → _) := fun W hb => info_z (hB1.below hb).hx zid iid
  have HIr : Hid (∀ W, Below W1.heap.size W1 W → _) := fun W hb => rInfo_z (hB1.below hb) zid
  generalize (S zid).getD zOb = o at hcz HIx HIr
  generalize (S zid).isSome = ok at HIx HIr
  clear h hO b1 hB1
  go_enter Try.func7, Try.ntmps7
  go_wp2_with (go_at_call 28; with_reducible refine Calls.mono (HIx.out _ (Below.refl _ _)) ?_; rintro e w2 ⟨p2, c2, rfl, hc2, hb2⟩; refine Hid.out ?_)
  refine Lib.hid ?_
  obtain ⟨W3, hW3⟩ : ∃ W3, w2.alloc (.cells #[.int .i64 o.id, .int .i64 o.kind, .int .i64 o.quota, .int .i64 o.used, .int .i64 o.links, .int .i64 o.df, .slice p2 o.cats.length c2] 50) = W3 := ⟨_, rfl⟩
  have b3 : Below w2.heap.size w2 W3 := by rw [← hW3]; exact (Below.refl _ _).alloc (Nat.le_refl _) _
  have blk3 : W3.heap[w2.heap.size]? = some (.cells #[.int .i64 o.id, .int .i64 o.kind, .int .i64 o.quota, .int .i64 o.used, .int .i64 o.links, .int .i64 o.df, .slice p2 o.cats.length c2] 50 (0, 0)) := by rw [← hW3]; exact heap_new _ _
  have hB3 : Below W1.heap.size W1 W3 := hb2.trans (b3.mono hb2.size)
  have e2 : W3.cell? ⟨w.heap.size, 2, none⟩ = some (.int .i64 zid) := (hB3.cell (p := ⟨w.heap.size, 2, none⟩) hz).trans d2
  have HC3 := Lib.hid (hc2.below b3)
  have HK3 := Lib.hid blk3
  clear hc2 hb2 b3 blk3 d0
  go_wp2_with (go_at_call 29; with_reducible refine Calls.mono (HIr.out _ hB3) ?_; rintro e w4 ⟨p4, c4, rfl, hc4, hb4⟩; refine Hid.out ?_)
  refine Lib.hid ?_
  obtain ⟨W5, hW5⟩ : ∃ W5, w4.alloc (.cells #[.int .i64 o.id, .int .i64 o.kind, .int .i64 o.quota, .int .i64 o.used, .int .i64 o.links, .int .i64 o.df, .slice p4 o.cats.length c4] 50) = W5 := ⟨_, rfl⟩
  have b5 : Below w4.heap.size w4 W5 := by rw [← hW5]; exact (Below.refl _ _).alloc (Nat.le_refl _) _
  have blk5 : W5.heap[w4.heap.size]? = some (.cells #[.int .i64 o.id, .int .i64 o.kind, .int .i64 o.quota, .int .i64 o.used, .int .i64 o.links, .int .i64 o.df, .slice p4 o.cats.length c4] 50 (0, 0)) := by rw [← hW5]; exact heap_new _ _
  have b35 : Below W3.heap.size W3 W5 := hb4.trans (b5.mono hb4.size)
  have hB5 : Below W1.heap.size W1 W5 := hB3.trans (b35.mono hB3.size)
  have k3' := (b35.block _ (heap_lt HK3.out)).trans HK3.out
  have hl3 := heap_lt k3'
  have hl5 := heap_lt blk5
  have hlO : w.heap.size < W5.heap.size := Nat.lt_of_lt_of_le hz hB5.size
  have kO := (hB5.block _ hz).trans HO.out
  have q1 : ∀ n' os, (gx W5 n' os).cell? ⟨w.heap.size, 1, none⟩ = some (.int .i64 zi) := cell_gx hlO (by simp [World.cell?, kO])
  have q2 : ∀ n' os, (gx W5 n' os).cell? ⟨w.heap.size, 2, none⟩ = some (.int .i64 zid) := cell_gx hlO (by simp [World.cell?, kO])
  have x0 : ∀ n' os, (gx W5 n' os).cell? ⟨w2.heap.size, 0, none⟩ = some (.int .i64 o.id) := cell_gx hl3 (by simp [World.cell?, k3'])
  have x1 : ∀ n' os, (gx W5 n' os).cell? ⟨w2.heap.size, 1, none⟩ = some (.int .i64 o.kind) := cell_gx hl3 (by simp [World.cell?, k3'])
  have x2 : ∀ n' os, (gx W5 n' os).cell? ⟨w2.heap.size, 2, none⟩ = some (.int .i64 o.quota) := cell_gx hl3 (by simp [World.cell?, k3'])
  have x3 : ∀ n' os, (gx W5 n' os).cell? ⟨w2.heap.size, 3, none⟩ = some (.int .i64 o.used) := cell_gx hl3 (by simp [World.cell?, k3'])
  have x4 : ∀ n' os, (gx W5 n' os).cell? ⟨w2.heap.size, 4, none⟩ = some (.int .i64 o.links) := cell_gx hl3 (by simp [World.cell?, k3'])
  have x5 : ∀ n' os, (gx W5 n' os).cell? ⟨w2.heap.size, 5, none⟩ = some (.int .i64 o.df) := cell_gx hl3 (by simp [World.cell?, k3'])
  have x6 : ∀ n' os, (gx W5 n' os).cell? ⟨w2.heap.size, 6, none⟩ = some (.slice p2 o.cats.length c2) := cell_gx hl3 (by simp [World.cell?, k3'])
  have y0 : ∀ n' os, (gx W5 n' os).cell? ⟨w4.heap.size, 0, none⟩ = some (.int .i64 o.id) := cell_gx hl5 (by simp [World.cell?, blk5])
  have y1 : ∀ n' os, (gx W5 n' os).cell? ⟨w4.heap.size, 1, none⟩ = some (.int .i64 o.kind) := cell_gx hl5 (by simp [World.cell?, blk5])
  have y2 : ∀ n' os, (gx W5 n' os).cell? ⟨w4.heap.size, 2, none⟩ = some (.int .i64 o.quota) := cell_gx hl5 (by simp [World.cell?, blk5])
  have y3 : ∀ n' os, (gx W5 n' os).cell? ⟨w4.heap.size, 3, none⟩ = some (.int .i64 o.used) := cell_gx hl5 (by simp [World.cell?, blk5])
  have y4 : ∀ n' os, (gx W5 n' os).cell? ⟨w4.heap.size, 4, none⟩ = some (.int .i64 o.links) := cell_gx hl5 (by simp [World.cell?, blk5])
  have y5 : ∀ n' os, (gx W5 n' os).cell? ⟨w4.heap.size, 5, none⟩ = some (.int .i64 o.df) := cell_gx hl5 (by simp [World.cell?, blk5])
  have y6 : ∀ n' os, (gx W5 n' os).cell? ⟨w4.heap.size, 6, none⟩ = some (.slice p4 o.cats.length c4) := cell_gx hl5 (by simp [World.cell?, blk5])
  have HSI : Hid (∀ n' os, _) := fun n' os => SameInfo_eq o p2 p4 c2 c4 (gx W5 n' os) hcz ((HC3.out.below b35).below (gx_below W5 n' os)) ((hc4.below b5).below (gx_below W5 n' os))
  have HHx : Hid (∀ n' os, Calls Try.prog 31 #[.pointer (some ⟨tb, 0, none⟩), .int .i64 zi, .int .i64 zid] (gx W5 n' os) fun e w' => e = .returned (.bool (hasB S zi zid)) ∧ Below (gx W5 n' os).heap.size (gx W5 n' os) w') := fun n' os => (has_x (HBo1.out.below (hB5.trans ((gx_below W5 n' os).mono hB5.size))).hx zi zid ii iid).mono fun e w' ⟨a, b⟩ => ⟨a, by rw [b]; exact Below.refl _ _⟩
  have HHr : Hid (∀ n' os, Calls Try.prog 32 #[.pointer (some ⟨rb, 0, none⟩), .int .i64 zi, .int .i64 zid] (gx W5 n' os) fun e w' => e = .returned (.bool (hasB S zi zid)) ∧ Below (gx W5 n' os).heap.size (gx W5 n' os) w') := fun n' os => (rHas_any (HBo1.out.below (hB5.trans ((gx_below W5 n' os).mono hB5.size))).rs HBo1.out.rel zi zid).mono fun e w' ⟨a, b⟩ => ⟨a, by rw [b]; exact Below.refl _ _⟩
  have HB5 : Hid (Below w.heap.size w W5) := HB1.out.trans (hB5.mono HB1.out.size)
  generalize hasB S zi zid = bb at HHx HHr
  clear hc4 hb4 b5 blk5 b35 k3' kO HC3 HK3 hB3 e2 hB5 d2
  go_upto_region 19 with fail
  refine wp_region_quiet_gx (by kernel_rfl) (by kernel_rfl) ?_
  repeat (first | go_big_quiet_step (first
    | (go_at_call 30; with_reducible exact calls_gx (HSI.out _ _))
    | (go_at_call 31; with_reducible exact calls_gx (HHx.out _ _))
    | (go_at_call 32; with_reducible exact calls_gx (HHr.out _ _))) | (refine wpQuiet_step (fun K hK => ?_); go_simp; split <;> first | (exfalso; omega) | (refine hK _ ?_; clear hK K)))
  refine wpQuiet_nil ?_
  intro _ hw'
  obtain ⟨⟨nq, osq⟩, hw''⟩ := hw'
  subst hw''
  go_wp2_with fail
  go_ret2
  exact ⟨by simp, HB5.out.trans ((gx_below W5 nq osq).mono HB5.out.size)⟩
end Go.Proofs.Ytebcnlhgkpaghaa
/- A call as a value; rows of calls; what hold's table occupies is of its own types. -/
namespace Go.Proofs.Ytebcnlhgkpaghaa
open Go.RowKit Go.Sort
/-- A call, as a value. -/
structure OpR where
  k : Int
  i : Int
  id : Int
  wh : Int
  n : Int
  d : Int
  p : Option Addr
  cap : Nat
  xs : List (Int × Int)
def opC (o : OpR) : Array Value := #[.int .i64 o.k, .int .i64 o.i, .int .i64 o.id, .int .i64 o.wh, .int .i64 o.n, .int .i64 o.d, .slice o.p o.xs.length o.cap]
structure OpOk (w : World) (o : OpR) : Prop where
  ci : i64 o.i
  cid : i64 o.id
  ca : CatsAt w o.p o.xs
  cm : o.xs.length ≤ maxLen
def OpsAt (w : World) (p : Option Addr) (l : List OpR) : Prop := ∀ j (h : j < l.length), ∃ b off, p = some ⟨b, off, none⟩ ∧ b < w.heap.size ∧ (∀ f u, (opC l[j])[f]? = some u → w.cell? ⟨b, off + j * 7 + f, none⟩ = some u) ∧ OpOk w l[j]
/-- Both tables, wherever they lie from b0 on. -/
def BoX (w : World) (b0 tb rb : Nat) (root : Int) : Prop := ∃ base mb F S g cap cs L, Bo w b0 tb rb root base mb F S g cap cs L
theorem HX.apart {rt : Int} {w : World} {base tb mb : Nat} {F : Nat → Prop} {S : Abs} (h : HX rt w base tb mb F S) {k : Nat} {c : Array Value} {t : TypeId} {f : Nat × Nat} (hb : w.heap[k]? = some (.cells c t f)) (h1 : t ≠ 57) (h2 : t ≠ 54) (h3 : t ≠ 84) (h4 : t ≠ 3) : ¬ F k := by
  obtain ⟨K, D, T, a1, a2, rfl, a4⟩ := h
  rintro (e | e | ⟨i, r, hr, e⟩)
  · subst e; rw [a1.blk] at hb; injection hb with hb; injection hb with _ e2 _; exact h1 e2.symm
  · subst e
    obtain ⟨es, cl, q, _⟩ := a1.map
    rw [q] at hb; cases hb
  · have hR := (a1.obj i r hr).1
    rcases e with e | e | e
    · subst e; rw [hR.blk] at hb; injection hb with hb; injection hb with _ e2 _; exact h2 e2.symm
    · exact row_ne hR.cat hb h3 e
    · exact row_ne hR.row hb h4 e
end Go.Proofs.Ytebcnlhgkpaghaa
namespace Go.Proofs.Ytebcnlhgkpaghaa
open Go.RowKit Go.Sort
theorem step_any {w : World} {b0 tb rb : Nat} {root : Int} (h : BoX w b0 tb rb root) (o : OpR) (ho : OpOk w o) (hp : 0 < o.xs.length → ∀ a, o.p = some a → a.block < b0) :
    Calls Try.prog 7 #[.pointer (some ⟨tb, 0, none⟩), .pointer (some ⟨rb, 0, none⟩), .agg (opC o)] w fun e w' => ∃ tb', e = .returned (.tuple #[.pointer (some ⟨tb', 0, none⟩), .bool true]) ∧ BoX w' b0 tb' rb root ∧ Below b0 w w' := by
  obtain ⟨base, mb, F, S, g, cap, cs, L, h⟩ := h
  obtain ⟨k, i, id, wh, n, d, p, cc, xs⟩ := o
  obtain ⟨ci, cid, ca, cm⟩ := ho
  unfold opC
  simp only at ci cid ca cm hp ⊢
  by_cases k1 : k = 1
  · subst k1; exact (stepH_make h i id wh n d p cc xs cm ca hp ci cid).mono fun e w' ⟨a, ⟨F', S', g', cap', cs', L', b⟩, c⟩ => ⟨tb, a, ⟨_, _, _, _, _, _, _, _, b⟩, c⟩
  by_cases k2 : k = 2
  · subst k2; exact (stepH_link h i id wh n d p cc xs cm ca hp ci cid).mono fun e w' ⟨a, ⟨F', S', g', cap', cs', L', b⟩, c⟩ => ⟨tb, a, ⟨_, _, _, _, _, _, _, _, b⟩, c⟩
  by_cases k3 : k = 3
  · subst k3; exact (stepH_drop h i id wh n d p cc xs ci).mono fun e w' ⟨a, ⟨F', S', g', cap', cs', L', b⟩, c⟩ => ⟨tb, a, ⟨_, _, _, _, _, _, _, _, b⟩, c⟩
  by_cases k4 : k = 4
  · subst k4; exact (stepH_shift h i id wh n d p cc xs cm ca hp ci cid).mono fun e w' ⟨a, ⟨F', S', g', cap', cs', L', b⟩, c⟩ => ⟨tb, a, ⟨_, _, _, _, _, _, _, _, b⟩, c⟩
  by_cases k5 : k = 5
  · subst k5; exact (stepH_relab h i id wh n d p cc xs cm ca hp ci cid).mono fun e w' ⟨a, ⟨F', S', g', cap', cs', L', b⟩, c⟩ => ⟨tb, a, ⟨_, _, _, _, _, _, _, _, b⟩, c⟩
  by_cases k6 : k = 6
  · subst k6; exact (stepH_copy h i id wh n d p cc xs).mono fun e w' ⟨tb', a, ⟨base', mb', F', b⟩, c⟩ => ⟨tb', a, ⟨_, _, _, _, _, _, _, _, b⟩, c⟩
  exact (stepH_oth h k i id wh n d p cc xs ci cid k1 k2 k3 k4 k5 k6).mono fun e w' ⟨a, b⟩ => ⟨tb, a, ⟨_, _, _, _, _, _, _, _, h.below b⟩, b.mono h.bw⟩
end Go.Proofs.Ytebcnlhgkpaghaa

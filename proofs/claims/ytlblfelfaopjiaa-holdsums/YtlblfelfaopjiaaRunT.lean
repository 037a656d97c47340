/- What do and run of the statements' package leave. -/
import Derived.Test.YtlblfelfaopjiaaSameT
namespace Go.Proofs.Ytlblfelfaopjiaa
open Go.RowKit Go.Sort
/-- A call, as a value. -/
structure OpR where
  k : Int
  i : Int
  id : Int
  wh : Int
  n : Int
  d : Int
  p : Option Addr
  cap : Nat
  xs : List (Int × Int)
def opC (o : OpR) : Array Value := #[.int .i64 o.k, .int .i64 o.i, .int .i64 o.id, .int .i64 o.wh, .int .i64 o.n, .int .i64 o.d, .slice o.p o.xs.length o.cap]
structure OpOk (w : World) (o : OpR) : Prop where
  ci : i64 o.i
  cid : i64 o.id
  ca : CatsAt w o.p o.xs
  cm : o.xs.length ≤ maxLen
theorem OpOk.below {w w' : World} {o : OpR} (h : OpOk w o) (hb : Below w.heap.size w w') : OpOk w' o := ⟨h.ci, h.cid, h.ca.below hb, h.cm⟩
theorem HI.belowF {w w' : World} {base tb mb : Nat} {F F' : Nat → Prop} {S : Abs} (h : HI w base tb mb F S) (hF : Fm w w' F F') : Below base w w' := by
  obtain ⟨K, D, T, h1, h2, rfl, h4⟩ := h
  exact h1.belowF hF
theorem HI.baseLe {w : World} {base tb mb : Nat} {F : Nat → Prop} {S : Abs} (h : HI w base tb mb F S) : base ≤ w.heap.size := by
  obtain ⟨K, D, T, h1, h2, rfl, h4⟩ := h
  have := h1.lt (k := tb) (.inl rfl)
  omega
/-- What do leaves: a table, that lies from b0 on. -/
def Left (w : World) (b0 : Nat) (e : Ending) (w' : World) : Prop := ∃ base tb mb F S, e = .returned (.pointer (some ⟨tb, 0, none⟩)) ∧ HI w' base tb mb F S ∧ b0 ≤ base ∧ Below b0 w w'
set_option maxRecDepth 100000 in
set_option maxHeartbeats 4000000 in
theorem do_hi {w : World} {b0 base tb mb : Nat} {F : Nat → Prop} {S : Abs} (h : HI w base tb mb F S) (hb0 : b0 ≤ base) (o : OpR) (ho : OpOk w o) :
    Calls Try.prog 46 #[.pointer (some ⟨tb, 0, none⟩), .agg (opC o)] w (Left w b0) := by
  obtain ⟨k, i, id, wh, n, d, p, cap, xs⟩ := o
  unfold opC
  obtain ⟨hi, hid, hca, hcm⟩ := ho
  simp only at hi hid hca hcm ⊢
  have hW : Below w.heap.size w (w.alloc (.cells #[.int .i64 k, .int .i64 i, .int .i64 id, .int .i64 wh, .int .i64 n, .int .i64 d, .slice p xs.length cap] 32)) := (Below.refl _ _).alloc (Nat.le_refl _) _
  have h1 := h.below hW
  have hca1 := hca.below hW
  have hbw := h.baseLe
  have hB1 : Below b0 w (w.alloc (.cells #[.int .i64 k, .int .i64 i, .int .i64 id, .int .i64 wh, .int .i64 n, .int .i64 d, .slice p xs.length cap] 32)) := hW.mono (by omega)
  have fin : ∀ (c : Int) (w' : World), Did (w.alloc (.cells #[.int .i64 k, .int .i64 i, .int .i64 id, .int .i64 wh, .int .i64 n, .int .i64 d, .slice p xs.length cap] 32)) base tb mb F S c w' → Left w b0 (.returned (.pointer (some ⟨tb, 0, none⟩))) w'   := fun c w' hd => by
    obtain ⟨F', S', a1, a2, _⟩ := hd
    exact ⟨base, tb, mb, F', S', rfl, a1, hb0, hB1.trans ((h1.belowF a2).mono hb0)⟩
  have HF := Lib.hid fin
  have H1 := Lib.hid h1
  have HC1 := Lib.hid hca1
  have HB1 := Lib.hid hB1
  clear h hca hca1 h1 hW fin hB1
  by_cases k1 : k = 1
  · subst k1
    have HC := Lib.hid (make_hi H1.out i id wh n d p cap xs hcm HC1.out hi)
    go_enter Try.func46, Try.ntmps46
    go_wp2_with (first
      | (go_at_call 20; refine HC.out.mono ?_; rintro e w1 ⟨c, rfl, hd⟩; have HD := Lib.hid hd; clear hd))
    go_ret
    exact HF.out _ _ HD.out
  by_cases k2 : k = 2
  · subst k2
    have HC := Lib.hid (link_hi H1.out i id hi hid)
    go_enter Try.func46, Try.ntmps46
    go_wp2_with (first
      | (go_at_call 21; refine HC.out.mono ?_; rintro e w1 ⟨c, rfl, hd⟩; have HD := Lib.hid hd; clear hd))
    go_ret
    exact HF.out _ _ HD.out
  by_cases k3 : k = 3
  · subst k3
    have HC := Lib.hid (drop_hi H1.out i id hi)
    go_enter Try.func46, Try.ntmps46
    go_wp2_with (first
      | (go_at_call 22; refine HC.out.mono ?_; rintro e w1 ⟨gv, c, rfl, ⟨sp, ng, cg, rfl⟩, hd⟩; have HD := Lib.hid hd; clear hd))
    go_ret
    exact HF.out _ _ HD.out
  by_cases k4 : k = 4
  · subst k4
    have HC := Lib.hid (shift_hi H1.out i id n hi)
    go_enter Try.func46, Try.ntmps46
    go_wp2_with (first
      | (go_at_call 23; refine HC.out.mono ?_; rintro e w1 ⟨c, rfl, hd⟩; have HD := Lib.hid hd; clear hd))
    go_ret
    exact HF.out _ _ HD.out
  by_cases k5 : k = 5
  · subst k5
    have HC := Lib.hid (relabel_hi H1.out id d p cap xs hcm HC1.out hid)
    go_enter Try.func46, Try.ntmps46
    go_wp2_with (first
      | (go_at_call 24; refine HC.out.mono ?_; rintro e w1 ⟨c, rfl, hd⟩; have HD := Lib.hid hd; clear hd))
    go_ret
    exact HF.out _ _ HD.out
  by_cases k6 : k = 6
  · subst k6
    have HC := Lib.hid (copy_hi H1.out)
    go_enter Try.func46, Try.ntmps46
    go_wp2_with (first
      | (go_at_call 19; refine HC.out.mono ?_; rintro e w1 ⟨tb2, mb2, F2, rfl, hd, hb⟩; have HD := Lib.hid hd; have HBb := Lib.hid hb; clear hd hb))
    go_ret
    exact ⟨_, tb2, mb2, F2, S, rfl, HD.out, by have := HB1.out.size; simp; omega, HB1.out.trans (HBb.out.mono (by simp; omega))⟩
  have j1 : (k == 1) = false := by simpa using k1
  have j2 : (k == 2) = false := by simpa using k2
  have j3 : (k == 3) = false := by simpa using k3
  have j4 : (k == 4) = false := by simpa using k4
  have j5 : (k == 5) = false := by simpa using k5
  have j6 : (k == 6) = false := by simpa using k6
  go_enter Try.func46, Try.ntmps46
  go_wp2_with fail
  go_ret
  exact ⟨base, tb, mb, F, S, rfl, H1.out, hb0, HB1.out⟩
/-- A row of calls that is handed in. -/
def OpsAt (w : World) (p : Option Addr) (l : List OpR) : Prop := ∀ j (h : j < l.length), ∃ b off, p = some ⟨b, off, none⟩ ∧ b < w.heap.size ∧ (∀ f u, (opC l[j])[f]? = some u → w.cell? ⟨b, off + j * 7 + f, none⟩ = some u) ∧ OpOk w l[j]
theorem OpsAt.below {w w' : World} {p : Option Addr} {l : List OpR} (h : OpsAt w p l) (hb : Below w.heap.size w w') : OpsAt w' p l := fun j hj => by
  obtain ⟨b, off, h1, h2, h3, h4⟩ := h j hj
  exact ⟨b, off, h1, Nat.lt_of_lt_of_le h2 hb.size, fun f u hu => (hb.cell (p := ⟨b, off + j * 7 + f, none⟩) h2).trans (h3 f u hu), h4.below hb⟩
set_option maxRecDepth 100000 in
set_option maxHeartbeats 4000000 in
theorem run_hi {w : World} (p : Option Addr) (cap : Nat) (l : List OpR) (hl : OpsAt w p l) :
    Calls Try.prog 13 #[.slice p l.length cap] w (Left w w.heap.size) := by
  have HP := Lib.hid plain_any
  have HN := Lib.hid (fun W => new_hi W)
  have HL := Lib.hid hl
  clear hl
  go_enter Try.func13, Try.ntmps13
  go_wp2_with (first
    | (go_at_call 28; refine (HP.out _).mono ?_; rintro e w1 ⟨rfl, hb1⟩)
    | (go_at_call 9; refine (HN.out _).mono ?_; rintro e w2 ⟨tb, mb, F2, S2, rfl, hA2, hb2⟩; refine Hid.out ?_))
  refine Lib.hid ?_
  have B2 : Below w.heap.size w w2 := hb1.trans (hb2.mono hb1.size)
  have hbase : w.heap.size ≤ w1.heap.size := hb1.size
  generalize w1.heap.size = base at hA2 hbase
  clear hb1 hb2 HN HP
  go_wp2_with fail
  go_loopw [3, 10] (fun v y wr => ∃ (j base tb mb : Nat) (F : Nat → Prop) (S : Abs), y = .int .i64 j ∧ j ≤ l.length ∧ j ≤ 100 ∧ v = .pointer (some ⟨tb, 0, none⟩) ∧ HI wr base tb mb F S ∧ w.heap.size ≤ base ∧ Below w.heap.size w wr) (fun _ y _ => 101 - (intOf y).toNat)
  case atStart => exact ⟨0, base, tb, mb, F2, S2, rfl, by omega, by omega, rfl, hA2, hbase, B2⟩
  case round =>
    clear hA2 B2 hbase
    obtain ⟨j, base, tb, mb, F, S, rfl, hj, hj100, rfl, hA, hbase, hB⟩ := hrel
    by_cases hlt : j < l.length
    · have hji : (j : Int) < (l.length : Int) := by omega
      obtain ⟨b, off, rfl, hbl, hcl, hok⟩ := (HL.out.below hB) j hlt
      obtain ⟨o, ho⟩ : ∃ o, l[j] = o := ⟨_, rfl⟩
      rw [ho] at hcl hok
      have c0 : wr.cell? ⟨b, off + j * 7, none⟩ = some (.int .i64 o.k) := hcl 0 _ rfl
      have c1 : wr.cell? ⟨b, off + j * 7 + 1, none⟩ = some (.int .i64 o.i) := hcl 1 _ rfl
      have c2 : wr.cell? ⟨b, off + j * 7 + 2, none⟩ = some (.int .i64 o.id) := hcl 2 _ rfl
      have c3 : wr.cell? ⟨b, off + j * 7 + 3, none⟩ = some (.int .i64 o.wh) := hcl 3 _ rfl
      have c4 : wr.cell? ⟨b, off + j * 7 + 4, none⟩ = some (.int .i64 o.n) := hcl 4 _ rfl
      have c5 : wr.cell? ⟨b, off + j * 7 + 5, none⟩ = some (.int .i64 o.d) := hcl 5 _ rfl
      have c6 : wr.cell? ⟨b, off + j * 7 + 6, none⟩ = some (.slice o.p o.xs.length o.cap) := hcl 6 _ rfl
      have hW : Below wr.heap.size wr (wr.alloc (.cells #[.int .i64 o.k, .int .i64 o.i, .int .i64 o.id, .int .i64 o.wh, .int .i64 o.n, .int .i64 o.d, .slice o.p o.xs.length o.cap] 32)) := (Below.refl _ _).alloc (Nat.le_refl _) _
      have HD := do_hi (hA.below hW) hbase o (hok.below hW)
      unfold opC at HD
      have HD1 := Lib.hid HD
      have HA := Lib.hid (hA.below hW)
      have HB := Lib.hid (hB.trans (hW.mono hB.size))
      clear hA hB HD hcl hok hW ho
      by_cases hj9 : j < 100
      · have hji9 : ¬ (100 : Int) ≤ (j : Int) := by omega
        go_wp2_with (first
          | (go_at_call 46; refine HD1.out.mono ?_; rintro e w4 ⟨base4, tb4, mb4, F4, S4, rfl, hA4, hb4, hB4⟩; have HA4 := Lib.hid hA4; have HB4 := Lib.hid hB4; clear hA4 hB4))
        go_roundw
        case rel => exact ⟨j + 1, base4, tb4, mb4, F4, S4, by go_num, by omega, by omega, rfl, HA4.out, hb4, HB.out.trans HB4.out⟩
        case measure => simp [intOf]; omega
      · obtain rfl : j = 100 := by omega
        go_wp2_with fail
        go_ret
        exact ⟨base, tb, mb, F, S, rfl, HA.out, hbase, HB.out⟩
    · obtain rfl : j = l.length := by omega
      go_wp2_with fail
      go_ret
      exact ⟨base, tb, mb, F, S, rfl, hA, hbase, hB⟩
end Go.Proofs.Ytlblfelfaopjiaa

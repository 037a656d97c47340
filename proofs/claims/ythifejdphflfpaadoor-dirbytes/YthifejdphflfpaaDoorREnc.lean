/- What the reference's Encode answers for a directory. -/
import Derived.Test.YthifejdphflfpaaDoorEight
import Derived.Test.YthifejdphflfpaaDoorRef2
import Derived.Test.YthifejdphflfpaaDoorMonoT
namespace Go.Proofs.YthifejdphflfpaaDoor
open Go.RowKit Go.Sort
/-- A new row of one byte. -/
def One8 (b : UInt8) (v : Value) (X : World) : Prop := ∃ g : Nat, v = .slice (some ⟨g, 0, none⟩) 1 1 ∧ g < X.heap.size ∧ X.cell? ⟨g, 0, none⟩ = some (.int .u8 (b.toNat : Int))
theorem One8.mono {b : UInt8} {v : Value} {X Y : World} (h : One8 b v X) (hb : Below X.heap.size X Y) : One8 b v Y := by
  obtain ⟨g, h1, h2, h3⟩ := h
  exact ⟨g, h1, Nat.lt_of_lt_of_le h2 hb.size, (hb.cell (p := ⟨g, 0, none⟩) h2).trans h3⟩
theorem One8.conv {b : UInt8} {v : Value} {X : World} (h : One8 b v X) : Sem.run Tryd.prog (convert 51 9 v) X = .ok (.string ⟨#[b]⟩) X := by
  obtain ⟨g, rfl, h2, h3⟩ := h
  exact run_convert_bytes_back (P := Tryd.prog) X 51 9 5 ⟨g, 0, none⟩ 1 [b] Tryd.underlying51 Tryd.underlying5 Tryd.underlying9 (fun j hj => by
    match j, hj with
    | 0, _ => exact h3)
theorem goodN_id {m : Nm} (h : goodN m = true) : 1 ≤ m.id ∧ m.id ≤ 2305843009213693951 := by
  unfold goodN at h
  simp only [Bool.and_eq_true, decide_eq_true_eq] at h
  exact h.2
set_option maxRecDepth 100000 in
set_option maxHeartbeats 4000000 in
theorem refEncode_any (p : Option Addr) (cap : Nat) (l : List Nm) (w : World) (hr : rightL l = true) (hc : NsAt w p l) :
    Calls Tryd.prog 15 #[.slice p l.length cap] w fun e w' => e = .returned (.string (encS l)) ∧ Below w.heap.size w w' := by
  have h2 : encS l = ⟨(encB l).toArray⟩ := by unfold encS; rw [if_pos hr]
  rw [h2]
  obtain ⟨hg, _, hsz⟩ := right_all hr
  have HG := Lib.hid (List.all_eq_true.1 hg)
  have hln := right_len hr
  clear hg h2
  go_enter Tryd.func15, Tryd.ntmps15
  go_wp2_with fail
  go_loopw [3, 8] (fun s i wr => ∃ k : Nat, k ≤ l.length ∧ s = .string ⟨(encB (l.take k)).toArray⟩ ∧ i = .int .i64 k ∧ Below w.heap.size w wr) (fun _ i _ => l.length - (intOf i).toNat)
  case atStart => exact ⟨0, Nat.zero_le _, rfl, rfl, Below.refl _ _⟩
  case round =>
    obtain ⟨k, hk, rfl, rfl, hb⟩ := hrel
    have hz := hb.size
    by_cases hlt : k < l.length
    · have hki : (k : Int) < (l.length : Int) := by omega
      obtain ⟨b, off, hp, hbl, hq⟩ := hc k hlt
      have hbw : b < wr.heap.size := by omega
      have HTK := Lib.hid (encB_take l k hlt)
      have hgm := HG.out _ (List.getElem_mem hlt)
      obtain ⟨m, hmm⟩ : ∃ m, l[k] = m := ⟨_, rfl⟩
      rw [hmm] at hq HTK hgm
      obtain ⟨c0, c1, c2⟩ := hq.below hb hbl
      obtain ⟨X, hX⟩ : ∃ X, wr.alloc (.cells #[.string m.nm, .int .i64 m.kd, .int .i64 m.id] 25) = X := ⟨_, rfl⟩
      have hXm : X.heap[wr.heap.size]? = some (nmB m) := by rw [← hX]; exact heap_new _ _
      have hXB : Below wr.heap.size wr X := by rw [← hX]; exact (Below.refl _ _).alloc (Nat.le_refl _) _
      have hXs : X.heap.size = wr.heap.size + 1 := by rw [← hX]; simp
      have HN : Hid (∀ Y, Below X.heap.size X Y → NmAt Y wr.heap.size 0 m) := fun Y hY => (nm_cells hXm).below hY (by omega)
      have HXB := Lib.hid (hb.trans (hXB.mono hz))
      have hXz : w.heap.size ≤ X.heap.size := by omega
      have hid := goodN_id hgm
      have HE8 : Hid (∀ Y, Below X.heap.size X Y → Calls Tryd.prog 34 #[.int .u64 m.id] Y fun e w' => ∃ v, e = .returned v ∧ Below Y.heap.size Y w' ∧ v = .string ⟨(numK m.id 8).toArray⟩) := fun Y hY => (Eight_any m.id Y (by omega) (by omega)).mono fun e w' h => ⟨_, h.1, h.2, rfl⟩
      have hw3 : IntKind.u64.wrap m.id = m.id := by rw [IntKind.wrap_u64]; omega
      obtain ⟨b0, hb0⟩ : ∃ b0, bU m.nm.size = b0 := ⟨_, rfl⟩
      obtain ⟨b1, hb1⟩ : ∃ b1, bU m.kd = b1 := ⟨_, rfl⟩
      have hw1 : IntKind.u8.wrap (m.nm.size : Int) = (b0.toNat : Int) := by rw [← hb0, bU_val, IntKind.wrap_u8]
      have hw2 : IntKind.u8.wrap m.kd = (b1.toNat : Int) := by rw [← hb1, bU_val, IntKind.wrap_u8]
      have HW := Lib.hid (And.intro hw1 (And.intro hw2 hw3))
      obtain ⟨O, hO⟩ : ∃ O, (⟨(encB (l.take k)).toArray⟩ : ByteArray) = O := ⟨_, rfl⟩
      have HP : Hid ((⟨(encB (l.take (k + 1))).toArray⟩ : ByteArray) = O ++ (⟨#[b0]⟩ ++ m.nm ++ ⟨#[b1]⟩ ++ ⟨(numK m.id 8).toArray⟩)) := by
        simp only [Hid]
        rw [HTK.out, ← hO, entB, hb0, hb1]
        apply ByteArray.ext
        apply Array.toList_inj.1
        simp
      have hel := encB_len (l.take k)
      have hes := Int.le_trans (sizeL_take l k) hsz
      have hOs : O.size ≤ 4096 := by rw [← hO]; show (encB (l.take k)).toArray.size ≤ 4096; rw [List.size_toArray]; omega
      have hgs := goodN_size hgm
      have hnk := numK_len m.id 8
      have HSz := Lib.hid (show 1 + m.nm.size ≤ 9223372036854775807 ∧ 1 + m.nm.size ≤ 9223372036854775806 ∧ 1 + m.nm.size + 1 + (numK m.id 8).length ≤ 9223372036854775807 ∧ O.size + (1 + m.nm.size + 1 + (numK m.id 8).length) ≤ 9223372036854775807 from by omega)
      rw [hO]
      subst hp
      clear hel hes hOs hgs hnk hw1 hw2 hw3 hb0 hb1 hO HTK hXm hXB hq hmm hc hid hgm
      go_wp2_with fail
      clear hX
      refine wp_region_monoT 6 22 (fun kq uq Xq => match kq with | 12 => uq = .string O | 13 => uq = .pointer (some ⟨wr.heap.size, 0, none⟩) | 14 => uq = .string m.nm | 15 => uq = .int .i64 m.nm.size | 16 => uq = .int .u8 (b0.toNat : Int) | 17 => One8 b0 (uq) Xq | 18 => uq = .string ⟨#[b0]⟩ | 19 => uq = .pointer (some ⟨wr.heap.size, 0, none⟩) | 20 => uq = .string m.nm | 21 => uq = .string (⟨#[b0]⟩ ++ m.nm) | 22 => uq = .pointer (some ⟨wr.heap.size, 1, none⟩) | 23 => uq = .int .i64 m.kd | 24 => uq = .int .u8 (b1.toNat : Int) | 25 => One8 b1 (uq) Xq | 26 => uq = .string ⟨#[b1]⟩ | 27 => uq = .string (⟨#[b0]⟩ ++ m.nm ++ ⟨#[b1]⟩) | 28 => uq = .pointer (some ⟨wr.heap.size, 2, none⟩) | 29 => uq = .int .i64 m.id | 30 => uq = .int .u64 m.id | 31 => uq = .string ⟨(numK m.id 8).toArray⟩ | 32 => uq = .string (⟨#[b0]⟩ ++ m.nm ++ ⟨#[b1]⟩ ++ ⟨(numK m.id 8).toArray⟩) | 33 => uq = .string (O ++ (⟨#[b0]⟩ ++ m.nm ++ ⟨#[b1]⟩ ++ ⟨(numK m.id 8).toArray⟩)) | _ => True) (by kernel_rfl) (by kernel_rfl) (by kernel_rfl) (by kernel_rfl) (by simp) (by kernel_rfl) ?_ ?_ ?_
      · intro kq v W W' h hb
        revert h
        try dsimp only
        split
        · intro h; exact h
        · intro h; exact h
        · intro h; exact h
        · intro h; exact h
        · intro h; exact h
        · intro h; exact One8.mono h hb
        · intro h; exact h
        · intro h; exact h
        · intro h; exact h
        · intro h; exact h
        · intro h; exact h
        · intro h; exact h
        · intro h; exact h
        · intro h; exact One8.mono h hb
        · intro h; exact h
        · intro h; exact h
        · intro h; exact h
        · intro h; exact h
        · intro h; exact h
        · intro h; exact h
        · intro h; exact h
        · intro h; exact h
        · intro h; trivial
      · intro a' X hB hs hk i o d ho hd hG
        match i, ho with
        | 0, ho =>
          obtain rfl : _ = o := Option.some.inj ho
          obtain rfl : 12 = d := Option.some.inj hd
          have g3 : a'.eval (.tmp 3) = .string O := hk 3 (by kernel_rfl)
          obtain ⟨ev, hev⟩ : ∃ ev, a'.eval = ev := ⟨_, rfl⟩
          rw [hev] at g3 ⊢
          clear hev hG hk
          obtain ⟨y0, y1, y2⟩ := HN.out X hB
          obtain ⟨z1, z2, z3⟩ := HW.out
          obtain ⟨s1, s2, s3, s4⟩ := HSz.out
          exact .inr ⟨rfl, .inl ⟨.string O, X, by clear hs; go_simp, Below.refl _ _, rfl⟩⟩
        | 1, ho =>
          obtain rfl : _ = o := Option.some.inj ho
          obtain rfl : 13 = d := Option.some.inj hd
          have g5 : a'.eval (.tmp 5) = .pointer (some ⟨wr.heap.size, 0, none⟩) := hk 5 (by kernel_rfl)
          obtain ⟨ev, hev⟩ : ∃ ev, a'.eval = ev := ⟨_, rfl⟩
          rw [hev] at g5 ⊢
          clear hev hG hk
          obtain ⟨y0, y1, y2⟩ := HN.out X hB
          obtain ⟨z1, z2, z3⟩ := HW.out
          obtain ⟨s1, s2, s3, s4⟩ := HSz.out
          exact .inr ⟨rfl, .inl ⟨.pointer (some ⟨wr.heap.size, 0, none⟩), X, by clear hs; go_simp, Below.refl _ _, rfl⟩⟩
        | 2, ho =>
          obtain rfl : _ = o := Option.some.inj ho
          obtain rfl : 14 = d := Option.some.inj hd
          have g13 : a'.eval (.tmp 13) = .pointer (some ⟨wr.heap.size, 0, none⟩) := hG ⟨1, .data⟩ (by simp) rfl 13 rfl
          obtain ⟨ev, hev⟩ : ∃ ev, a'.eval = ev := ⟨_, rfl⟩
          rw [hev] at g13 ⊢
          clear hev hG hk
          obtain ⟨y0, y1, y2⟩ := HN.out X hB
          obtain ⟨z1, z2, z3⟩ := HW.out
          obtain ⟨s1, s2, s3, s4⟩ := HSz.out
          exact .inr ⟨rfl, .inl ⟨.string m.nm, X, by clear hs; go_simp, Below.refl _ _, rfl⟩⟩
        | 3, ho =>
          obtain rfl : _ = o := Option.some.inj ho
          obtain rfl : 15 = d := Option.some.inj hd
          have g14 : a'.eval (.tmp 14) = .string m.nm := hG ⟨2, .data⟩ (by simp) rfl 14 rfl
          obtain ⟨ev, hev⟩ : ∃ ev, a'.eval = ev := ⟨_, rfl⟩
          rw [hev] at g14 ⊢
          clear hev hG hk
          obtain ⟨y0, y1, y2⟩ := HN.out X hB
          obtain ⟨z1, z2, z3⟩ := HW.out
          obtain ⟨s1, s2, s3, s4⟩ := HSz.out
          exact .inr ⟨rfl, .inl ⟨.int .i64 m.nm.size, X, by clear hs; go_simp, Below.refl _ _, rfl⟩⟩
        | 4, ho =>
          obtain rfl : _ = o := Option.some.inj ho
          obtain rfl : 16 = d := Option.some.inj hd
          have g15 : a'.eval (.tmp 15) = .int .i64 m.nm.size := hG ⟨3, .data⟩ (by simp) rfl 15 rfl
          obtain ⟨ev, hev⟩ : ∃ ev, a'.eval = ev := ⟨_, rfl⟩
          rw [hev] at g15 ⊢
          clear hev hG hk
          obtain ⟨y0, y1, y2⟩ := HN.out X hB
          obtain ⟨z1, z2, z3⟩ := HW.out
          obtain ⟨s1, s2, s3, s4⟩ := HSz.out
          exact .inr ⟨rfl, .inl ⟨.int .u8 (b0.toNat : Int), X, by clear hs; go_simp, Below.refl _ _, rfl⟩⟩
        | 5, ho =>
          obtain rfl : _ = o := Option.some.inj ho
          obtain rfl : 17 = d := Option.some.inj hd
          have g16 : a'.eval (.tmp 16) = .int .u8 (b0.toNat : Int) := hG ⟨4, .data⟩ (by simp) rfl 16 rfl
          obtain ⟨ev, hev⟩ : ∃ ev, a'.eval = ev := ⟨_, rfl⟩
          rw [hev] at g16 ⊢
          clear hev hG hk
          refine .inr ⟨rfl, .inl ⟨.slice (some ⟨X.heap.size, 0, none⟩) 1 1, X.alloc (.cells #[.int .u8 (b0.toNat : Int)] 5), by clear hs; go_simp, (Below.refl _ _).alloc (Nat.le_refl _) _, ?_⟩⟩
          exact ⟨X.heap.size, rfl, by simp, by simp [go_sem]⟩
        | 6, ho =>
          obtain rfl : _ = o := Option.some.inj ho
          obtain rfl : 18 = d := Option.some.inj hd
          have g17 : One8 b0 (a'.eval (.tmp 17)) X := hG ⟨5, .data⟩ (by simp) rfl 17 rfl
          obtain ⟨ev, hev⟩ : ∃ ev, a'.eval = ev := ⟨_, rfl⟩
          rw [hev] at g17 ⊢
          clear hev hG hk
          obtain ⟨v2, hv2⟩ : ∃ v2, ev (.tmp 17) = v2 := ⟨_, rfl⟩
          rw [hv2] at g17
          have hcv := One8.conv g17
          exact .inr ⟨rfl, .inl ⟨.string ⟨#[b0]⟩, X, by clear hs; go_simp, Below.refl _ _, rfl⟩⟩
        | 7, ho =>
          obtain rfl : _ = o := Option.some.inj ho
          obtain rfl : 19 = d := Option.some.inj hd
          have g5 : a'.eval (.tmp 5) = .pointer (some ⟨wr.heap.size, 0, none⟩) := hk 5 (by kernel_rfl)
          obtain ⟨ev, hev⟩ : ∃ ev, a'.eval = ev := ⟨_, rfl⟩
          rw [hev] at g5 ⊢
          clear hev hG hk
          obtain ⟨y0, y1, y2⟩ := HN.out X hB
          obtain ⟨z1, z2, z3⟩ := HW.out
          obtain ⟨s1, s2, s3, s4⟩ := HSz.out
          exact .inr ⟨rfl, .inl ⟨.pointer (some ⟨wr.heap.size, 0, none⟩), X, by clear hs; go_simp, Below.refl _ _, rfl⟩⟩
        | 8, ho =>
          obtain rfl : _ = o := Option.some.inj ho
          obtain rfl : 20 = d := Option.some.inj hd
          have g19 : a'.eval (.tmp 19) = .pointer (some ⟨wr.heap.size, 0, none⟩) := hG ⟨7, .data⟩ (by simp) rfl 19 rfl
          obtain ⟨ev, hev⟩ : ∃ ev, a'.eval = ev := ⟨_, rfl⟩
          rw [hev] at g19 ⊢
          clear hev hG hk
          obtain ⟨y0, y1, y2⟩ := HN.out X hB
          obtain ⟨z1, z2, z3⟩ := HW.out
          obtain ⟨s1, s2, s3, s4⟩ := HSz.out
          exact .inr ⟨rfl, .inl ⟨.string m.nm, X, by clear hs; go_simp, Below.refl _ _, rfl⟩⟩
        | 9, ho =>
          obtain rfl : _ = o := Option.some.inj ho
          obtain rfl : 21 = d := Option.some.inj hd
          have g18 : a'.eval (.tmp 18) = .string ⟨#[b0]⟩ := hG ⟨6, .data⟩ (by simp) rfl 18 rfl
          have g20 : a'.eval (.tmp 20) = .string m.nm := hG ⟨8, .data⟩ (by simp) rfl 20 rfl
          obtain ⟨ev, hev⟩ : ∃ ev, a'.eval = ev := ⟨_, rfl⟩
          rw [hev] at g18 g20 ⊢
          clear hev hG hk
          obtain ⟨y0, y1, y2⟩ := HN.out X hB
          obtain ⟨z1, z2, z3⟩ := HW.out
          obtain ⟨s1, s2, s3, s4⟩ := HSz.out
          exact .inr ⟨rfl, .inl ⟨.string (⟨#[b0]⟩ ++ m.nm), X, by clear hs; go_simp, Below.refl _ _, rfl⟩⟩
        | 10, ho =>
          obtain rfl : _ = o := Option.some.inj ho
          obtain rfl : 22 = d := Option.some.inj hd
          have g5 : a'.eval (.tmp 5) = .pointer (some ⟨wr.heap.size, 0, none⟩) := hk 5 (by kernel_rfl)
          obtain ⟨ev, hev⟩ : ∃ ev, a'.eval = ev := ⟨_, rfl⟩
          rw [hev] at g5 ⊢
          clear hev hG hk
          obtain ⟨y0, y1, y2⟩ := HN.out X hB
          obtain ⟨z1, z2, z3⟩ := HW.out
          obtain ⟨s1, s2, s3, s4⟩ := HSz.out
          exact .inr ⟨rfl, .inl ⟨.pointer (some ⟨wr.heap.size, 1, none⟩), X, by clear hs; go_simp, Below.refl _ _, rfl⟩⟩
        | 11, ho =>
          obtain rfl : _ = o := Option.some.inj ho
          obtain rfl : 23 = d := Option.some.inj hd
          have g22 : a'.eval (.tmp 22) = .pointer (some ⟨wr.heap.size, 1, none⟩) := hG ⟨10, .data⟩ (by simp) rfl 22 rfl
          obtain ⟨ev, hev⟩ : ∃ ev, a'.eval = ev := ⟨_, rfl⟩
          rw [hev] at g22 ⊢
          clear hev hG hk
          obtain ⟨y0, y1, y2⟩ := HN.out X hB
          obtain ⟨z1, z2, z3⟩ := HW.out
          obtain ⟨s1, s2, s3, s4⟩ := HSz.out
          exact .inr ⟨rfl, .inl ⟨.int .i64 m.kd, X, by clear hs; go_simp, Below.refl _ _, rfl⟩⟩
        | 12, ho =>
          obtain rfl : _ = o := Option.some.inj ho
          obtain rfl : 24 = d := Option.some.inj hd
          have g23 : a'.eval (.tmp 23) = .int .i64 m.kd := hG ⟨11, .data⟩ (by simp) rfl 23 rfl
          obtain ⟨ev, hev⟩ : ∃ ev, a'.eval = ev := ⟨_, rfl⟩
          rw [hev] at g23 ⊢
          clear hev hG hk
          obtain ⟨y0, y1, y2⟩ := HN.out X hB
          obtain ⟨z1, z2, z3⟩ := HW.out
          obtain ⟨s1, s2, s3, s4⟩ := HSz.out
          exact .inr ⟨rfl, .inl ⟨.int .u8 (b1.toNat : Int), X, by clear hs; go_simp, Below.refl _ _, rfl⟩⟩
        | 13, ho =>
          obtain rfl : _ = o := Option.some.inj ho
          obtain rfl : 25 = d := Option.some.inj hd
          have g24 : a'.eval (.tmp 24) = .int .u8 (b1.toNat : Int) := hG ⟨12, .data⟩ (by simp) rfl 24 rfl
          obtain ⟨ev, hev⟩ : ∃ ev, a'.eval = ev := ⟨_, rfl⟩
          rw [hev] at g24 ⊢
          clear hev hG hk
          refine .inr ⟨rfl, .inl ⟨.slice (some ⟨X.heap.size, 0, none⟩) 1 1, X.alloc (.cells #[.int .u8 (b1.toNat : Int)] 5), by clear hs; go_simp, (Below.refl _ _).alloc (Nat.le_refl _) _, ?_⟩⟩
          exact ⟨X.heap.size, rfl, by simp, by simp [go_sem]⟩
        | 14, ho =>
          obtain rfl : _ = o := Option.some.inj ho
          obtain rfl : 26 = d := Option.some.inj hd
          have g25 : One8 b1 (a'.eval (.tmp 25)) X := hG ⟨13, .data⟩ (by simp) rfl 25 rfl
          obtain ⟨ev, hev⟩ : ∃ ev, a'.eval = ev := ⟨_, rfl⟩
          rw [hev] at g25 ⊢
          clear hev hG hk
          obtain ⟨v2, hv2⟩ : ∃ v2, ev (.tmp 25) = v2 := ⟨_, rfl⟩
          rw [hv2] at g25
          have hcv := One8.conv g25
          exact .inr ⟨rfl, .inl ⟨.string ⟨#[b1]⟩, X, by clear hs; go_simp, Below.refl _ _, rfl⟩⟩
        | 15, ho =>
          obtain rfl : _ = o := Option.some.inj ho
          obtain rfl : 27 = d := Option.some.inj hd
          have g21 : a'.eval (.tmp 21) = .string (⟨#[b0]⟩ ++ m.nm) := hG ⟨9, .data⟩ (by simp) rfl 21 rfl
          have g26 : a'.eval (.tmp 26) = .string ⟨#[b1]⟩ := hG ⟨14, .data⟩ (by simp) rfl 26 rfl
          obtain ⟨ev, hev⟩ : ∃ ev, a'.eval = ev := ⟨_, rfl⟩
          rw [hev] at g21 g26 ⊢
          clear hev hG hk
          obtain ⟨y0, y1, y2⟩ := HN.out X hB
          obtain ⟨z1, z2, z3⟩ := HW.out
          obtain ⟨s1, s2, s3, s4⟩ := HSz.out
          exact .inr ⟨rfl, .inl ⟨.string (⟨#[b0]⟩ ++ m.nm ++ ⟨#[b1]⟩), X, by clear hs; go_simp, Below.refl _ _, rfl⟩⟩
        | 16, ho =>
          obtain rfl : _ = o := Option.some.inj ho
          obtain rfl : 28 = d := Option.some.inj hd
          have g5 : a'.eval (.tmp 5) = .pointer (some ⟨wr.heap.size, 0, none⟩) := hk 5 (by kernel_rfl)
          obtain ⟨ev, hev⟩ : ∃ ev, a'.eval = ev := ⟨_, rfl⟩
          rw [hev] at g5 ⊢
          clear hev hG hk
          obtain ⟨y0, y1, y2⟩ := HN.out X hB
          obtain ⟨z1, z2, z3⟩ := HW.out
          obtain ⟨s1, s2, s3, s4⟩ := HSz.out
          exact .inr ⟨rfl, .inl ⟨.pointer (some ⟨wr.heap.size, 2, none⟩), X, by clear hs; go_simp, Below.refl _ _, rfl⟩⟩
        | 17, ho =>
          obtain rfl : _ = o := Option.some.inj ho
          obtain rfl : 29 = d := Option.some.inj hd
          have g28 : a'.eval (.tmp 28) = .pointer (some ⟨wr.heap.size, 2, none⟩) := hG ⟨16, .data⟩ (by simp) rfl 28 rfl
          obtain ⟨ev, hev⟩ : ∃ ev, a'.eval = ev := ⟨_, rfl⟩
          rw [hev] at g28 ⊢
          clear hev hG hk
          obtain ⟨y0, y1, y2⟩ := HN.out X hB
          obtain ⟨z1, z2, z3⟩ := HW.out
          obtain ⟨s1, s2, s3, s4⟩ := HSz.out
          exact .inr ⟨rfl, .inl ⟨.int .i64 m.id, X, by clear hs; go_simp, Below.refl _ _, rfl⟩⟩
        | 18, ho =>
          obtain rfl : _ = o := Option.some.inj ho
          obtain rfl : 30 = d := Option.some.inj hd
          have g29 : a'.eval (.tmp 29) = .int .i64 m.id := hG ⟨17, .data⟩ (by simp) rfl 29 rfl
          obtain ⟨ev, hev⟩ : ∃ ev, a'.eval = ev := ⟨_, rfl⟩
          rw [hev] at g29 ⊢
          clear hev hG hk
          obtain ⟨y0, y1, y2⟩ := HN.out X hB
          obtain ⟨z1, z2, z3⟩ := HW.out
          obtain ⟨s1, s2, s3, s4⟩ := HSz.out
          exact .inr ⟨rfl, .inl ⟨.int .u64 m.id, X, by clear hs; go_simp, Below.refl _ _, rfl⟩⟩
        | 19, ho =>
          obtain rfl : _ = o := Option.some.inj ho
          obtain rfl : 31 = d := Option.some.inj hd
          have g30 : a'.eval (.tmp 30) = .int .u64 m.id := hG ⟨18, .data⟩ (by simp) rfl 30 rfl
          refine .inr ⟨rfl, .inr ⟨34, #[.int .u64 m.id], ?_, ?_⟩⟩
          · have gF : a'.eval (.func 34) = .func (.func 34) #[] #[] := rfl
            obtain ⟨ev, hev⟩ : ∃ ev, a'.eval = ev := ⟨_, rfl⟩
            rw [hev] at gF g30 ⊢
            exact exec_call1 rfl gF g30 (enters_of Tryd.func34 (by kernel_rfl) rfl)
          · exact HE8.out X hB
        | 20, ho =>
          obtain rfl : _ = o := Option.some.inj ho
          obtain rfl : 32 = d := Option.some.inj hd
          have g27 : a'.eval (.tmp 27) = .string (⟨#[b0]⟩ ++ m.nm ++ ⟨#[b1]⟩) := hG ⟨15, .data⟩ (by simp) rfl 27 rfl
          have g31 : a'.eval (.tmp 31) = .string ⟨(numK m.id 8).toArray⟩ := hG ⟨19, .data⟩ (by simp) rfl 31 rfl
          obtain ⟨ev, hev⟩ : ∃ ev, a'.eval = ev := ⟨_, rfl⟩
          rw [hev] at g27 g31 ⊢
          clear hev hG hk
          obtain ⟨y0, y1, y2⟩ := HN.out X hB
          obtain ⟨z1, z2, z3⟩ := HW.out
          obtain ⟨s1, s2, s3, s4⟩ := HSz.out
          exact .inr ⟨rfl, .inl ⟨.string (⟨#[b0]⟩ ++ m.nm ++ ⟨#[b1]⟩ ++ ⟨(numK m.id 8).toArray⟩), X, by clear hs; go_simp, Below.refl _ _, rfl⟩⟩
        | 21, ho =>
          obtain rfl : _ = o := Option.some.inj ho
          obtain rfl : 33 = d := Option.some.inj hd
          have g12 : a'.eval (.tmp 12) = .string O := hG ⟨0, .data⟩ (by simp) rfl 12 rfl
          have g32 : a'.eval (.tmp 32) = .string (⟨#[b0]⟩ ++ m.nm ++ ⟨#[b1]⟩ ++ ⟨(numK m.id 8).toArray⟩) := hG ⟨20, .data⟩ (by simp) rfl 32 rfl
          obtain ⟨ev, hev⟩ : ∃ ev, a'.eval = ev := ⟨_, rfl⟩
          rw [hev] at g12 g32 ⊢
          clear hev hG hk
          obtain ⟨y0, y1, y2⟩ := HN.out X hB
          obtain ⟨z1, z2, z3⟩ := HW.out
          obtain ⟨s1, s2, s3, s4⟩ := HSz.out
          exact .inr ⟨rfl, .inl ⟨.string (O ++ (⟨#[b0]⟩ ++ m.nm ++ ⟨#[b1]⟩ ++ ⟨(numK m.id 8).toArray⟩)), X, by clear hs; go_simp, Below.refl _ _, rfl⟩⟩
        | j + 22, ho => simp at ho
      · intro a' X hB hs hdf hk hG
        obtain ⟨tm, df⟩ := a'
        obtain rfl : df = [] := hdf
        have e0 : tm.getD 0 undef = .slice (some { block := b, off := off }) l.length cap := hk 0 (by kernel_rfl)
        have e1 : tm.getD 1 undef = undef := hk 1 (by kernel_rfl)
        have e2 : tm.getD 2 undef = .string { data := #[] } := hk 2 (by kernel_rfl)
        have e3 : tm.getD 3 undef = .string O := hk 3 (by kernel_rfl)
        have e4 : tm.getD 4 undef = undef := hk 4 (by kernel_rfl)
        have e5 : tm.getD 5 undef = .pointer (some ⟨wr.heap.size, 0, none⟩) := hk 5 (by kernel_rfl)
        have e6 : tm.getD 6 undef = .slice (some { block := b, off := off }) l.length cap := hk 6 (by kernel_rfl)
        have e7 : tm.getD 7 undef = .int .i64 l.length := hk 7 (by kernel_rfl)
        have e8 : tm.getD 8 undef = .int .i64 k := hk 8 (by kernel_rfl)
        have e9 : tm.getD 9 undef = .bool true := hk 9 (by kernel_rfl)
        have e10 : tm.getD 10 undef = .pointer (some { block := b, off := off + k * 3 }) := hk 10 (by kernel_rfl)
        have e11 : tm.getD 11 undef = .agg #[.string m.nm, .int .i64 m.kd, .int .i64 m.id] := hk 11 (by kernel_rfl)
        have e34 : tm.getD 34 undef = u34 := hk 34 (by kernel_rfl)
        have e35 : tm.getD 35 undef = undef := hk 35 (by kernel_rfl)
        have g12 : (tm.getD 12 undef) = .string O := hG 0 12 (by decide) rfl
        have g13 : (tm.getD 13 undef) = .pointer (some ⟨wr.heap.size, 0, none⟩) := hG 1 13 (by decide) rfl
        have g14 : (tm.getD 14 undef) = .string m.nm := hG 2 14 (by decide) rfl
        have g15 : (tm.getD 15 undef) = .int .i64 m.nm.size := hG 3 15 (by decide) rfl
        have g16 : (tm.getD 16 undef) = .int .u8 (b0.toNat : Int) := hG 4 16 (by decide) rfl
        have g17 : One8 b0 ((tm.getD 17 undef)) X := hG 5 17 (by decide) rfl
        have g18 : (tm.getD 18 undef) = .string ⟨#[b0]⟩ := hG 6 18 (by decide) rfl
        have g19 : (tm.getD 19 undef) = .pointer (some ⟨wr.heap.size, 0, none⟩) := hG 7 19 (by decide) rfl
        have g20 : (tm.getD 20 undef) = .string m.nm := hG 8 20 (by decide) rfl
        have g21 : (tm.getD 21 undef) = .string (⟨#[b0]⟩ ++ m.nm) := hG 9 21 (by decide) rfl
        have g22 : (tm.getD 22 undef) = .pointer (some ⟨wr.heap.size, 1, none⟩) := hG 10 22 (by decide) rfl
        have g23 : (tm.getD 23 undef) = .int .i64 m.kd := hG 11 23 (by decide) rfl
        have g24 : (tm.getD 24 undef) = .int .u8 (b1.toNat : Int) := hG 12 24 (by decide) rfl
        have g25 : One8 b1 ((tm.getD 25 undef)) X := hG 13 25 (by decide) rfl
        have g26 : (tm.getD 26 undef) = .string ⟨#[b1]⟩ := hG 14 26 (by decide) rfl
        have g27 : (tm.getD 27 undef) = .string (⟨#[b0]⟩ ++ m.nm ++ ⟨#[b1]⟩) := hG 15 27 (by decide) rfl
        have g28 : (tm.getD 28 undef) = .pointer (some ⟨wr.heap.size, 2, none⟩) := hG 16 28 (by decide) rfl
        have g29 : (tm.getD 29 undef) = .int .i64 m.id := hG 17 29 (by decide) rfl
        have g30 : (tm.getD 30 undef) = .int .u64 m.id := hG 18 30 (by decide) rfl
        have g31 : (tm.getD 31 undef) = .string ⟨(numK m.id 8).toArray⟩ := hG 19 31 (by decide) rfl
        have g32 : (tm.getD 32 undef) = .string (⟨#[b0]⟩ ++ m.nm ++ ⟨#[b1]⟩ ++ ⟨(numK m.id 8).toArray⟩) := hG 20 32 (by decide) rfl
        have g33 : (tm.getD 33 undef) = .string (O ++ (⟨#[b0]⟩ ++ m.nm ++ ⟨#[b1]⟩ ++ ⟨(numK m.id 8).toArray⟩)) := hG 21 33 (by decide) rfl
        have htm := arr_of tm ((.slice (some { block := b, off := off }) l.length cap : Value) :: (undef : Value) :: (.string { data := #[] } : Value) :: (.string O : Value) :: (undef : Value) :: (.pointer (some ⟨wr.heap.size, 0, none⟩) : Value) :: (.slice (some { block := b, off := off }) l.length cap : Value) :: (.int .i64 l.length : Value) :: (.int .i64 k : Value) :: (.bool true : Value) :: (.pointer (some { block := b, off := off + k * 3 }) : Value) :: (.agg #[.string m.nm, .int .i64 m.kd, .int .i64 m.id] : Value) :: (tm.getD 12 undef : Value) :: (tm.getD 13 undef : Value) :: (tm.getD 14 undef : Value) :: (tm.getD 15 undef : Value) :: (tm.getD 16 undef : Value) :: (tm.getD 17 undef : Value) :: (tm.getD 18 undef : Value) :: (tm.getD 19 undef : Value) :: (tm.getD 20 undef : Value) :: (tm.getD 21 undef : Value) :: (tm.getD 22 undef : Value) :: (tm.getD 23 undef : Value) :: (tm.getD 24 undef : Value) :: (tm.getD 25 undef : Value) :: (tm.getD 26 undef : Value) :: (tm.getD 27 undef : Value) :: (tm.getD 28 undef : Value) :: (tm.getD 29 undef : Value) :: (tm.getD 30 undef : Value) :: (tm.getD 31 undef : Value) :: (tm.getD 32 undef : Value) :: (tm.getD 33 undef : Value) :: (u34 : Value) :: (undef : Value) :: []) hs (by show (tm.getD 0 undef :: tm.getD 1 undef :: tm.getD 2 undef :: tm.getD 3 undef :: tm.getD 4 undef :: tm.getD 5 undef :: tm.getD 6 undef :: tm.getD 7 undef :: tm.getD 8 undef :: tm.getD 9 undef :: tm.getD 10 undef :: tm.getD 11 undef :: tm.getD 12 undef :: tm.getD 13 undef :: tm.getD 14 undef :: tm.getD 15 undef :: tm.getD 16 undef :: tm.getD 17 undef :: tm.getD 18 undef :: tm.getD 19 undef :: tm.getD 20 undef :: tm.getD 21 undef :: tm.getD 22 undef :: tm.getD 23 undef :: tm.getD 24 undef :: tm.getD 25 undef :: tm.getD 26 undef :: tm.getD 27 undef :: tm.getD 28 undef :: tm.getD 29 undef :: tm.getD 30 undef :: tm.getD 31 undef :: tm.getD 32 undef :: tm.getD 33 undef :: tm.getD 34 undef :: tm.getD 35 undef :: []) = _; rw [e0, e1, e2, e3, e4, e5, e6, e7, e8, e9, e10, e11, e34, e35]; try rfl)
        clear hs hk hG e0 e1 e2 e3 e4 e5 e6 e7 e8 e9 e10 e11 e34 e35
        generalize tm.getD 12 undef = t12 at htm g12
        generalize tm.getD 13 undef = t13 at htm g13
        generalize tm.getD 14 undef = t14 at htm g14
        generalize tm.getD 15 undef = t15 at htm g15
        generalize tm.getD 16 undef = t16 at htm g16
        generalize tm.getD 17 undef = t17 at htm g17
        generalize tm.getD 18 undef = t18 at htm g18
        generalize tm.getD 19 undef = t19 at htm g19
        generalize tm.getD 20 undef = t20 at htm g20
        generalize tm.getD 21 undef = t21 at htm g21
        generalize tm.getD 22 undef = t22 at htm g22
        generalize tm.getD 23 undef = t23 at htm g23
        generalize tm.getD 24 undef = t24 at htm g24
        generalize tm.getD 25 undef = t25 at htm g25
        generalize tm.getD 26 undef = t26 at htm g26
        generalize tm.getD 27 undef = t27 at htm g27
        generalize tm.getD 28 undef = t28 at htm g28
        generalize tm.getD 29 undef = t29 at htm g29
        generalize tm.getD 30 undef = t30 at htm g30
        generalize tm.getD 31 undef = t31 at htm g31
        generalize tm.getD 32 undef = t32 at htm g32
        generalize tm.getD 33 undef = t33 at htm g33
        subst htm
        subst g12
        subst g13
        subst g14
        subst g15
        subst g16
        subst g18
        subst g19
        subst g20
        subst g21
        subst g22
        subst g23
        subst g24
        subst g26
        subst g27
        subst g28
        subst g29
        subst g30
        subst g31
        subst g32
        subst g33
        simp only [List.drop_succ_cons, List.drop_zero]
        have HB4 := Lib.hid (HXB.out.trans (hB.mono hXz))
        clear g17 g25 hB HE8 HN HW
        obtain ⟨O2, hO2⟩ : ∃ O2, O ++ (⟨#[b0]⟩ ++ m.nm ++ ⟨#[b1]⟩ ++ ⟨(numK m.id 8).toArray⟩) = O2 := ⟨_, rfl⟩
        rw [hO2] at HP
        simp only [hO2]
        clear hO2
        go_wp2_with fail
        exact ⟨⟨k + 1, by omega, by rw [HP.out], rfl, HB4.out⟩, by simp only [intOf]; omega⟩
    · obtain rfl : k = l.length := by omega
      rw [List.take_length]
      obtain ⟨O, hO⟩ : ∃ O, (⟨(encB l).toArray⟩ : ByteArray) = O := ⟨_, rfl⟩
      rw [hO]
      go_wp2_with fail
      go_ret
      exact ⟨by rw [hO]; rfl, hb⟩
end Go.Proofs.YthifejdphflfpaaDoor

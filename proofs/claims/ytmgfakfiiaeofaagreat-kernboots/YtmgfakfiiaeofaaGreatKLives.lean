/- The chapter's examples live. -/
import Derived.Test.YtmgfakfiiaeofaaGreatHoLabR
namespace Go.Proofs.YtmgfakfiiaeofaaGreat
open Go.RowKit Go.Sort
theorem First_any (w : World) : Calls Tryz.prog 10 #[] w fun e w' => e = .returned (.agg #[.int .i64 1, .int .i64 2, .int .i64 3]) /\ Below w.heap.size w w' := by
 go_enter Tryz.func10, Tryz.ntmps10
 go_wp2
 refine bodyPost_ret (v := .agg #[.int .i64 1, .int .i64 2, .int .i64 3]) (by simp [results, Tryz.results10, go_sem]) rfl ⟨rfl, ?_⟩
 go_grown
theorem one_any (w : World) : Calls Tryz.prog 12 #[] w fun e w' => e = .returned (.agg #[.int .i64 2, .slice none 0 0]) /\ Below w.heap.size w w' := by
 go_enter Tryz.func12, Tryz.ntmps12
 go_wp2
 refine bodyPost_ret (v := .agg #[.int .i64 2, .slice none 0 0]) (by simp [results, Tryz.results12, go_sem]) rfl ⟨rfl, ?_⟩
 go_grown
theorem keep_blk {W X : World} {K K' : Kn} {b : Nat} {o : Obj} (h : W.heap[b]? = some o) (ho : K.own b = none) (hk : ∀ k, k < W.heap.size -> K.own k = none -> X.heap[k]? = W.heap[k]? /\ K'.own k = none) : X.heap[b]? = some o /\ K'.own b = none :=
 have h5 := hk b (Array.getElem?_eq_some_iff.1 h).1 ho
 ⟨h5.1.trans h, h5.2⟩
set_option maxRecDepth 100000 in
set_option maxHeartbeats 8000000 in
theorem lives_any (w : World) : Calls Tryz.prog 4 #[] w fun e w' => e = .returned (.bool true) /\ Below w.heap.size w w' := by
 have HN := Lib.hid (fun X => New_any 1 2 3 X (by decide) (by decide) (by decide) (by decide) (by decide) (by decide))
 go_enter Tryz.func4, Tryz.ntmps4
 go_wp2_with (first
  | (go_at_call 10; refine (First_any _).mono ?_; rintro e W0 ⟨rfl, hb0⟩)
  | (go_at_call 5; refine (HN.out _).mono ?_; rintro e W1 ⟨K, rfl, hK, hF, hb1, -⟩; refine Hid.out ?_))
 refine Lib.hid ?_
 obtain ⟨X1, hX1⟩ : ∃ X1, W1.alloc (.cells #[.int .i64 1, .int .i64 10] 43) = X1 := ⟨_, rfl⟩
 have hx1 : Below W1.heap.size W1 X1 := by rw [<- hX1]; exact (Below.refl _ _).alloc (Nat.le_refl _) _
 have hat : X1.heap[W1.heap.size]? = some (.cells #[.int .i64 1, .int .i64 10] 43 (0, 0)) := by rw [<- hX1]; exact heap_alloc_new _ _
 have hz1 : W1.heap.size < X1.heap.size := by rw [<- hX1]; simp
 have oat : K.own W1.heap.size = none := own_ge hK (Nat.le_refl _)
 have HD1 := Lib.hid (fun X (hx : Below X1.heap.size X1 X) => do_cell ((hK.below hx1).below hx) hF)
 obtain ⟨kb, hkb⟩ : ∃ kb, K.kb = kb := ⟨_, rfl⟩
 rw [hkb] at HD1 |-
 have Hkb := Lib.hid hkb
 clear hkb
 have hlo : w.heap.size <= W0.heap.size := hb0.size
 have HB1 := Lib.hid (hb0.trans ((hb1.trans (hx1.mono hb1.size)).mono hlo))
 obtain ⟨ab, hab⟩ : ∃ ab, W1.heap.size = ab := ⟨_, rfl⟩
 rw [hab] at hat hz1 oat
 have Hat := Lib.hid hat
 have Oat := Lib.hid oat
 have Hlo := Lib.hid hlo
 clear hx1 hb1 hK hF hat oat HN hz1 hb0 hlo
 go_upto_region 5 with fail
 clear hX1 hab
 go_wp2_with (first
  | (go_at_call 12; refine (one_any _).mono ?_; rintro e Y1 ⟨rfl, hy1⟩)
  | (go_at_call 11; refine (HD1.out Y1 hy1).mono ?_; rintro e W2 ⟨rfl, K2, hK2, ⟨hkb2, hL2⟩, hb2, hkp2⟩; refine Hid.out ?_))
 refine Lib.hid ?_
 obtain ⟨hat2, oat2⟩ := keep_blk ((hy1.block ab (Array.getElem?_eq_some_iff.1 Hat.out).1).trans Hat.out) Oat.out hkp2
 have HB2 := Lib.hid (HB1.out.trans ((hy1.mono HB1.out.size).trans (hb2.mono Hlo.out)))
 clear hy1 hb2 hkp2 HD1 HB1 Hat Oat Hkb
 unfold tdV
 go_upto_region 6 with fail
 obtain ⟨X2, hX2⟩ : ∃ X2, W2.alloc (.cells #[.int .i64 10, .string ⟨#[]⟩, .int .i64 0, .slice none 0 0, .int .i64 0, .slice none 0 0, .slice none 0 0, .slice none 0 0] 49) = X2 := ⟨_, rfl⟩
 have hx2 : Below W2.heap.size W2 X2 := by rw [<- hX2]; exact (Below.refl _ _).alloc (Nat.le_refl _) _
 have ht2 : X2.heap[W2.heap.size]? = some (.cells #[.int .i64 10, .string ⟨#[]⟩, .int .i64 0, .slice none 0 0, .int .i64 0, .slice none 0 0, .slice none 0 0, .slice none 0 0] 49 (0, 0)) := by rw [<- hX2]; exact heap_alloc_new _ _
 have ot2 : K2.own W2.heap.size = none := own_ge hK2 (Nat.le_refl _)
 have hatx2 := (hx2.block ab (Array.getElem?_eq_some_iff.1 hat2).1).trans hat2
 obtain ⟨t2, ht2e⟩ : ∃ t2, W2.heap.size = t2 := ⟨_, rfl⟩
 rw [ht2e] at ht2 ot2
 rw [hX2, ht2e]
 clear hX2 ht2e
 have HD2 := Lib.hid (do_write (hK2.below hx2) hL2)
 rw [hkb2] at HD2
 have HB2x := Lib.hid (HB2.out.trans (hx2.mono HB2.out.size))
 have a0 : X2.cell? ⟨ab, 0, none⟩ = some (.int .i64 1) := by simp [World.cell?, hatx2]
 have a1 : X2.cell? ⟨ab, 1, none⟩ = some (.int .i64 10) := by simp [World.cell?, hatx2]
 have Hatx := Lib.hid hatx2
 have Oatx := Lib.hid oat2
 have Ht2 := Lib.hid ht2
 have Ot2 := Lib.hid ot2
 have Hkb2 := Lib.hid hkb2
 clear hK2 hL2 hx2 hatx2 hat2 oat2 ht2 ot2 hkb2 HB2
 go_wp2_with (go_at_call 11; refine HD2.out.mono ?_; rintro e W3 ⟨rfl, K3, hK3, ⟨hkb3, hL3⟩, hb3, hkp3⟩; refine Hid.out ?_)
 refine Lib.hid ?_
 obtain ⟨hat3, oat3⟩ := keep_blk Hatx.out Oatx.out hkp3
 obtain ⟨hb3_2, ob3_2⟩ := keep_blk Ht2.out Ot2.out hkp3
 have HB3 := Lib.hid (HB2x.out.trans (hb3.mono Hlo.out))
 clear hb3 hkp3 HD2 HB2x Hatx Oatx Ht2 Ot2 a0 a1 Hkb2
 unfold tdV
 go_upto_region 7 with fail
 obtain ⟨X3, hX3⟩ : ∃ X3, W3.alloc (.cells #[.int .i64 0, .string ⟨#[]⟩, .int .i64 0, .slice none 0 0, .int .i64 0, .slice none 0 0, .slice none 0 0, .slice none 0 0] 49) = X3 := ⟨_, rfl⟩
 have hx3 : Below W3.heap.size W3 X3 := by rw [<- hX3]; exact (Below.refl _ _).alloc (Nat.le_refl _) _
 have ht3 : X3.heap[W3.heap.size]? = some (.cells #[.int .i64 0, .string ⟨#[]⟩, .int .i64 0, .slice none 0 0, .int .i64 0, .slice none 0 0, .slice none 0 0, .slice none 0 0] 49 (0, 0)) := by rw [<- hX3]; exact heap_alloc_new _ _
 have ot3 : K3.own W3.heap.size = none := own_ge hK3 (Nat.le_refl _)
 have hatx3 := (hx3.block ab (Array.getElem?_eq_some_iff.1 hat3).1).trans hat3
 obtain ⟨t3, ht3e⟩ : ∃ t3, W3.heap.size = t3 := ⟨_, rfl⟩
 rw [ht3e] at ht3 ot3
 rw [hX3, ht3e]
 clear hX3 ht3e
 have hx3b2 := (hx3.block t2 (Array.getElem?_eq_some_iff.1 hb3_2).1).trans hb3_2
 have HD3 := Lib.hid (do_read (hK3.below hx3) hL3)
 rw [hkb3] at HD3
 have HB3x := Lib.hid (HB3.out.trans (hx3.mono HB3.out.size))
 have a0 : X3.cell? ⟨ab, 0, none⟩ = some (.int .i64 1) := by simp [World.cell?, hatx3]
 have a1 : X3.cell? ⟨ab, 1, none⟩ = some (.int .i64 10) := by simp [World.cell?, hatx3]
 have Hatx := Lib.hid hatx3
 have Oatx := Lib.hid oat3
 have Ht3 := Lib.hid ht3
 have Ot3 := Lib.hid ot3
 have Hx3b2 := Lib.hid hx3b2
 have Ox3b2 := Lib.hid ob3_2
 have Hkb3 := Lib.hid hkb3
 clear hK3 hL3 hx3 hatx3 hat3 oat3 ht3 ot3 hkb3 HB3 hx3b2 hb3_2 ob3_2
 go_wp2_with (go_at_call 11; refine HD3.out.mono ?_; rintro e W4 ⟨rfl, K4, hK4, ⟨hkb4, hL4⟩, hb4, hkp4⟩; refine Hid.out ?_)
 refine Lib.hid ?_
 obtain ⟨hat4, oat4⟩ := keep_blk Hatx.out Oatx.out hkp4
 obtain ⟨hb4_3, ob4_3⟩ := keep_blk Ht3.out Ot3.out hkp4
 obtain ⟨hb4_2, ob4_2⟩ := keep_blk Hx3b2.out Ox3b2.out hkp4
 have HB4 := Lib.hid (HB3x.out.trans (hb4.mono Hlo.out))
 clear hb4 hkp4 HD3 HB3x Hatx Oatx Ht3 Ot3 a0 a1 Hkb3 Hx3b2 Ox3b2
 unfold tdV
 go_upto_region 8 with fail
 obtain ⟨X4, hX4⟩ : ∃ X4, W4.alloc (.cells #[.int .i64 0, .string ⟨#[97, 98, 0]⟩, .int .i64 0, .slice none 0 0, .int .i64 0, .slice none 0 0, .slice none 0 0, .slice none 0 0] 49) = X4 := ⟨_, rfl⟩
 have hx4 : Below W4.heap.size W4 X4 := by rw [<- hX4]; exact (Below.refl _ _).alloc (Nat.le_refl _) _
 have ht4 : X4.heap[W4.heap.size]? = some (.cells #[.int .i64 0, .string ⟨#[97, 98, 0]⟩, .int .i64 0, .slice none 0 0, .int .i64 0, .slice none 0 0, .slice none 0 0, .slice none 0 0] 49 (0, 0)) := by rw [<- hX4]; exact heap_alloc_new _ _
 have ot4 : K4.own W4.heap.size = none := own_ge hK4 (Nat.le_refl _)
 have hatx4 := (hx4.block ab (Array.getElem?_eq_some_iff.1 hat4).1).trans hat4
 obtain ⟨t4, ht4e⟩ : ∃ t4, W4.heap.size = t4 := ⟨_, rfl⟩
 rw [ht4e] at ht4 ot4
 rw [hX4, ht4e]
 clear hX4 ht4e
 have hx4b2 := (hx4.block t2 (Array.getElem?_eq_some_iff.1 hb4_2).1).trans hb4_2
 have hx4b3 := (hx4.block t3 (Array.getElem?_eq_some_iff.1 hb4_3).1).trans hb4_3
 have HD4 := Lib.hid (do_none (hK4.below hx4) hL4)
 rw [hkb4] at HD4
 have HB4x := Lib.hid (HB4.out.trans (hx4.mono HB4.out.size))
 have a0 : X4.cell? ⟨ab, 0, none⟩ = some (.int .i64 1) := by simp [World.cell?, hatx4]
 have a1 : X4.cell? ⟨ab, 1, none⟩ = some (.int .i64 10) := by simp [World.cell?, hatx4]
 have Hatx := Lib.hid hatx4
 have Oatx := Lib.hid oat4
 have Ht4 := Lib.hid ht4
 have Ot4 := Lib.hid ot4
 have Hx4b2 := Lib.hid hx4b2
 have Ox4b2 := Lib.hid ob4_2
 have Hx4b3 := Lib.hid hx4b3
 have Ox4b3 := Lib.hid ob4_3
 have Hkb4 := Lib.hid hkb4
 clear hK4 hL4 hx4 hatx4 hat4 oat4 ht4 ot4 hkb4 HB4 hx4b2 hb4_2 ob4_2 hx4b3 hb4_3 ob4_3
 go_wp2_with (go_at_call 11; refine HD4.out.mono ?_; rintro e W5 ⟨rfl, K5, hK5, ⟨hkb5, hL5⟩, hb5, hkp5⟩; refine Hid.out ?_)
 refine Lib.hid ?_
 obtain ⟨hat5, oat5⟩ := keep_blk Hatx.out Oatx.out hkp5
 obtain ⟨hb5_4, ob5_4⟩ := keep_blk Ht4.out Ot4.out hkp5
 obtain ⟨hb5_2, ob5_2⟩ := keep_blk Hx4b2.out Ox4b2.out hkp5
 obtain ⟨hb5_3, ob5_3⟩ := keep_blk Hx4b3.out Ox4b3.out hkp5
 have HB5 := Lib.hid (HB4x.out.trans (hb5.mono Hlo.out))
 clear hb5 hkp5 HD4 HB4x Hatx Oatx Ht4 Ot4 a0 a1 Hkb4 Hx4b2 Ox4b2 Hx4b3 Ox4b3
 unfold tdV
 go_upto_region 9 with fail
 obtain ⟨X5, hX5⟩ : ∃ X5, W5.alloc (.cells #[.int .i64 0, .string ⟨#[]⟩, .int .i64 0, .slice none 0 0, .int .i64 0, .slice none 0 0, .slice none 0 0, .slice none 0 0] 49) = X5 := ⟨_, rfl⟩
 have hx5 : Below W5.heap.size W5 X5 := by rw [<- hX5]; exact (Below.refl _ _).alloc (Nat.le_refl _) _
 have ht5 : X5.heap[W5.heap.size]? = some (.cells #[.int .i64 0, .string ⟨#[]⟩, .int .i64 0, .slice none 0 0, .int .i64 0, .slice none 0 0, .slice none 0 0, .slice none 0 0] 49 (0, 0)) := by rw [<- hX5]; exact heap_alloc_new _ _
 have ot5 : K5.own W5.heap.size = none := own_ge hK5 (Nat.le_refl _)
 have hatx5 := (hx5.block ab (Array.getElem?_eq_some_iff.1 hat5).1).trans hat5
 obtain ⟨t5, ht5e⟩ : ∃ t5, W5.heap.size = t5 := ⟨_, rfl⟩
 rw [ht5e] at ht5 ot5
 rw [hX5, ht5e]
 clear hX5 ht5e
 have hx5b2 := (hx5.block t2 (Array.getElem?_eq_some_iff.1 hb5_2).1).trans hb5_2
 have hx5b3 := (hx5.block t3 (Array.getElem?_eq_some_iff.1 hb5_3).1).trans hb5_3
 have hx5b4 := (hx5.block t4 (Array.getElem?_eq_some_iff.1 hb5_4).1).trans hb5_4
 have n0 : X5.cell? ⟨t2, 0, none⟩ = some (.int .i64 10) := by simp [World.cell?, hx5b2]
 have n1 : X5.cell? ⟨t4, 1, none⟩ = some (.string ⟨#[97, 98, 0]⟩) := by simp [World.cell?, hx5b4]
 have HBE := Lib.hid (HB5.out.trans (hx5.mono HB5.out.size))
 clear hK5 hL5 hx5 hatx5 hat5 oat5 ht5 ot5 hkb5 HB5 hx5b2 hx5b3 hx5b4 hb5_2 hb5_3 hb5_4 ob5_2 ob5_3 ob5_4
 go_wp2
 go_ret
 exact ⟨rfl, HBE.out⟩
end Go.Proofs.YtmgfakfiiaeofaaGreat

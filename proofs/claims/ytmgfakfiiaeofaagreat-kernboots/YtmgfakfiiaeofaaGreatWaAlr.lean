/- Alerts of package wait, of a thread that has none. -/
import Derived.Test.YtmgfakfiiaeofaaGreatSq
import Derived.Test.YtmgfakfiiaeofaaGreatKoCst
import Derived.Laws.BytesArg
import Derived.Test.YtmgfakfiiaeofaaGreatKBegin
import Derived.Test.YtmgfakfiiaeofaaGreatKNewP
import Derived.Test.YtmgfakfiiaeofaaGreatHoTab
import Derived.Test.YtmgfakfiiaeofaaGreatKoRTail
import Derived.Test.YtmgfakfiiaeofaaGreatWaAlertF
/- What Object of package kern tells of a device that nothing was put into, and that said nothing. -/
namespace Go.Proofs.YtmgfakfiiaeofaaGreat
open Go.RowKit Go.Sort
set_option maxRecDepth 100000 in
set_option maxHeartbeats 4000000 in
theorem Object_dev {lo : Nat} {W : World} {K : Kn} (hK : KAt lo W K) (x : Int) (hx : Ho.i64 x) (r : Ho.Rc) (hT : K.T x = some r) (hk : r.ob.kind = 6) (hm : r.ob.cats.length <= 16) {n : Nat} {fD : Lit -> Option Nat} (hD : Wa.MAt W 3 K.md n fD) {B : Nat} (hB : fD (Wa.ky x) = some B) (hd : W.heap[B]? = some (.cells dvZ 76 (0, 0))) :
 Calls Tryz.prog 25 #[.pointer (some ⟨K.kb, 0, none⟩), .int .i64 x] W fun e W' => ∃ p cap, e = .returned (.tuple #[.agg (tellO r.ob p cap).cs, .bool true]) /\ (Vw.CatsAt W' p r.ob.cats /\ (p = none -> cap = 0)) /\ Below W.heap.size W W' := by
 have HD := Lib.hid hD
 have HBd := Lib.hid hB
 have Hd := Lib.hid hd
 have Hdz : Hid (K.md < W.heap.size) := Lib.hid hD.lt
 clear hD hB hd
 have HKX := Lib.hid (fun X (hX : Below W.heap.size W X) => hK.below hX)
 have hkz : K.kb < W.heap.size := (Array.getElem?_eq_some_iff.1 hK.blk).1
 have HI := Lib.hid infoO
 have Hm : Hid (r.ob.cats.length * 16 <= 140737488355328) := Lib.hid (by omega)
 have HT := Lib.hid hT
 have Hkz := Lib.hid hkz
 clear hK hT hkz
 go_enter Tryz.func25, Tryz.ntmps25
 go_upto_region 1 with fail
 refine wp_new_block W _ _ 38 rfl (fun X0 Z4 hz4 hb0 hA4 hs0 => ?_)
 obtain ⟨b4, hb4⟩ : ∃ b4, W.heap.size = b4 := ⟨_, rfl⟩
 have HKX0 := HKX.out X0 hb0
 have k0 : X0.cell? ⟨K.kb, 0, none⟩ = some (.pointer (some ⟨K.tb, 0, none⟩)) := HKX0.cell 0
 have HInfo := Lib.hid (Ho.Info_any HKX0.tab x hx r HT.out Hm.out)
 have HB0 := Lib.hid hb0
 rw [hb4] at hA4 hs0 |-
 have HA4 := Lib.hid hA4
 have Hz4 := Lib.hid hz4
 have Hs0 : Hid (b4 < X0.heap.size) := Lib.hid (by omega)
 have Hb4 := Lib.hid hb4
 clear HKX0 hb0 hA4 hs0 hb4 hz4
 go_wp2_with (go_at_call 48; refine HInfo.out.mono ?_; rintro e W2 ⟨v, rfl, ⟨sp, c, rfl, hrow⟩, hb2⟩; refine Hid.out ?_)
 refine Lib.hid ?_
 have HB2 := Lib.hid (HB0.out.trans (hb2.mono HB0.out.size))
 have HA42 := Lib.hid (HA4.out.below hb2 Hs0.out)
 have Hs2 := Lib.hid (Nat.lt_of_lt_of_le Hs0.out hb2.size)
 obtain ⟨hc1, hc2, hc3⟩ := cats_of hrow
 have Hrow := Lib.hid hc1
 have Hcn := Lib.hid hc2
 have Hcl : Hid (∀ a, sp = some a -> b4 < a.block /\ a.block < W2.heap.size) := Lib.hid (fun a ha => ⟨Nat.lt_of_lt_of_le Hs0.out (hc3 a ha).1, (hc3 a ha).2⟩)
 clear hb2 HA4 Hs0 HB0 HInfo k0 hrow hc1 hc2 hc3
 unfold Ho.infoV
 go_upto_region 4 with fail
 obtain ⟨X2, hX2⟩ : ∃ X2, W2.alloc (.cells #[.int .i64 r.ob.id, .int .i64 6, .int .i64 r.ob.quota, .int .i64 r.ob.used, .int .i64 r.ob.links, .int .i64 r.ob.df, .slice sp r.ob.cats.length c] 89) = X2 := ⟨_, rfl⟩
 have hx2 : Below W2.heap.size W2 X2 := by rw [<- hX2]; exact (Below.refl _ _).alloc (Nat.le_refl _) _
 have hi6 : X2.heap[W2.heap.size]? = some (.cells #[.int .i64 r.ob.id, .int .i64 6, .int .i64 r.ob.quota, .int .i64 r.ob.used, .int .i64 r.ob.links, .int .i64 r.ob.df, .slice sp r.ob.cats.length c] 89 (0, 0)) := by rw [<- hX2]; exact heap_alloc_new _ _
 obtain ⟨i6, hi6e⟩ : ∃ i6, W2.heap.size = i6 := ⟨_, rfl⟩
 rw [hi6e] at hi6
 rw [hX2, hi6e]
 have HB3 := Lib.hid (HB2.out.trans (hx2.mono HB2.out.size))
 have Hz26 : Hid (W2.heap.size <= X2.heap.size) := Lib.hid hx2.size
 have HA43 := Lib.hid (HA42.out.below hx2 Hs2.out)
 have Hs3 := Lib.hid (Nat.lt_of_lt_of_le Hs2.out hx2.size)
 have Hrow3 := Lib.hid (cats_later Hrow.out hx2)
 have q0 : X2.cell? ⟨i6, 0, none⟩ = some (.int .i64 r.ob.id) := by simp [World.cell?, hi6]
 have q1 : X2.cell? ⟨i6, 1, none⟩ = some (.int .i64 6) := by simp [World.cell?, hi6]
 have q1k : r.ob.kind = 6 := hk
 have q2 : X2.cell? ⟨i6, 2, none⟩ = some (.int .i64 r.ob.quota) := by simp [World.cell?, hi6]
 have q3 : X2.cell? ⟨i6, 3, none⟩ = some (.int .i64 r.ob.used) := by simp [World.cell?, hi6]
 have q4 : X2.cell? ⟨i6, 4, none⟩ = some (.int .i64 r.ob.links) := by simp [World.cell?, hi6]
 have q5 : X2.cell? ⟨i6, 5, none⟩ = some (.int .i64 r.ob.df) := by simp [World.cell?, hi6]
 have q6 : X2.cell? ⟨i6, 6, none⟩ = some (.slice sp r.ob.cats.length c) := by simp [World.cell?, hi6]
 have Hq1 : Hid (∀ X, Below X2.heap.size X2 X -> X.cell? ⟨i6, 1, none⟩ = some (.int .i64 6)) := Lib.hid (fun X hX => (hX.cell (p := ⟨i6, 1, none⟩) (Array.getElem?_eq_some_iff.1 hi6).1).trans q1)
 clear hX2 hx2 hi6 hi6e HB2 HA42 Hs2 Hrow
 obtain ⟨o, ho⟩ : ∃ o, tellO r.ob sp c = o := ⟨_, rfl⟩
 have HL : Hid (o.cl.toArray = #[.int .i64 r.ob.id, .int .i64 6, .int .i64 r.ob.quota, .int .i64 r.ob.used, .int .i64 r.ob.links, .int .i64 r.ob.df, .slice sp r.ob.cats.length c, .slice none 0 0, .string ⟨#[]⟩, .slice none 0 0, .int .i64 0, .slice none 0 0, .int .i64 0, .int .i64 0, .int .u64 0, .int .u64 0, .int .u64 0, .int .u64 0, .int .u64 0, .int .u64 0, .int .u64 0, .int .u64 0, .int .u64 0, .int .u64 0, .int .u64 0, .int .u64 0, .int .u64 0, .int .u64 0, .int .u64 0, .int .u64 0, .int .u64 0, .int .u64 0, .int .i64 0, .int .i64 0, .int .i64 0, .slice none 0 0, .string ⟨#[]⟩, .string ⟨#[]⟩]) := Lib.hid (by rw [<- ho]; unfold tellO Vw.Ob.cl Vw.Ob.hd Vw.Ob.tl; rw [hk]; rfl)
 have Hl : Hid (o.cl.length = 38) := Lib.hid (by rw [<- ho]; rfl)
 have HOo := Lib.hid ho
 clear ho q1k
 go_upto_region 6 with fail
 go_wp2_with (refine Rg.wpList_store_new X2 _ _ rfl _ _ _ rfl o.cl rfl (congrArg Value.agg HL.out.symm) (by rw [Hl.out]; rfl) (by rw [Hl.out]; exact HI.out) (cl_one o) (fun W4 hb4 hA8 hs4 => ?_); refine Hid.out ?_)
 refine Lib.hid ?_
 obtain ⟨b8, hb8⟩ : ∃ b8, X2.heap.size = b8 := ⟨_, rfl⟩
 have HB4 := Lib.hid (HB3.out.trans (hb4.mono HB3.out.size))
 have HA44 := Lib.hid (HA43.out.below hb4 Hs3.out)
 have Hs4 := Lib.hid (Nat.lt_of_lt_of_le Hs3.out hb4.size)
 have q1 := Hq1.out W4 hb4
 have Hc4 := Lib.hid (cats_later Hrow3.out hb4)
 have hne : b8 ≠ b4 := by have := Hs3.out; omega
 have Hne := Lib.hid hne
 have Hb8' : Hid (W.heap.size <= b8) := Lib.hid (by have := HB3.out.size; omega)
 have Hb8 : Hid (W.heap.size <= b8) := Lib.hid (by have := HB3.out.size; omega)
 have Hc8 : Hid (∀ a, sp = some a -> a.block ≠ b4 /\ a.block ≠ b8) := Lib.hid (fun a ha => by have := Hcl.out a ha; have := Hz26.out; omega)
 have HK4 := HKX.out W4 HB4.out
 rw [hb8] at hA8 hs4 |-
 have HA8 := Lib.hid hA8
 have Hs8 : Hid (b8 < W4.heap.size) := Lib.hid (by omega)
 clear hb4 hA8 hs4 hb8 hne HB3 HA43 Hs3 Hq1 Hrow3 q0 q2 q3 q4 q5 q6
 have k6 : W4.cell? ⟨K.kb, 6, none⟩ = some (.map (some K.md)) := HK4.cell 6
 have hlk := (HD.out.same (HB4.out.block K.md Hdz.out)).look (T := 77) (e := 73) keyedI (by kernel_rfl) (by kernel_rfl) (Wa.keyI hx)
 rw [HBd.out] at hlk
 have hlk' : (Instr.lookup 77 (.map (some K.md)) (.int .i64 x) false).run Tryz.prog W4 = .ok (.pointer (some ⟨B, 0, none⟩)) W4 := hlk
 have hd4 := (HB4.out.block B (Array.getElem?_eq_some_iff.1 Hd.out).1).trans Hd.out
 have d0 : W4.cell? ⟨B, 0, none⟩ = some (.slice none 0 0) := by simp [World.cell?, hd4, dvZ]
 have d1 : W4.cell? ⟨B, 1, none⟩ = some (.slice none 0 0) := by simp [World.cell?, hd4, dvZ]
 have hBl : B < W4.heap.size := (Array.getElem?_eq_some_iff.1 hd4).1
 have hBn : B ≠ b8 := by have := (Array.getElem?_eq_some_iff.1 Hd.out).1; have := Hb8'.out; omega
 have hcv : ∀ Y : World, (convert 74 9 (.slice none 0 0)).run Tryz.prog Y = .ok (.string ⟨#[]⟩) Y := fun Y => run_convert_bytes_nil (w := Y) 74 5 (by kernel_rfl) (by kernel_rfl) 0 0 9 (by kernel_rfl)
 have HAt0 : Hid (Rg.At W4 b8 0 ((fun _ : Bool => o.cl) false)) := HA8
 have HLen : Hid (∀ bb : Bool, ((fun _ : Bool => o.cl) bb).length = 38) := Lib.hid (fun _ => Hl.out)
 have HS11 : Hid (∀ bb : Bool, ((fun _ : Bool => o.cl) bb).take 36 ++ [.string ⟨#[]⟩] ++ ((fun _ : Bool => o.cl) bb).drop (36 + [(.string ⟨#[]⟩ : Value)].length) = o.cl) := Lib.hid (fun _ => by rw [<- HOo.out]; rfl)
 have HS13 : Hid (∀ bb : Bool, ((fun _ : Bool => o.cl) bb).take 37 ++ [.string ⟨#[]⟩] ++ ((fun _ : Bool => o.cl) bb).drop (37 + [(.string ⟨#[]⟩ : Value)].length) = o.cl) := Lib.hid (fun _ => by rw [<- HOo.out]; rfl)
 clear HK4 hlk hd4
 go_upto_region 21 with fail
 refine Ko.wp_region_cst (fun d => match d with | 102 => .pointer (some ⟨B, 0, none⟩) | 103 => .pointer (some ⟨B, 0, none⟩) | 104 => .pointer (some ⟨B, 0, none⟩) | 105 => .slice none 0 0 | 106 => .string ⟨#[]⟩ | 107 => .pointer (some ⟨B, 0, none⟩) | 108 => .pointer (some ⟨B, 0, none⟩) | 109 => .pointer (some ⟨B, 1, none⟩) | 110 => .slice none 0 0 | 111 => .string ⟨#[]⟩ | 112 => .pointer (some ⟨b8, 36, none⟩) | 113 => .pointer (some ⟨b8, 37, none⟩) | _ => undef) (fun li Wq => Rg.Oth b8 W4 Wq /\ Rg.At Wq b8 0 ((fun _ : Bool => o.cl) (false))) (by kernel_rfl) (by kernel_rfl) (by kernel_rfl) ?_ ?_ ?_
 · exact ⟨⟨rfl, rfl, rfl, Nat.le_refl _, fun _ _ _ => rfl⟩, HAt0.out.of_block rfl⟩
 · intro a' X li hJ hs hk i o ho hli hdn hG hcb
   obtain ⟨hO, hA⟩ := hJ
   match i, ho with
   | 0, ho =>
    cases ho
    have g10 : a'.eval (.tmp 10) = .pointer (some ⟨B, 0, none⟩) := hk 10 (by kernel_rfl)
    generalize a'.eval = ev at g10 |-
    refine ⟨rfl, .inl ⟨102, X, rfl, ?_, fun li' h1 h2 => ⟨hO, hA⟩⟩⟩
    clear hG hk hdn hcb hO hA hs
    go_simp
   | 1, ho =>
    cases ho
    have g102 : a'.eval (.tmp 102) = .pointer (some ⟨B, 0, none⟩) := hG 0 102 (hdn ⟨0, .data⟩ (by simp) rfl) rfl
    generalize a'.eval = ev at g102 |-
    refine ⟨rfl, .inl ⟨103, X, rfl, ?_, fun li' h1 h2 => ⟨hO, hA⟩⟩⟩
    clear hG hk hdn hcb hO hA hs
    go_simp
   | 2, ho =>
    cases ho
    have g103 : a'.eval (.tmp 103) = .pointer (some ⟨B, 0, none⟩) := hG 1 103 (hdn ⟨1, .data⟩ (by simp) rfl) rfl
    generalize a'.eval = ev at g103 |-
    refine ⟨rfl, .inl ⟨104, X, rfl, ?_, fun li' h1 h2 => ⟨hO, hA⟩⟩⟩
    clear hG hk hdn hcb hO hA hs
    go_simp
   | 3, ho =>
    cases ho
    have g104 : a'.eval (.tmp 104) = .pointer (some ⟨B, 0, none⟩) := hG 2 104 (hdn ⟨2, .data⟩ (by simp) rfl) rfl
    have hh : ∀ k, k < W4.heap.size -> k ≠ b8 -> X.heap[k]? = W4.heap[k]? := hO.block
    have d0X := (World.cell?_of_block (a := ⟨B, 0, none⟩) (hh B hBl hBn)).trans d0; have hcvX := hcv X; have d1X := (World.cell?_of_block (a := ⟨B, 1, none⟩) (hh B hBl hBn)).trans d1; clear hh
    generalize a'.eval = ev at g104 |-
    refine ⟨rfl, .inl ⟨105, X, rfl, ?_, fun li' h1 h2 => ⟨hO, hA⟩⟩⟩
    clear hG hk hdn hcb hO hA hs
    go_simp
   | 4, ho =>
    cases ho
    have g105 : a'.eval (.tmp 105) = .slice none 0 0 := hG 3 105 (hdn ⟨3, .data⟩ (by simp) rfl) rfl
    have hcvX := hcv X
    generalize a'.eval = ev at g105 |-
    refine ⟨rfl, .inl ⟨106, X, rfl, ?_, fun li' h1 h2 => ⟨hO, hA⟩⟩⟩
    clear hG hk hdn hcb hO hA hs
    go_simp
   | 5, ho =>
    cases ho
    have g10 : a'.eval (.tmp 10) = .pointer (some ⟨B, 0, none⟩) := hk 10 (by kernel_rfl)
    generalize a'.eval = ev at g10 |-
    refine ⟨rfl, .inl ⟨107, X, rfl, ?_, fun li' h1 h2 => ⟨hO, hA⟩⟩⟩
    clear hG hk hdn hcb hO hA hs
    go_simp
   | 6, ho =>
    cases ho
    have g107 : a'.eval (.tmp 107) = .pointer (some ⟨B, 0, none⟩) := hG 5 107 (hdn ⟨5, .data⟩ (by simp) rfl) rfl
    generalize a'.eval = ev at g107 |-
    refine ⟨rfl, .inl ⟨108, X, rfl, ?_, fun li' h1 h2 => ⟨hO, hA⟩⟩⟩
    clear hG hk hdn hcb hO hA hs
    go_simp
   | 7, ho =>
    cases ho
    have g108 : a'.eval (.tmp 108) = .pointer (some ⟨B, 0, none⟩) := hG 6 108 (hdn ⟨6, .data⟩ (by simp) rfl) rfl
    generalize a'.eval = ev at g108 |-
    refine ⟨rfl, .inl ⟨109, X, rfl, ?_, fun li' h1 h2 => ⟨hO, hA⟩⟩⟩
    clear hG hk hdn hcb hO hA hs
    go_simp
   | 8, ho =>
    cases ho
    have g109 : a'.eval (.tmp 109) = .pointer (some ⟨B, 1, none⟩) := hG 7 109 (hdn ⟨7, .data⟩ (by simp) rfl) rfl
    have hh : ∀ k, k < W4.heap.size -> k ≠ b8 -> X.heap[k]? = W4.heap[k]? := hO.block
    have d0X := (World.cell?_of_block (a := ⟨B, 0, none⟩) (hh B hBl hBn)).trans d0; have hcvX := hcv X; have d1X := (World.cell?_of_block (a := ⟨B, 1, none⟩) (hh B hBl hBn)).trans d1; clear hh
    generalize a'.eval = ev at g109 |-
    refine ⟨rfl, .inl ⟨110, X, rfl, ?_, fun li' h1 h2 => ⟨hO, hA⟩⟩⟩
    clear hG hk hdn hcb hO hA hs
    go_simp
   | 9, ho =>
    cases ho
    have g110 : a'.eval (.tmp 110) = .slice none 0 0 := hG 8 110 (hdn ⟨8, .data⟩ (by simp) rfl) rfl
    have hcvX := hcv X
    generalize a'.eval = ev at g110 |-
    refine ⟨rfl, .inl ⟨111, X, rfl, ?_, fun li' h1 h2 => ⟨hO, hA⟩⟩⟩
    clear hG hk hdn hcb hO hA hs
    go_simp
   | 10, ho =>
    cases ho
    have g8 : a'.eval (.tmp 8) = .pointer (some ⟨b8, 0, none⟩) := hk 8 (by kernel_rfl)
    generalize a'.eval = ev at g8 |-
    refine ⟨rfl, .inl ⟨112, X, rfl, ?_, fun li' h1 h2 => ⟨hO, hA⟩⟩⟩
    clear hG hk hdn hcb hO hA hs
    go_simp
   | 11, ho =>
    cases ho
    have g106 : a'.eval (.tmp 106) = .string ⟨#[]⟩ := hG 4 106 (hdn ⟨4, .data⟩ (by simp) rfl) rfl
    have g112 : a'.eval (.tmp 112) = .pointer (some ⟨b8, 36, none⟩) := hG 10 112 (hdn ⟨10, .data⟩ (by simp) rfl) rfl
    have hA2 := put_at hA (i := 36) (vs := [.string ⟨#[]⟩]) (by rw [HLen.out false]; decide) (HS11.out false)
    refine ⟨rfl, .inr (.inl ⟨X.setCells b8 36 [.string ⟨#[]⟩], rfl, ?_, fun li' h1 h2 => ⟨hO.trans (Rg.Oth.setCells _ _ _ _), hA2⟩⟩)⟩
    have hth : X.there b8 36 1 := fun j hj => by have := hA.there (36 + j) (by rw [HLen.out false]; omega); rwa [Nat.zero_add] at this
    obtain ⟨u, hu⟩ := Option.isSome_iff_exists.1 (hth 0 (by decide)).1
    have hfz := (hth 0 (by decide)).2
    generalize a'.eval = ev at g106 g112 |-
    clear hG hk hdn hcb hO hA2 hA hth
    simp only [Nat.add_zero] at hu hfz
    rw [<- Rg.setCell_one]
    go_simp
   | 12, ho =>
    cases ho
    have g8 : a'.eval (.tmp 8) = .pointer (some ⟨b8, 0, none⟩) := hk 8 (by kernel_rfl)
    generalize a'.eval = ev at g8 |-
    refine ⟨rfl, .inl ⟨113, X, rfl, ?_, fun li' h1 h2 => ⟨hO, hA⟩⟩⟩
    clear hG hk hdn hcb hO hA hs
    go_simp
   | 13, ho =>
    cases ho
    have g111 : a'.eval (.tmp 111) = .string ⟨#[]⟩ := hG 9 111 (hdn ⟨9, .data⟩ (by simp) rfl) rfl
    have g113 : a'.eval (.tmp 113) = .pointer (some ⟨b8, 37, none⟩) := hG 12 113 (hdn ⟨12, .data⟩ (by simp) rfl) rfl
    have hA2 := put_at hA (i := 37) (vs := [.string ⟨#[]⟩]) (by rw [HLen.out false]; decide) (HS13.out false)
    refine ⟨rfl, .inr (.inl ⟨X.setCells b8 37 [.string ⟨#[]⟩], rfl, ?_, fun li' h1 h2 => ⟨hO.trans (Rg.Oth.setCells _ _ _ _), hA2⟩⟩)⟩
    have hth : X.there b8 37 1 := fun j hj => by have := hA.there (37 + j) (by rw [HLen.out false]; omega); rwa [Nat.zero_add] at this
    obtain ⟨u, hu⟩ := Option.isSome_iff_exists.1 (hth 0 (by decide)).1
    have hfz := (hth 0 (by decide)).2
    generalize a'.eval = ev at g111 g113 |-
    clear hG hk hdn hcb hO hA2 hA hth
    simp only [Nat.add_zero] at hu hfz
    rw [<- Rg.setCell_one]
    go_simp
   | j + 14, ho => simp at ho
 · intro a' X li hJ hs hdf hk hall hG
   obtain ⟨hO, hA⟩ := hJ
   obtain ⟨tm, df⟩ := a'
   obtain rfl : df = [] := hdf
   have htm := arr3 [.pointer (some ⟨K.kb, 0, none⟩), .int .i64 x, undef, undef, .pointer (some ⟨b4, 0, none⟩), .bool false, .pointer (some ⟨i6, 0, none⟩), .bool true, .pointer (some ⟨b8, 0, none⟩), undef, .pointer (some ⟨B, 0, none⟩), .pointer (some ⟨K.kb, 0, none⟩), .bool false, undef, .tuple #[.agg #[.int .i64 r.ob.id, .int .i64 6, .int .i64 r.ob.quota, .int .i64 r.ob.used, .int .i64 r.ob.links, .int .i64 r.ob.df, .slice sp r.ob.cats.length c], .bool true], .pointer (some ⟨K.kb, 0, none⟩), .pointer (some ⟨K.kb, 0, none⟩), .pointer (some ⟨K.kb, 0, none⟩), .pointer (some ⟨K.tb, 0, none⟩), .int .i64 x, .tuple #[.agg #[.int .i64 r.ob.id, .int .i64 6, .int .i64 r.ob.quota, .int .i64 r.ob.used, .int .i64 r.ob.links, .int .i64 r.ob.df, .slice sp r.ob.cats.length c], .bool true], .agg #[.int .i64 r.ob.id, .int .i64 6, .int .i64 r.ob.quota, .int .i64 r.ob.used, .int .i64 r.ob.links, .int .i64 r.ob.df, .slice sp r.ob.cats.length c], .bool true, .bool true, .bool false, undef, .agg #[.int .i64 r.ob.id, .int .i64 6, .int .i64 r.ob.quota, .int .i64 r.ob.used, .int .i64 r.ob.links, .int .i64 r.ob.df, .slice sp r.ob.cats.length c], .agg #[.int .i64 r.ob.id, .int .i64 6, .int .i64 r.ob.quota, .int .i64 r.ob.used, .int .i64 r.ob.links, .int .i64 r.ob.df, .slice sp r.ob.cats.length c, .slice none 0 0, .string { data := #[] }, .slice none 0 0, .int .i64 0, .slice none 0 0, .int .i64 0, .int .i64 0, .int .u64 0, .int .u64 0, .int .u64 0, .int .u64 0, .int .u64 0, .int .u64 0, .int .u64 0, .int .u64 0, .int .u64 0, .int .u64 0, .int .u64 0, .int .u64 0, .int .u64 0, .int .u64 0, .int .u64 0, .int .u64 0, .int .u64 0, .int .u64 0, .int .i64 0, .int .i64 0, .int .i64 0, .slice none 0 0, .string { data := #[] }, .string { data := #[] }], .pointer (some ⟨i6, 1, none⟩), .int .i64 6, .bool false, .bool false, undef, undef, undef, undef, undef, undef, undef, undef, undef, undef, .bool false, .bool false, undef, undef, undef, undef, undef, undef, undef, undef, undef, undef, undef, undef, undef, undef, undef, undef, undef, undef, .bool false, .bool false, undef, undef, undef, undef, undef, undef, undef, undef, .bool false, .bool false, undef, undef, .bool false, .bool false, undef, undef, undef, undef, undef, undef, undef, undef, undef, undef, undef, undef, undef, undef, undef, undef, .bool true, .bool true, .pointer (some ⟨K.kb, 0, none⟩), .pointer (some ⟨K.kb, 0, none⟩), .pointer (some ⟨K.kb, 6, none⟩), .map (some K.md), .int .i64 x, .pointer (some ⟨B, 0, none⟩), .pointer (some ⟨B, 0, none⟩), .pointer (some ⟨B, 0, none⟩), .pointer (some ⟨B, 0, none⟩), .slice none 0 0, .string ⟨#[]⟩, .pointer (some ⟨B, 0, none⟩), .pointer (some ⟨B, 0, none⟩), .pointer (some ⟨B, 1, none⟩), .slice none 0 0, .string ⟨#[]⟩, .pointer (some ⟨b8, 36, none⟩), .pointer (some ⟨b8, 37, none⟩), undef] hs (ae 1 (by exact hk 0 rfl) (ae 2 (by exact hk 1 rfl) (ae 3 (by exact hk 2 rfl) (ae 4 (by exact hk 3 rfl) (ae 5 (by exact hk 4 rfl) (ae 6 (by exact hk 5 rfl) (ae 7 (by exact hk 6 rfl) (ae 8 (by exact hk 7 rfl) (ae 9 (by exact hk 8 rfl) (ae 10 (by exact hk 9 rfl) (ae 11 (by exact hk 10 rfl) (ae 12 (by exact hk 11 rfl) (ae 13 (by exact hk 12 rfl) (ae 14 (by exact hk 13 rfl) (ae 15 (by exact hk 14 rfl) (ae 16 (by exact hk 15 rfl) (ae 17 (by exact hk 16 rfl) (ae 18 (by exact hk 17 rfl) (ae 19 (by exact hk 18 rfl) (ae 20 (by exact hk 19 rfl) (ae 21 (by exact hk 20 rfl) (ae 22 (by exact hk 21 rfl) (ae 23 (by exact hk 22 rfl) (ae 24 (by exact hk 23 rfl) (ae 25 (by exact hk 24 rfl) (ae 26 (by exact hk 25 rfl) (ae 27 (by exact hk 26 rfl) (ae 28 (by exact hk 27 rfl) (ae 29 (by exact hk 28 rfl) (ae 30 (by exact hk 29 rfl) (ae 31 (by exact hk 30 rfl) (ae 32 (by exact hk 31 rfl) (ae 33 (by exact hk 32 rfl) (ae 34 (by exact hk 33 rfl) (ae 35 (by exact hk 34 rfl) (ae 36 (by exact hk 35 rfl) (ae 37 (by exact hk 36 rfl) (ae 38 (by exact hk 37 rfl) (ae 39 (by exact hk 38 rfl) (ae 40 (by exact hk 39 rfl) (ae 41 (by exact hk 40 rfl) (ae 42 (by exact hk 41 rfl) (ae 43 (by exact hk 42 rfl) (ae 44 (by exact hk 43 rfl) (ae 45 (by exact hk 44 rfl) (ae 46 (by exact hk 45 rfl) (ae 47 (by exact hk 46 rfl) (ae 48 (by exact hk 47 rfl) (ae 49 (by exact hk 48 rfl) (ae 50 (by exact hk 49 rfl) (ae 51 (by exact hk 50 rfl) (ae 52 (by exact hk 51 rfl) (ae 53 (by exact hk 52 rfl) (ae 54 (by exact hk 53 rfl) (ae 55 (by exact hk 54 rfl) (ae 56 (by exact hk 55 rfl) (ae 57 (by exact hk 56 rfl) (ae 58 (by exact hk 57 rfl) (ae 59 (by exact hk 58 rfl) (ae 60 (by exact hk 59 rfl) (ae 61 (by exact hk 60 rfl) (ae 62 (by exact hk 61 rfl) (ae 63 (by exact hk 62 rfl) (ae 64 (by exact hk 63 rfl) (ae 65 (by exact hk 64 rfl) (ae 66 (by exact hk 65 rfl) (ae 67 (by exact hk 66 rfl) (ae 68 (by exact hk 67 rfl) (ae 69 (by exact hk 68 rfl) (ae 70 (by exact hk 69 rfl) (ae 71 (by exact hk 70 rfl) (ae 72 (by exact hk 71 rfl) (ae 73 (by exact hk 72 rfl) (ae 74 (by exact hk 73 rfl) (ae 75 (by exact hk 74 rfl) (ae 76 (by exact hk 75 rfl) (ae 77 (by exact hk 76 rfl) (ae 78 (by exact hk 77 rfl) (ae 79 (by exact hk 78 rfl) (ae 80 (by exact hk 79 rfl) (ae 81 (by exact hk 80 rfl) (ae 82 (by exact hk 81 rfl) (ae 83 (by exact hk 82 rfl) (ae 84 (by exact hk 83 rfl) (ae 85 (by exact hk 84 rfl) (ae 86 (by exact hk 85 rfl) (ae 87 (by exact hk 86 rfl) (ae 88 (by exact hk 87 rfl) (ae 89 (by exact hk 88 rfl) (ae 90 (by exact hk 89 rfl) (ae 91 (by exact hk 90 rfl) (ae 92 (by exact hk 91 rfl) (ae 93 (by exact hk 92 rfl) (ae 94 (by exact hk 93 rfl) (ae 95 (by exact hk 94 rfl) (ae 96 (by exact hk 95 rfl) (ae 97 (by exact hk 96 rfl) (ae 98 (by exact hk 97 rfl) (ae 99 (by exact hk 98 rfl) (ae 100 (by exact hk 99 rfl) (ae 101 (by exact hk 100 rfl) (ae 102 (by exact hk 101 rfl) (ae 103 (by exact hG 0 102 (by decide) rfl) (ae 104 (by exact hG 1 103 (by decide) rfl) (ae 105 (by exact hG 2 104 (by decide) rfl) (ae 106 (by exact hG 3 105 (by decide) rfl) (ae 107 (by exact hG 4 106 (by decide) rfl) (ae 108 (by exact hG 5 107 (by decide) rfl) (ae 109 (by exact hG 6 108 (by decide) rfl) (ae 110 (by exact hG 7 109 (by decide) rfl) (ae 111 (by exact hG 8 110 (by decide) rfl) (ae 112 (by exact hG 9 111 (by decide) rfl) (ae 113 (by exact hG 10 112 (by decide) rfl) (ae 114 (by exact hG 12 113 (by decide) rfl) (ae 115 (by exact hk 114 rfl) az)))))))))))))))))))))))))))))))))))))))))))))))))))))))))))))))))))))))))))))))))))))))))))))))))))))))))))))))))))
   subst htm
   clear hG hk hs hall
   have hA4x : Rg.At X b4 0 Z4 := HA44.out.of_block (hO.block b4 Hs4.out Hne.out.symm)
   have HBX : Hid (Below W.heap.size W X) := Lib.hid (hO.below HB4.out Hb8.out (Nat.le_refl _))
   have H8 : Hid (Rg.At X b8 0 o.cl) := Lib.hid hA
   have HR := Lib.hid (store_all hA4x (cs := o.cl) (by rw [Hz4.out, Hl.out]))
   have HTh := Lib.hid (there_of hA4x (cs := o.cl) (by rw [Hz4.out, Hl.out]))
   have HC := Lib.hid (cats_oth Hc4.out (P := fun k => k ≠ b8) (fun a ha => (Hc8.out a ha).2) (fun k h0 hk => hO.block k h0 hk) hO.size)
   have HIs : Hid ((Tryz.prog.info? 91).map (·.size) = some o.cl.toArray.size) := Lib.hid (by rw [List.size_toArray, Hl.out]; exact HI.out)
   have HIl : Hid ((Tryz.prog.info? 91).map (·.size) = some o.cl.length) := Lib.hid (by rw [Hl.out]; exact HI.out)
   have HOne : Hid (o.cl.toArray.all (·.oneCell') = true) := Lib.hid (all_oneCell_toArray (cl_one o))
   clear hO hA hA4x hcv hlk' d0 d1 k6 q1 hBl hBn HS11 HS13 HLen HAt0 HL
   go_upto_region 22 with fail
   go_wp2_with (first
    | (refine wpList_load_mid rfl 91 _ rfl b8 0 rfl o.cl _ H8.out.rng Tryz.underlying91 rfl HIl.out ?_)
    | (refine wpList_store_mid rfl 91 _ _ rfl b4 0 o.cl.toArray rfl rfl HTh.out HIs.out HOne.out ?_; rw [List.toList_toArray]))
   have hb9 : Below W.heap.size W (X.setCells b4 0 o.cl) := Go.below_setCells (show W.heap.size <= b4 from Nat.le_of_eq Hb4.out) o.cl 0 X HBX.out
   refine bodyPost_ret (v := .tuple #[.agg o.cs, .bool true]) (results_cell_tmp Tryz.results25 _ _ b4 o.cl _ rfl HR.out.rng Tryz.underlying91 rfl HIl.out) rfl ?_
   exact ⟨sp, c, by rw [HOo.out], ⟨cats_oth HC.out (P := fun k => k ≠ b4) (fun a ha => (Hc8.out a ha).1) (fun k h0 hk => (Rg.Oth.setCells b4 0 X o.cl).block k h0 hk) (Rg.Oth.setCells b4 0 X o.cl).size, Hcn.out⟩, hb9⟩
set_option maxRecDepth 100000 in
theorem CloneE_nil (w : World) : Calls Tryz.prog 113 #[.slice none 0 0] w fun e w' => e = .returned (.slice none 0 0) /\ w' = w := by
 have hnil := fun (w : World) => Lib.run_eql_slice_nil (P := Tryz.prog) w 44 163 none 0 0 0 0 Tryz.underlying44
 go_enter Tryz.func113, Tryz.ntmps113
 go_wp2
 go_ret
 exact ⟨rfl, rfl⟩
set_option maxRecDepth 100000 in
theorem copied_nil (n : Int) (w : World) : Calls Tryz.prog 54 #[.agg #[.int .i64 n, .slice none 0 0]] w fun e w' => e = .returned (.agg #[.int .i64 n, .slice none 0 0]) /\ Below w.heap.size w w' := by
 have HC := Lib.hid CloneE_nil
 obtain ⟨W0, hW0⟩ : ∃ W0, (w.alloc (.cells #[.int .i64 n, .slice none 0 0] 46)).alloc (.cells #[.int .i64 0, .slice none 0 0] 46) = W0 := ⟨_, rfl⟩
 have hb0 : Below w.heap.size w W0 := by rw [<- hW0]; go_grown
 have hA : W0.heap[w.heap.size]? = some (.cells #[.int .i64 n, .slice none 0 0] 46 (0, 0)) := by rw [<- hW0, Below.heap_alloc _ _ _ (by simp)]; exact heap_alloc_new _ _
 have hB : W0.heap[w.heap.size + 1]? = some (.cells #[.int .i64 0, .slice none 0 0] 46 (0, 0)) := by
  rw [<- hW0]
  have := heap_alloc_new (w.alloc (.cells #[.int .i64 n, .slice none 0 0] 46)) (.cells #[.int .i64 0, .slice none 0 0] 46)
  rwa [show (w.alloc (.cells #[.int .i64 n, .slice none 0 0] 46)).heap.size = w.heap.size + 1 from by simp] at this
 obtain ⟨i0, hi0⟩ : ∃ i0, w.heap.size = i0 := ⟨_, rfl⟩
 have HB0 := Lib.hid hb0
 go_enter Tryz.func54, Tryz.ntmps54
 go_upto_region 1 with fail
 try rw [hW0]
 rw [hi0] at hA hB
 try rw [hi0]
 have a0 : W0.cell? ⟨i0, 0, none⟩ = some (.int .i64 n) := by simp [World.cell?, hA]
 have a1 : W0.cell? ⟨i0, 1, none⟩ = some (.slice none 0 0) := by simp [World.cell?, hA]
 have b0 : W0.cell? ⟨i0 + 1, 0, none⟩ = some (.int .i64 0) := by simp [World.cell?, hB]
 have b1 : W0.cell? ⟨i0 + 1, 1, none⟩ = some (.slice none 0 0) := by simp [World.cell?, hB]
 have f0 : W0.frozen? ⟨i0 + 1, 0, none⟩ = false := by simp [World.frozen?, hB]
 have f1 : W0.frozen? ⟨i0 + 1, 1, none⟩ = false := by simp [World.frozen?, hB]
 have Hi0 := Lib.hid hi0
 clear hW0 hb0 hA hB hi0
 refine Ko.wp_region_tail_d 6 (by kernel_rfl) (by kernel_rfl) ?_
 simp only [List.take_succ_cons, List.take_zero, List.drop_succ_cons, List.drop_zero]
 repeat (go_big_quiet_step ((go_at_call 113; exact Calls.quiet_of_same (HC.out _))))
 refine wpQuiet_nil ?_
 intro _ hw'
 obtain ⟨nz, hw''⟩ := hw'
 subst hw''
 go_wp2
 refine bodyPost_ret (v := .agg #[.int .i64 n, .slice none 0 0]) (by simp [results, Tryz.results54, go_sem, b0, b1]) rfl ⟨rfl, ?_⟩
 have hw := HB0.out
 have hi := Hi0.out
 have hd : Below w.heap.size w (W0.drewN nz) := hw.trans ⟨rfl, rfl, rfl, Nat.le_refl _, fun _ _ => rfl⟩
 exact ((hd.setCell (p := ⟨i0 + 1, 0, none⟩) (by rw [hi]; simp) _).setCell (p := ⟨i0 + 1, 1, none⟩) (by rw [hi]; simp) _)
end Go.Proofs.YtmgfakfiiaeofaaGreat
namespace Go.Proofs.YtmgfakfiiaeofaaGreat.Wa
open Go.RowKit Go.Sort
set_option maxRecDepth 100000 in
set_option maxHeartbeats 2000000 in
theorem AppendSeq_nil0 (w : World) (Bq : Nat) (hbq : Boxed w Bq 241 np) :
 Calls Tryz.prog 210 #[.slice none 0 0, .func (.func 215) #[] #[.pointer (some ⟨Bq, 0, none⟩)]] w fun e w' => e = .returned (.slice none 0 0) /\ Below w.heap.size w w' := by
 obtain ⟨i0, hi, hz0, hz1, hz2⟩ := info_parts intInfo
 refine (callsIn_wide (n := 3)).1 ?_
 have h1 : Fence.wide.fn 210 := trivial
 have h3 : Fence.wide.fn 215 := trivial
 have hro : Fence.wide.round = none := rfl
 refine callsIn_of_wp_marks Tryz.func210 rfl h1 ?_ hro
 simp only [Tryz.ntmps210, List.size_toArray, List.length_cons, List.length_nil, Nat.reduceAdd, Nat.reduceSub, Array.replicate_succ, Array.replicate_zero, List.push_toArray, List.append_toArray, List.nil_append, List.cons_append]
 gi_wp2_with fail
 obtain ⟨W3, hW3⟩ : ∃ W3, w.alloc (.cells #[.slice none 0 0] 37) = W3 := ⟨_, rfl⟩
 rw [hW3]
 have sz3 : W3.heap.size = w.heap.size + 1 := by rw [<- hW3]; simp
 have hB3 : Below w.heap.size w W3 := by rw [<- hW3]; exact (Below.refl _ _).alloc (Nat.le_refl _) _
 have hbx : Boxed W3 w.heap.size 37 (.slice none 0 0) := by rw [<- hW3]; exact heap_new _ _
 have hbq3 : Boxed W3 Bq 241 np := (hB3.block _ hbq.lt).trans hbq
 have hr3 : W3.ownsRow w.heap.size 3 1 (.slice none 0 0) 0 [] := World.ownsRow_nil _ _ _ _
 have hbl := hbq.lt
 clear hW3
 refine wpIn_rangeFunc_ownH hro (by decide) (gf := 215) (lb := #[.pointer (some ⟨Bq, 0, none⟩)]) rfl h3 (enters_of Tryz.func215 (by kernel_rfl) rfl)
  (allI_stops_nil 2 Bq W3 hbq3) (fun _ _ => trivial) (fun _ _ _ _ _ _ _ _ => trivial) (Below.refl _ _) (fun _ => rfl)
  (fun pre W => Below W3.heap.size W3 W)
  (fun c pre W => False)
  (ownFrom_below (Nat.le_refl _) (by omega))
  (fun c => fun s A B row hs hg hr => hs)
  (Below.refl _ _)
  (fun x a' W => False)
  (fun x a' _ X Y row hs hg hr => hs)
  ?assign ?body ?done ?stop
 case assign =>
  rintro lp pre x W K hI hK
  exact absurd x.2 (by simp)
 case body =>
  rintro lp pre x a' W hl hr hI hA
  exact hA.elim
 case done =>
  rintro D zs W hD hzs hBW hK
  have hv : Boxed W w.heap.size 37 (.slice none 0 0) := (hBW.block _ hbx.lt).trans hbx
  have y0 := hv.cell
  have HB := Lib.hid (hB3.trans (hBW.mono hB3.size))
  clear hBW hv hzs
  gi_wp2_with fail
  refine ⟨by simp, .inl ⟨_, _, rfl, run_takeDeferred hK, ?_⟩⟩
  refine ⟨.slice none 0 0, ?_, rfl, ?_⟩
  · simp [results, Tryz.results210, go_sem]
  · exact HB.out.trans (belowK_b (w := w) (Nat.le_refl _) W D _ _ (by omega) hK rfl rfl)
 case stop =>
  rintro D c ys W hD hK h hp
  exact h.elim
set_option maxRecDepth 100000 in
theorem Collect_nil0 (w : World) (Bq : Nat) (hbq : Boxed w Bq 241 np) :
 Calls Tryz.prog 158 #[.func (.func 215) #[] #[.pointer (some ⟨Bq, 0, none⟩)]] w fun e w' => e = .returned (.slice none 0 0) /\ Below w.heap.size w w' := by
 have HA := Lib.hid (AppendSeq_nil0 w Bq hbq)
 clear hbq
 go_enter Tryz.func158, Tryz.ntmps158
 go_wp2_with (go_at_call 210; refine HA.out.mono ?_; rintro e w1 ⟨rfl, hb⟩)
 go_ret
 exact ⟨rfl, hb⟩
set_option maxRecDepth 100000 in
set_option maxHeartbeats 1000000 in
theorem Alerts_nil (w : World) (rb : Nat) (F : Nat -> Prop) (all : List Who) (al : Int -> List Int) (N : Nat) (t : Int) (hti : i64 t) (h : RA w rb F all al N) (ha0 : al t = []) :
 Calls Tryz.prog 112 #[pv rb, .int .i64 t] w fun e w' => e = .returned (.slice none 0 0) /\ Below w.heap.size w w' := by
 obtain ⟨R, hR, hrb, hal, hA, hRN, hF⟩ := id h
 have c3 := hR.cell.2.2.2
 rw [hrb] at c3
 have hat : R.al t = [] := by have h5 := hA t; rw [ha0] at h5; simpa using h5
 have hl := hR.lookA_no hti hat
 obtain ⟨W1, hW1⟩ : ∃ W1, w.alloc (.cells #[.pointer none] 241) = W1 := ⟨_, rfl⟩
 have b01 : Below w.heap.size w W1 := by rw [<- hW1]; exact (Below.refl _ _).alloc (Nat.le_refl _) _
 have hbx : Boxed W1 w.heap.size 241 np := by rw [<- hW1]; exact heap_new _ _
 have HC := Lib.hid (Collect_nil0 W1 w.heap.size hbx)
 have HB := Lib.hid b01
 have HW1 := Lib.hid hW1
 clear h hR hF hA hal hrb hRN hat ha0 b01 hbx hW1
 go_enter Tryz.func112, Tryz.ntmps112
 go_wp2_with (first | (go_at_call 165; refine (allI_any _ _).mono ?_; rintro e w1 ⟨rfl, hw1⟩; rw [hw1, HW1.out]; clear hw1 w1) | (go_at_call 158; refine HC.out.mono ?_; rintro e w2 ⟨rfl, hb⟩))
 go_ret
 exact ⟨rfl, HB.out.trans (hb.mono HB.out.size)⟩
end Go.Proofs.YtmgfakfiiaeofaaGreat.Wa

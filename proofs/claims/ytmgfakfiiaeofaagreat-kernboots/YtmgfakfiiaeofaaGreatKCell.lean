/- cell of package kern. -/
import Derived.Test.YtmgfakfiiaeofaaGreatSq
import Derived.Test.YtmgfakfiiaeofaaGreatKCre2
import Derived.Test.YtmgfakfiiaeofaaGreatKoCst
namespace Go.Proofs.YtmgfakfiiaeofaaGreat
open Go.RowKit Go.Sort
theorem exec_call5 {o : Oper} {ev : Operand -> Value} {f : Nat} {x0 x1 x2 x3 x4 : Operand} {ts : Array TypeId} {v0 v1 v2 v3 v4 : Value} {w : World} (ho : o.op = .call { callee := .value (.func f), args := #[x0, x1, x2, x3, x4], argTypes := ts }) (hf : ev (.func f) = .func (.func f) #[] #[]) (h0 : ev x0 = v0) (h1 : ev x1 = v1) (h2 : ev x2 = v2) (h3 : ev x3 = v3) (h4 : ev x4 = v4) (eg : ∀ args w, (callFunc f args).run Tryz.prog w = .ok (.enter f args) w) : (execOp ev o).run Tryz.prog w = .ok (.enter f #[v0, v1, v2, v3, v4]) w := by
 unfold execOp
 simp [ho, resolve, invoke, hf, h0, h1, h2, h3, h4, eg, go_sem]
theorem Ko.other_set (w : World) (b o : Nat) (vs : List Value) {k : Nat} (hk : k ≠ b) : (w.setCells b o vs).heap[k]? = w.heap[k]? := by
 by_cases h : k < w.heap.size
 · exact World.heap_setCells_other w b o vs h hk
 · rw [Array.getElem?_eq_none (by rw [setCells_size]; exact Nat.le_of_not_lt h), Array.getElem?_eq_none (Nat.le_of_not_lt h)]
theorem segF_ge {W : World} {b B : Nat} {d : List UInt8} {ls : List (Nat × Bool)} (h : Pg.BAt Pg.N0 W b B d ls) (hls : ∀ x ∈ ls, b <= x.1) {k : Nat} (hk : segF W B ls k) : b <= k /\ k < W.heap.size := by
 rcases hk with rfl | ⟨x', hx, rfl⟩ | ⟨c, t, f, a, n, cp, e1, e2, rfl⟩
 · obtain ⟨v, hv, _⟩ := h.blk; exact ⟨h.bb, (Array.getElem?_eq_some_iff.1 hv).1⟩
 · obtain ⟨i, hi, hix⟩ := List.getElem_of_mem hx
   exact ⟨hls x' hx, (Array.getElem?_eq_some_iff.1 (h.pgs i x' (by rw [List.getElem?_eq_getElem hi, hix])).1).1⟩
 · obtain ⟨v, hv, hrow⟩ := h.blk
   rw [hv] at e1; cases e1
   have e3 : v = .slice (some a) n cp := by simpa using e2
   exact hrow.lt a.block (by rw [e3]; rfl)
set_option maxRecDepth 100000 in
set_option maxHeartbeats 4000000 in
theorem cell_ok {lo cb : Nat} {W : World} {K : Kn} {x : Ask} {y : Who} {dr : Int} (hC : ClAt W cb K.kb x y dr) (hcb : K.own cb = none) (hK : KAt lo W K) (hTh : K.fT (Wa.ky y.id) = some y.B) (hid : Ho.i64 x.pi) (r : Ho.Rc) (hT : K.T x.pi = some r) (hk : r.ob.kind = 1) (hl : r.ob.cats.length <= 16)
 (xs : List (Int × Int)) (hw : Pa.LV (y.d, xs) (.agg #[.int .i64 y.d, y.v]) W) (hs : Pa.seesS y.d r.ob.df xs r.ob.cats = true) (lx : List (Int × Int)) (hL : Pa.LV (x.ld, lx) (.agg #[.int .i64 x.ld, x.lv]) W) (hf : Pa.freeS x.ld lx = true) (hff : Ho.fitsS x.ld (Ho.low 2) lx = true)
 (hmk : Pa.makeI (y.d, xs) ((K.th y.id).cd, (K.th y.id).xs) (r.ob.df, r.ob.cats) (x.ld, lx) = 0) (ha : 1 <= x.a /\ x.a <= 1099511627776) (hdr : Ho.isCt dr = true) (hS : K.S dr = false) (hno : K.T dr = none) (hnoS : K.fS (Wa.ky dr) = none)
 (hszD : Maps.size K.D < 4096) (hq : x.a <= r.ob.quota - r.ob.used) (hu : 0 <= r.ob.used) (hqq : r.ob.quota <= 1099511627776) (hn : r.ob.ents.length < 1000000) (hnS : K.nS < 1000000) (hnR : K.nR < 1000000) (nb : Nat) (hb : x.b = (nb : Int)) (hb1 : nb <= 4096) (hba : x.b <= x.a) :
 Calls Tryz.prog 68 #[.pointer (some ⟨cb, 0, none⟩)] W fun e W' =>
  ∃ K' B, e = .returned (.tuple #[.agg #[.int .i64 dr, .string ⟨#[]⟩, .int .i64 0, .slice none 0 0, .int .i64 0, .slice none 0 0, .slice none 0 0, .slice none 0 0], .int .i64 0]) /\ KAt lo W' K' /\ KSeg K K' x.pi dr x.a x.ld lx r B (List.replicate nb 0) /\ Below lo W W' /\ ∀ k, k < W.heap.size -> K.own k = none -> W'.heap[k]? = W.heap[k]? /\ K'.own k = none := by
 obtain ⟨W0, hW0⟩ : ∃ W0, (W.alloc (.cells #[.pointer (some ⟨cb, 0, none⟩)] 99)).alloc (.cells toldZ 49) = W0 := ⟨_, rfl⟩
 have hb0 : Below W.heap.size W W0 := by rw [<- hW0]; go_grown
 have hi1 : W0.heap[W.heap.size]? = some (.cells #[.pointer (some ⟨cb, 0, none⟩)] 99 (0, 0)) := by rw [<- hW0]; rw [Below.heap_alloc _ _ _ (by simp)]; exact heap_alloc_new _ _
 have hi2 : W0.heap[W.heap.size + 1]? = some (.cells toldZ 49 (0, 0)) := by rw [<- hW0]; have := heap_alloc_new (W.alloc (.cells #[.pointer (some ⟨cb, 0, none⟩)] 99)) (.cells toldZ 49); rwa [show (W.alloc (.cells #[.pointer (some ⟨cb, 0, none⟩)] 99)).heap.size = W.heap.size + 1 from by simp] at this
 have hz0 : W.heap.size + 1 < W0.heap.size := by rw [<- hW0]; simp
 have q0 : W0.cell? ⟨W.heap.size, 0, none⟩ = some (.pointer (some ⟨cb, 0, none⟩)) := by simp [World.cell?, hi1]
 have c7 : W0.cell? ⟨cb, 7, none⟩ = some (.int .i64 x.b) := (hC.below hb0).cell 7
 have HN := Lib.hid (Pg.New_any nb W0 hb1)
 rw [<- hb] at HN
 have hlo0 : lo <= W.heap.size := Nat.le_of_lt (Nat.lt_of_le_of_lt (hK.lt K.kb (by rw [hK.okb]; simp)).1 (hK.lt K.kb (by rw [hK.okb]; simp)).2)
 have Hlo0 := Lib.hid hlo0
 have HC := Lib.hid hC
 have HK := Lib.hid hK
 have HL := Lib.hid hL
 have HW := Lib.hid hw
 have HB0 := Lib.hid hb0
 have Hi1 := Lib.hid hi1
 have Hi2 := Lib.hid hi2
 obtain ⟨p1, hp1⟩ : ∃ p1, W.heap.size = p1 := ⟨_, rfl⟩
 have Hp1 := Lib.hid hp1
 have Hb := Lib.hid hb
 have onew : ∀ k, p1 <= k -> K.own k = none := fun k hk' => by
  cases ho : K.own k with
  | none => rfl
  | some g => exfalso; have := (hK.lt k (by rw [ho]; simp)).2; omega
 clear hC hK hw hL hb0 hi1 hi2 hb
 unfold toldZ at hW0
 go_enter Tryz.func68, Tryz.ntmps68
 go_upto_region 1 with fail
 rw [hp1] at hz0 q0 Hi1 Hi2
 clear hW0 hp1
 go_wp2_with (go_at_call 122; refine HN.out.mono ?_; rintro e W1 ⟨rfl, ⟨ls, hBA, hls⟩, hb1'⟩; refine Hid.out ?_)
 refine Lib.hid ?_
 obtain ⟨i2, hi2e⟩ : ∃ i2, p1 + 1 = i2 := ⟨_, rfl⟩
 have h12 : p1 < i2 := by omega
 rw [hi2e] at hz0 Hi2 |-
 have Hi2e := Lib.hid hi2e
 clear hi2e
 obtain ⟨B, hBe⟩ : ∃ B, W0.heap.size = B := ⟨_, rfl⟩
 rw [hBe] at hBA hls hz0 |-
 obtain ⟨W2, hW2⟩ : ∃ W2, W1.alloc (.cells #[.pointer (some ⟨B, 0, none⟩)] 142) = W2 := ⟨_, rfl⟩
 have hb2 : Below W1.heap.size W1 W2 := by rw [<- hW2]; exact (Below.refl _ _).alloc (Nat.le_refl _) _
 have hi4 : W2.heap[W1.heap.size]? = some (.cells #[.pointer (some ⟨B, 0, none⟩)] 142 (0, 0)) := by rw [<- hW2]; exact heap_alloc_new _ _
 have hsz1 : B <= W1.heap.size := by rw [<- hBe]; exact hb1'.size
 have hb02 : Below B W0 W2 := (by rw [<- hBe]; exact hb1' : Below B W0 W1).trans (hb2.mono hsz1)
 have hpB : W.heap.size <= B := by have := Hp1.out; omega
 have hbW2 : Below W.heap.size W W2 := HB0.out.trans (hb02.mono hpB)
 obtain ⟨p4, hp4⟩ : ∃ p4, W1.heap.size = p4 := ⟨_, rfl⟩
 rw [hp4] at hi4 hsz1
 have r0 : W2.cell? ⟨p1, 0, none⟩ = some (.pointer (some ⟨cb, 0, none⟩)) := (hb02.cell (p := ⟨p1, 0, none⟩) (by show p1 < B; omega)).trans q0
 have r4 : W2.cell? ⟨p4, 0, none⟩ = some (.pointer (some ⟨B, 0, none⟩)) := by simp [World.cell?, hi4]
 have hC2 := HC.out.below hbW2
 have d7 : W2.cell? ⟨cb, 7, none⟩ = some (.int .i64 x.b) := hC2.cell 7
 have d6 : W2.cell? ⟨cb, 6, none⟩ = some (.int .i64 x.a) := hC2.cell 6
 have d2 : W2.cell? ⟨cb, 2, none⟩ = some (.int .i64 x.pi) := hC2.cell 2
 have Hi2b := Lib.hid ((hb02.block i2 hz0).trans Hi2.out)
 have hBA2 : Pg.BAt Pg.N0 W2 B B (List.replicate nb 0) ls := bat_keep hBA (fun k hk => hb2.block k (by
  rcases hk with rfl | ⟨x', hx, rfl⟩ | ⟨c, t, f, a, n, cp, e1, e2, rfl⟩
  · obtain ⟨v, hv, _⟩ := hBA.blk; exact (Array.getElem?_eq_some_iff.1 hv).1
  · obtain ⟨i, hi, hix⟩ := List.getElem_of_mem hx
    exact (Array.getElem?_eq_some_iff.1 (hBA.pgs i x' (by rw [List.getElem?_eq_getElem hi, hix])).1).1
  · obtain ⟨v, hv, hrow⟩ := hBA.blk
    rw [hv] at e1; cases e1
    have e3 : v = .slice (some a) n cp := by simpa using e2
    exact (hrow.lt a.block (by rw [e3]; rfl)).2))
 have hfo2 : ∀ k, segF W2 B ls k -> K.own k = none /\ lo <= k /\ k < W2.heap.size := fun k hk => by
  have hge := segF_ge hBA2 hls hk
  exact ⟨onew k (by omega), by have := Hlo0.out; have := Hp1.out; omega, hge.2⟩
 have hp1W : p1 < W2.heap.size := World.block_lt_of_cell? W2 _ r0
 have hp4W : p4 < W2.heap.size := World.block_lt_of_cell? W2 _ r4
 have HCr := Lib.hid (fun (X : World) (hb : Below W2.heap.size W2 X) (hh : X.heap = W2.heap) => create_seg (W := X) (hC2.below hb) hcb ((HK.out.below hbW2).below hb) hTh x.pi hid r hT hk hl xs ((HW.out.below hbW2).below hb) hs lx ((HL.out.below hbW2).below hb) hf hff hmk ha hdr hS hno hnoS hszD hq hu hqq hn hnS hnR (p1 := p1) (p4 := p4) ((hb.cell (p := ⟨p1, 0, none⟩) hp1W).trans r0) (onew p1 (Nat.le_refl _)) B ((hb.cell (p := ⟨p4, 0, none⟩) hp4W).trans r4) (onew p4 (by omega)) B (by have := Hlo0.out; omega) (List.replicate nb 0) ls (Pg.BAt.below' hBA2 X hh) (fun k hk => by rw [hh]; exact hfo2 k (by unfold segF at hk |-; rw [hh] at hk; exact hk)))
 have HB2 := Lib.hid hbW2
 have hz2 : i2 < W2.heap.size := by have := hb02.size; omega
 have Hfi := Lib.hid (onew i2 (by omega))
 have hns : ¬ segF W2 B ls i2 := fun hk => by
  have hge := segF_ge hBA2 hls hk; omega
 have hnsK : ∀ k, k < W.heap.size -> ¬ segF W2 B ls k := fun k hk0 hk => by
  have hge := segF_ge hBA2 hls hk; omega
 have a1 : ¬ x.a < x.b := by omega
 clear hBA hBA2 hls hb1' hb2 hb02 hfo2 hC2 hbW2 q0 c7 hi4 onew HN
 go_upto_region 2 with fail
 clear hW2 hp4 hBe
 go_quiet (fail)
 obtain ⟨W3, hW3⟩ : ∃ W3, W2.drewN nq = W3 := ⟨_, rfl⟩
 have hh3 : W3.heap = W2.heap := by rw [<- hW3]; rfl
 have hb3 : Below W2.heap.size W2 W3 := by rw [<- hW3]; exact drew_below _ _ _
 rw [hW3]
 clear hW3
 have t0 : W3.cell? ⟨p1, 0, none⟩ = some (.pointer (some ⟨cb, 0, none⟩)) := (hb3.cell (p := ⟨p1, 0, none⟩) hp1W).trans r0
 have t2 : W3.cell? ⟨cb, 2, none⟩ = some (.int .i64 x.pi) := (World.cell?_of_block (a := ⟨cb, 2, none⟩) (by rw [hh3])).trans d2
 have HCr3 := Lib.hid (fun X (hb : Below W3.heap.size W3 X) (hx : X.heap = W3.heap) => HCr.out X (hb3.trans (hb.mono hb3.size)) (hx.trans hh3))
 have HB3 := Lib.hid (HB2.out.trans (hb3.mono HB2.out.size))
 have Hns : Hid (¬ segF W3 B ls i2) := Lib.hid (fun hk => hns (by unfold segF at hk |-; rw [hh3] at hk; exact hk))
 have HnsK : Hid (∀ k, k < W.heap.size -> ¬ segF W3 B ls k) := Lib.hid (fun k hk0 hk => hnsK k hk0 (by unfold segF at hk |-; rw [hh3] at hk; exact hk))
 have Hi3 := Lib.hid ((show W3.heap[i2]? = W2.heap[i2]? from by rw [hh3]).trans Hi2b.out)
 have hz3 : i2 < W3.heap.size := by rw [hh3]; exact hz2
 clear r0 r4 d7 d6 d2 hb3 HCr hh3 Hi2b HB2 hp1W hp4W hz2 hns hnsK
 go_upto_region 4 with fail
 refine Ko.wp_region_cst (fun d => match d with | 30 => .pointer (some ⟨cb, 0, none⟩) | 31 => .pointer (some ⟨cb, 0, none⟩) | 32 => .pointer (some ⟨cb, 0, none⟩) | 33 => .pointer (some ⟨cb, 1, none⟩) | 34 => .pointer (some ⟨cb, 2, none⟩) | 35 => .pointer (some ⟨cb, 2, none⟩) | 36 => .int .i64 x.pi | 37 => .int .i64 0 | 38 => .func (.func 123) #[] #[.pointer (some ⟨p4, 0, none⟩), .pointer (some ⟨p1, 0, none⟩)] | 39 => .tuple #[.agg #[.int .i64 dr, .string ⟨#[]⟩, .int .i64 0, .slice none 0 0, .int .i64 0, .slice none 0 0, .slice none 0 0, .slice none 0 0], .int .i64 0] | 40 => .agg #[.int .i64 dr, .string ⟨#[]⟩, .int .i64 0, .slice none 0 0, .int .i64 0, .slice none 0 0, .slice none 0 0, .slice none 0 0] | 41 => .int .i64 0 | 3 => .int .i64 0 | _ => undef) (fun li Wq => ((li.getD 9 false = false /\ Wq.heap = W3.heap /\ Below W3.heap.size W3 Wq) ∨ (li.getD 9 false = true /\ ∃ K4 W4, (KAt lo W4 K4 /\ KSeg K K4 x.pi dr x.a x.ld lx r B (List.replicate nb 0) /\ Below lo W3 W4 /\ W4.heap[i2]? = some (.cells toldZ 49 (0, 0)) /\ K4.own i2 = none /\ ∀ k, k < W.heap.size -> K.own k = none -> W4.heap[k]? = W.heap[k]? /\ K4.own k = none) /\ Wq = (if li.getD 12 false = true then W4.setCells i2 0 [.int .i64 dr, .string ⟨#[]⟩, .int .i64 0, .slice none 0 0, .int .i64 0, .slice none 0 0, .slice none 0 0, .slice none 0 0] else W4)))) (by kernel_rfl) (by kernel_rfl) (by kernel_rfl) ?_ ?_ ?_
 · exact .inl ⟨rfl, rfl, (Below.refl _ _).drew⟩
 · intro a' X li hJ hs hk i o ho hli hdn hG hcb
   have hJk : ∀ li' : Array Bool, li'.getD 9 false = li.getD 9 false -> li'.getD 12 false = li.getD 12 false -> ((li'.getD 9 false = false /\ X.heap = W3.heap /\ Below W3.heap.size W3 X) ∨ (li'.getD 9 false = true /\ ∃ K4 W4, (KAt lo W4 K4 /\ KSeg K K4 x.pi dr x.a x.ld lx r B (List.replicate nb 0) /\ Below lo W3 W4 /\ W4.heap[i2]? = some (.cells toldZ 49 (0, 0)) /\ K4.own i2 = none /\ ∀ k, k < W.heap.size -> K.own k = none -> W4.heap[k]? = W.heap[k]? /\ K4.own k = none) /\ X = (if li'.getD 12 false = true then W4.setCells i2 0 [.int .i64 dr, .string ⟨#[]⟩, .int .i64 0, .slice none 0 0, .int .i64 0, .slice none 0 0, .slice none 0 0, .slice none 0 0] else W4))) := fun li' e9 e12 => by
    rw [e9, e12]; exact hJ
   have hA : li.getD 9 false = false -> X.heap = W3.heap /\ Below W3.heap.size W3 X := fun h9 => by
    rcases hJ with h | ⟨h, _⟩
    · exact h.2
    · rw [h9] at h; cases h
   match i, ho with
   | 0, ho =>
    cases ho
    have g1 : a'.eval (.tmp 1) = .pointer (some ⟨p1, 0, none⟩) := hk 1 (by kernel_rfl)
    have h9 : li.getD 9 false = false := by
     cases h9 : li.getD 9 false with
     | false => rfl
     | true => exact absurd (Ko.need_done hcb 30 9 0 _ rfl (fun e he hb => hcb 9 _ rfl h9 e he hb) (by kernel_rfl)) (by rw [hli]; decide)
    obtain ⟨hh, hB⟩ := hA h9
    generalize a'.eval = ev at g1 |-
    clear hG hk hdn hcb hJ hA
    have t0X := (World.cell?_of_block (a := ⟨p1, 0, none⟩) (show X.heap[p1]? = W3.heap[p1]? by rw [hh])).trans t0; have t2X := (World.cell?_of_block (a := ⟨cb, 2, none⟩) (show X.heap[cb]? = W3.heap[cb]? by rw [hh])).trans t2
    exact ⟨rfl, .inl ⟨30, X, rfl, by clear hs hJk; go_simp, fun li' h1 h2 => hJk li' (h2 9 (by decide)) (h2 12 (by decide))⟩⟩
   | 1, ho =>
    cases ho
    have g1 : a'.eval (.tmp 1) = .pointer (some ⟨p1, 0, none⟩) := hk 1 (by kernel_rfl)
    have h9 : li.getD 9 false = false := by
     cases h9 : li.getD 9 false with
     | false => rfl
     | true => exact absurd (Ko.need_done hcb 30 9 1 _ rfl (fun e he hb => hcb 9 _ rfl h9 e he hb) (by kernel_rfl)) (by rw [hli]; decide)
    obtain ⟨hh, hB⟩ := hA h9
    generalize a'.eval = ev at g1 |-
    clear hG hk hdn hcb hJ hA
    have t0X := (World.cell?_of_block (a := ⟨p1, 0, none⟩) (show X.heap[p1]? = W3.heap[p1]? by rw [hh])).trans t0; have t2X := (World.cell?_of_block (a := ⟨cb, 2, none⟩) (show X.heap[cb]? = W3.heap[cb]? by rw [hh])).trans t2
    exact ⟨rfl, .inl ⟨31, X, rfl, by clear hs hJk; go_simp, fun li' h1 h2 => hJk li' (h2 9 (by decide)) (h2 12 (by decide))⟩⟩
   | 2, ho =>
    cases ho
    have g31 : a'.eval (.tmp 31) = .pointer (some ⟨cb, 0, none⟩) := hG 1 31 (hdn ⟨1, .data⟩ (by simp) rfl) rfl
    have h9 : li.getD 9 false = false := by
     cases h9 : li.getD 9 false with
     | false => rfl
     | true => exact absurd (Ko.need_done hcb 30 9 2 _ rfl (fun e he hb => hcb 9 _ rfl h9 e he hb) (by kernel_rfl)) (by rw [hli]; decide)
    obtain ⟨hh, hB⟩ := hA h9
    generalize a'.eval = ev at g31 |-
    clear hG hk hdn hcb hJ hA
    have t0X := (World.cell?_of_block (a := ⟨p1, 0, none⟩) (show X.heap[p1]? = W3.heap[p1]? by rw [hh])).trans t0; have t2X := (World.cell?_of_block (a := ⟨cb, 2, none⟩) (show X.heap[cb]? = W3.heap[cb]? by rw [hh])).trans t2
    exact ⟨rfl, .inl ⟨32, X, rfl, by clear hs hJk; go_simp, fun li' h1 h2 => hJk li' (h2 9 (by decide)) (h2 12 (by decide))⟩⟩
   | 3, ho =>
    cases ho
    have g32 : a'.eval (.tmp 32) = .pointer (some ⟨cb, 0, none⟩) := hG 2 32 (hdn ⟨2, .data⟩ (by simp) rfl) rfl
    have h9 : li.getD 9 false = false := by
     cases h9 : li.getD 9 false with
     | false => rfl
     | true => exact absurd (Ko.need_done hcb 30 9 3 _ rfl (fun e he hb => hcb 9 _ rfl h9 e he hb) (by kernel_rfl)) (by rw [hli]; decide)
    obtain ⟨hh, hB⟩ := hA h9
    generalize a'.eval = ev at g32 |-
    clear hG hk hdn hcb hJ hA
    have t0X := (World.cell?_of_block (a := ⟨p1, 0, none⟩) (show X.heap[p1]? = W3.heap[p1]? by rw [hh])).trans t0; have t2X := (World.cell?_of_block (a := ⟨cb, 2, none⟩) (show X.heap[cb]? = W3.heap[cb]? by rw [hh])).trans t2
    exact ⟨rfl, .inl ⟨33, X, rfl, by clear hs hJk; go_simp, fun li' h1 h2 => hJk li' (h2 9 (by decide)) (h2 12 (by decide))⟩⟩
   | 4, ho =>
    cases ho
    have g33 : a'.eval (.tmp 33) = .pointer (some ⟨cb, 1, none⟩) := hG 3 33 (hdn ⟨3, .data⟩ (by simp) rfl) rfl
    have h9 : li.getD 9 false = false := by
     cases h9 : li.getD 9 false with
     | false => rfl
     | true => exact absurd (Ko.need_done hcb 30 9 4 _ rfl (fun e he hb => hcb 9 _ rfl h9 e he hb) (by kernel_rfl)) (by rw [hli]; decide)
    obtain ⟨hh, hB⟩ := hA h9
    generalize a'.eval = ev at g33 |-
    clear hG hk hdn hcb hJ hA
    have t0X := (World.cell?_of_block (a := ⟨p1, 0, none⟩) (show X.heap[p1]? = W3.heap[p1]? by rw [hh])).trans t0; have t2X := (World.cell?_of_block (a := ⟨cb, 2, none⟩) (show X.heap[cb]? = W3.heap[cb]? by rw [hh])).trans t2
    exact ⟨rfl, .inl ⟨34, X, rfl, by clear hs hJk; go_simp, fun li' h1 h2 => hJk li' (h2 9 (by decide)) (h2 12 (by decide))⟩⟩
   | 5, ho =>
    cases ho
    have g34 : a'.eval (.tmp 34) = .pointer (some ⟨cb, 2, none⟩) := hG 4 34 (hdn ⟨4, .data⟩ (by simp) rfl) rfl
    have h9 : li.getD 9 false = false := by
     cases h9 : li.getD 9 false with
     | false => rfl
     | true => exact absurd (Ko.need_done hcb 30 9 5 _ rfl (fun e he hb => hcb 9 _ rfl h9 e he hb) (by kernel_rfl)) (by rw [hli]; decide)
    obtain ⟨hh, hB⟩ := hA h9
    generalize a'.eval = ev at g34 |-
    clear hG hk hdn hcb hJ hA
    have t0X := (World.cell?_of_block (a := ⟨p1, 0, none⟩) (show X.heap[p1]? = W3.heap[p1]? by rw [hh])).trans t0; have t2X := (World.cell?_of_block (a := ⟨cb, 2, none⟩) (show X.heap[cb]? = W3.heap[cb]? by rw [hh])).trans t2
    exact ⟨rfl, .inl ⟨35, X, rfl, by clear hs hJk; go_simp, fun li' h1 h2 => hJk li' (h2 9 (by decide)) (h2 12 (by decide))⟩⟩
   | 6, ho =>
    cases ho
    have g35 : a'.eval (.tmp 35) = .pointer (some ⟨cb, 2, none⟩) := hG 5 35 (hdn ⟨5, .data⟩ (by simp) rfl) rfl
    have h9 : li.getD 9 false = false := by
     cases h9 : li.getD 9 false with
     | false => rfl
     | true => exact absurd (Ko.need_done hcb 30 9 6 _ rfl (fun e he hb => hcb 9 _ rfl h9 e he hb) (by kernel_rfl)) (by rw [hli]; decide)
    obtain ⟨hh, hB⟩ := hA h9
    generalize a'.eval = ev at g35 |-
    clear hG hk hdn hcb hJ hA
    have t0X := (World.cell?_of_block (a := ⟨p1, 0, none⟩) (show X.heap[p1]? = W3.heap[p1]? by rw [hh])).trans t0; have t2X := (World.cell?_of_block (a := ⟨cb, 2, none⟩) (show X.heap[cb]? = W3.heap[cb]? by rw [hh])).trans t2
    exact ⟨rfl, .inl ⟨36, X, rfl, by clear hs hJk; go_simp, fun li' h1 h2 => hJk li' (h2 9 (by decide)) (h2 12 (by decide))⟩⟩
   | 7, ho =>
    cases ho
    have g5 : a'.eval (.tmp 5) = .int .i64 0 := hk 5 (by kernel_rfl)
    have h9 : li.getD 9 false = false := by
     cases h9 : li.getD 9 false with
     | false => rfl
     | true => exact absurd (Ko.need_done hcb 30 9 7 _ rfl (fun e he hb => hcb 9 _ rfl h9 e he hb) (by kernel_rfl)) (by rw [hli]; decide)
    obtain ⟨hh, hB⟩ := hA h9
    generalize a'.eval = ev at g5 |-
    clear hG hk hdn hcb hJ hA
    have t0X := (World.cell?_of_block (a := ⟨p1, 0, none⟩) (show X.heap[p1]? = W3.heap[p1]? by rw [hh])).trans t0; have t2X := (World.cell?_of_block (a := ⟨cb, 2, none⟩) (show X.heap[cb]? = W3.heap[cb]? by rw [hh])).trans t2
    exact ⟨rfl, .inl ⟨37, X, rfl, by clear hs hJk; go_simp, fun li' h1 h2 => hJk li' (h2 9 (by decide)) (h2 12 (by decide))⟩⟩
   | 8, ho =>
    cases ho
    have g1 : a'.eval (.tmp 1) = .pointer (some ⟨p1, 0, none⟩) := hk 1 (by kernel_rfl)
    have g4 : a'.eval (.tmp 4) = .pointer (some ⟨p4, 0, none⟩) := hk 4 (by kernel_rfl)
    have h9 : li.getD 9 false = false := by
     cases h9 : li.getD 9 false with
     | false => rfl
     | true => exact absurd (Ko.need_done hcb 30 9 8 _ rfl (fun e he hb => hcb 9 _ rfl h9 e he hb) (by kernel_rfl)) (by rw [hli]; decide)
    obtain ⟨hh, hB⟩ := hA h9
    generalize a'.eval = ev at g1 g4 |-
    clear hG hk hdn hcb hJ hA
    have t0X := (World.cell?_of_block (a := ⟨p1, 0, none⟩) (show X.heap[p1]? = W3.heap[p1]? by rw [hh])).trans t0; have t2X := (World.cell?_of_block (a := ⟨cb, 2, none⟩) (show X.heap[cb]? = W3.heap[cb]? by rw [hh])).trans t2
    exact ⟨rfl, .inl ⟨38, X, rfl, by clear hs hJk; go_simp, fun li' h1 h2 => hJk li' (h2 9 (by decide)) (h2 12 (by decide))⟩⟩
   | 9, ho =>
    cases ho
    have g30 : a'.eval (.tmp 30) = .pointer (some ⟨cb, 0, none⟩) := hG 0 30 (hdn ⟨0, .data⟩ (by simp) rfl) rfl
    have g36 : a'.eval (.tmp 36) = .int .i64 x.pi := hG 6 36 (hdn ⟨6, .data⟩ (by simp) rfl) rfl
    have g37 : a'.eval (.tmp 37) = .int .i64 0 := hG 7 37 (hdn ⟨7, .data⟩ (by simp) rfl) rfl
    have g38 : a'.eval (.tmp 38) = .func (.func 123) #[] #[.pointer (some ⟨p4, 0, none⟩), .pointer (some ⟨p1, 0, none⟩)] := hG 8 38 (hdn ⟨8, .data⟩ (by simp) rfl) rfl
    have k0 : a'.eval (.const (.int .i64 2)) = (.int .i64 2) := rfl
    obtain ⟨hh, hB⟩ := hA hli
    refine ⟨rfl, .inr (.inr ⟨39, 120, #[.pointer (some ⟨cb, 0, none⟩), .int .i64 2, .int .i64 x.pi, .int .i64 0, .func (.func 123) #[] #[.pointer (some ⟨p4, 0, none⟩), .pointer (some ⟨p1, 0, none⟩)]], rfl, ?_, ?_⟩)⟩
    · have gF : a'.eval (.func 120) = .func (.func 120) #[] #[] := rfl
      generalize a'.eval = ev at gF g30 g36 g37 g38 k0 |-
      exact exec_call5 rfl gF g30 k0 g36 g37 g38 (enters_of Tryz.func120 (by kernel_rfl) rfl)
    · refine (HCr3.out X hB hh).mono ?_
      rintro e W4 ⟨K4, rfl, hK4, hS4, hb4, hkeep4⟩
      obtain ⟨hI4, oI4⟩ := hkeep4 i2 (by rw [hh]; exact hz3) Hfi.out (fun hk => Hns.out (by unfold segF at hk |-; rw [hh] at hk; exact hk))
      refine ⟨rfl, fun li' h1 h2 => .inr ⟨h1, K4, W4, ⟨hK4, hS4, (show Below lo W3 X from ⟨hB.os, hB.tape, hB.output, hB.size, fun k _ => by rw [hh]⟩).trans hb4, ?_, oI4, fun k hk ho => have h5 := hkeep4 k (by rw [hh]; exact Nat.lt_of_lt_of_le hk HB3.out.size) ho (fun hq => HnsK.out k hk (by unfold segF at hq |-; rw [hh] at hq; exact hq)); ⟨h5.1.trans ((show X.heap[k]? = W3.heap[k]? from by rw [hh]).trans (HB3.out.block k hk)), h5.2⟩⟩, ?_⟩⟩
      · rw [hI4, hh]; exact Hi3.out
      · have h12 : li'.getD 12 false = false := by
         rw [h2 12 (by decide)]
         cases hx : li.getD 12 false with
         | false => rfl
         | true => exact absurd (Ko.need_done hcb 30 12 9 _ rfl (fun e he hb => hcb 12 _ rfl hx e he hb) (by kernel_rfl)) (by rw [hli]; decide)
        rw [h12]; rfl
   | 10, ho =>
    cases ho
    have g39 : a'.eval (.tmp 39) = .tuple #[.agg #[.int .i64 dr, .string ⟨#[]⟩, .int .i64 0, .slice none 0 0, .int .i64 0, .slice none 0 0, .slice none 0 0, .slice none 0 0], .int .i64 0] := hG 9 39 (hdn ⟨9, .data⟩ (by simp) rfl) rfl
    generalize a'.eval = ev at g39 |-
    clear hG hk hdn hcb hJ hA
    exact ⟨rfl, .inl ⟨40, X, rfl, by clear hs hJk; go_simp, fun li' h1 h2 => hJk li' (h2 9 (by decide)) (h2 12 (by decide))⟩⟩
   | 11, ho =>
    cases ho
    have g39 : a'.eval (.tmp 39) = .tuple #[.agg #[.int .i64 dr, .string ⟨#[]⟩, .int .i64 0, .slice none 0 0, .int .i64 0, .slice none 0 0, .slice none 0 0, .slice none 0 0], .int .i64 0] := hG 9 39 (hdn ⟨9, .data⟩ (by simp) rfl) rfl
    generalize a'.eval = ev at g39 |-
    clear hG hk hdn hcb hJ hA
    exact ⟨rfl, .inl ⟨41, X, rfl, by clear hs hJk; go_simp, fun li' h1 h2 => hJk li' (h2 9 (by decide)) (h2 12 (by decide))⟩⟩
   | 12, ho =>
    cases ho
    have g2 : a'.eval (.tmp 2) = .pointer (some ⟨i2, 0, none⟩) := hk 2 (by kernel_rfl)
    have g40 : a'.eval (.tmp 40) = .agg #[.int .i64 dr, .string ⟨#[]⟩, .int .i64 0, .slice none 0 0, .int .i64 0, .slice none 0 0, .slice none 0 0, .slice none 0 0] := hG 10 40 (hdn ⟨10, .data⟩ (by simp) rfl) rfl
    have h9 : li.getD 9 false = true := hdn ⟨9, .chain⟩ (by simp) rfl
    obtain ⟨K4, W4, hP4, hX⟩ : ∃ K4 W4, (KAt lo W4 K4 /\ KSeg K K4 x.pi dr x.a x.ld lx r B (List.replicate nb 0) /\ Below lo W3 W4 /\ W4.heap[i2]? = some (.cells toldZ 49 (0, 0)) /\ K4.own i2 = none /\ ∀ k, k < W.heap.size -> K.own k = none -> W4.heap[k]? = W.heap[k]? /\ K4.own k = none) /\ X = W4 := by
     rcases hJ with h | ⟨_, K4, W4, h1, h2⟩
     · rw [h9] at h; cases h.1
     · exact ⟨K4, W4, h1, by rw [h2, hli]; rfl⟩
    subst hX
    obtain ⟨p1', p2', p3', p4', p5', p6'⟩ := hP4
    unfold toldZ at p4'
    obtain ⟨⟨y0, y1, y2, y3, y4, y5, y6, y7⟩, ⟨f0, f1, f2, f3, f4, f5, f6, f7⟩⟩ := told8 p4'
    refine ⟨rfl, .inr (.inl ⟨X.setCells i2 0 [.int .i64 dr, .string ⟨#[]⟩, .int .i64 0, .slice none 0 0, .int .i64 0, .slice none 0 0, .slice none 0 0, .slice none 0 0], rfl, ?_, fun li' h1 h2 => .inr ⟨by rw [h2 9 (by decide)]; exact h9, K4, X, ⟨p1', p2', p3', p4', p5', p6'⟩, by rw [if_pos h1]⟩⟩)⟩
    generalize a'.eval = ev at g2 g40 |-
    clear hG hk hdn hcb hJ hA hJk p1' p2' p3' p4' p5' p6'
    go_simp
    rfl
   | 13, ho =>
    cases ho
    have g41 : a'.eval (.tmp 41) = .int .i64 0 := hG 11 41 (hdn ⟨11, .data⟩ (by simp) rfl) rfl
    generalize a'.eval = ev at g41 |-
    clear hG hk hdn hcb hJ hA
    exact ⟨rfl, .inl ⟨3, X, rfl, by clear hs hJk; go_simp, fun li' h1 h2 => hJk li' (h2 9 (by decide)) (h2 12 (by decide))⟩⟩
   | j + 14, ho => simp at ho
 · intro a' X li hJ hs hdf hk hall hG
   obtain ⟨tm, df⟩ := a'
   obtain rfl : df = [] := hdf
   have htm := arr3 [.pointer (some ⟨cb, 0, none⟩), .pointer (some ⟨p1, 0, none⟩), .pointer (some ⟨i2, 0, none⟩), .int .i64 0, .pointer (some ⟨p4, 0, none⟩), .int .i64 0, .tuple #[.pointer (some ⟨B, 0, none⟩), .int .i64 0], .pointer (some ⟨cb, 0, none⟩), .pointer (some ⟨cb, 0, none⟩), .pointer (some ⟨cb, 1, none⟩), .pointer (some ⟨cb, 7, none⟩), .int .i64 x.b, .tuple #[.pointer (some ⟨B, 0, none⟩), .int .i64 0], .pointer (some ⟨B, 0, none⟩), .int .i64 0, .int .i64 0, .bool true, .bool true, .pointer (some ⟨cb, 0, none⟩), .pointer (some ⟨cb, 0, none⟩), .pointer (some ⟨cb, 1, none⟩), .pointer (some ⟨cb, 7, none⟩), .int .i64 x.b, .pointer (some ⟨cb, 0, none⟩), .pointer (some ⟨cb, 0, none⟩), .pointer (some ⟨cb, 1, none⟩), .pointer (some ⟨cb, 6, none⟩), .int .i64 x.a, .bool false, .bool false, .pointer (some ⟨cb, 0, none⟩), .pointer (some ⟨cb, 0, none⟩), .pointer (some ⟨cb, 0, none⟩), .pointer (some ⟨cb, 1, none⟩), .pointer (some ⟨cb, 2, none⟩), .pointer (some ⟨cb, 2, none⟩), .int .i64 x.pi, .int .i64 0, .func (.func 123) #[] #[.pointer (some ⟨p4, 0, none⟩), .pointer (some ⟨p1, 0, none⟩)], .tuple #[.agg #[.int .i64 dr, .string ⟨#[]⟩, .int .i64 0, .slice none 0 0, .int .i64 0, .slice none 0 0, .slice none 0 0, .slice none 0 0], .int .i64 0], .agg #[.int .i64 dr, .string ⟨#[]⟩, .int .i64 0, .slice none 0 0, .int .i64 0, .slice none 0 0, .slice none 0 0, .slice none 0 0], .int .i64 0] hs (ae 1 (by exact hk 0 rfl) (ae 2 (by exact hk 1 rfl) (ae 3 (by exact hk 2 rfl) (ae 4 (by exact hG 13 3 (by decide) rfl) (ae 5 (by exact hk 4 rfl) (ae 6 (by exact hk 5 rfl) (ae 7 (by exact hk 6 rfl) (ae 8 (by exact hk 7 rfl) (ae 9 (by exact hk 8 rfl) (ae 10 (by exact hk 9 rfl) (ae 11 (by exact hk 10 rfl) (ae 12 (by exact hk 11 rfl) (ae 13 (by exact hk 12 rfl) (ae 14 (by exact hk 13 rfl) (ae 15 (by exact hk 14 rfl) (ae 16 (by exact hk 15 rfl) (ae 17 (by exact hk 16 rfl) (ae 18 (by exact hk 17 rfl) (ae 19 (by exact hk 18 rfl) (ae 20 (by exact hk 19 rfl) (ae 21 (by exact hk 20 rfl) (ae 22 (by exact hk 21 rfl) (ae 23 (by exact hk 22 rfl) (ae 24 (by exact hk 23 rfl) (ae 25 (by exact hk 24 rfl) (ae 26 (by exact hk 25 rfl) (ae 27 (by exact hk 26 rfl) (ae 28 (by exact hk 27 rfl) (ae 29 (by exact hk 28 rfl) (ae 30 (by exact hk 29 rfl) (ae 31 (by exact hG 0 30 (by decide) rfl) (ae 32 (by exact hG 1 31 (by decide) rfl) (ae 33 (by exact hG 2 32 (by decide) rfl) (ae 34 (by exact hG 3 33 (by decide) rfl) (ae 35 (by exact hG 4 34 (by decide) rfl) (ae 36 (by exact hG 5 35 (by decide) rfl) (ae 37 (by exact hG 6 36 (by decide) rfl) (ae 38 (by exact hG 7 37 (by decide) rfl) (ae 39 (by exact hG 8 38 (by decide) rfl) (ae 40 (by exact hG 9 39 (by decide) rfl) (ae 41 (by exact hG 10 40 (by decide) rfl) (ae 42 (by exact hG 11 41 (by decide) rfl) az))))))))))))))))))))))))))))))))))))))))))
   subst htm
   obtain ⟨K4, W4, hP4, hX⟩ : ∃ K4 W4, (KAt lo W4 K4 /\ KSeg K K4 x.pi dr x.a x.ld lx r B (List.replicate nb 0) /\ Below lo W3 W4 /\ W4.heap[i2]? = some (.cells toldZ 49 (0, 0)) /\ K4.own i2 = none /\ ∀ k, k < W.heap.size -> K.own k = none -> W4.heap[k]? = W.heap[k]? /\ K4.own k = none) /\ X = W4.setCells i2 0 [.int .i64 dr, .string ⟨#[]⟩, .int .i64 0, .slice none 0 0, .int .i64 0, .slice none 0 0, .slice none 0 0, .slice none 0 0] := by
    rcases hJ with h | ⟨_, K4, W4, h1, h2⟩
    · rw [hall 9 (by decide)] at h; cases h.1
    · exact ⟨K4, W4, h1, by rw [h2, hall 12 (by decide)]; try rfl⟩
   subst hX
   clear hG hk hs hall hJ
   obtain ⟨p1', p2', p3', p4', p5', p6'⟩ := hP4
   unfold toldZ at p4'
   have hr8 := set8 (v0 := .int .i64 dr) (v1 := .string ⟨#[]⟩) (v2 := .int .i64 0) (v3 := .slice none 0 0) (v4 := .int .i64 0) (v5 := .slice none 0 0) (v6 := .slice none 0 0) (v7 := .slice none 0 0) p4'
   have hKf := p1'.keep (W' := W4.setCells i2 0 [.int .i64 dr, .string ⟨#[]⟩, .int .i64 0, .slice none 0 0, .int .i64 0, .slice none 0 0, .slice none 0 0, .slice none 0 0]) (Nat.le_of_eq (setCells_size _ _ _ _).symm) (fun k hk => World.heap_setCells_other W4 i2 0 _ (p1'.lt k hk).2 (fun e => by rw [e] at hk; exact hk p5'))
   have hbe := Go.below_setCells (show lo <= i2 by have := Hp1.out; have := Hlo0.out; omega) [.int .i64 dr, .string ⟨#[]⟩, .int .i64 0, .slice none 0 0, .int .i64 0, .slice none 0 0, .slice none 0 0, .slice none 0 0] 0 W4 ((HB3.out.mono Hlo0.out).trans p3')
   have HKf := Lib.hid hKf
   have Hbe := Lib.hid hbe
   have Hr8 := Lib.hid hr8
   have HS4 := Lib.hid p2'
   have HP6 : Hid (∀ k, k < W.heap.size -> K.own k = none -> (W4.setCells i2 0 [.int .i64 dr, .string ⟨#[]⟩, .int .i64 0, .slice none 0 0, .int .i64 0, .slice none 0 0, .slice none 0 0, .slice none 0 0]).heap[k]? = W.heap[k]? /\ K4.own k = none) := Lib.hid (fun k hk ho => ⟨(Ko.other_set W4 i2 0 _ (by have := Hp1.out; omega)).trans (p6' k hk ho).1, (p6' k hk ho).2⟩)
   obtain ⟨W5, hW5⟩ : ∃ W5, W4.setCells i2 0 [.int .i64 dr, .string ⟨#[]⟩, .int .i64 0, .slice none 0 0, .int .i64 0, .slice none 0 0, .slice none 0 0, .slice none 0 0] = W5 := ⟨_, rfl⟩
   rw [hW5] at HKf Hbe Hr8 HP6 |-
   clear p1' p2' p3' p4' p5' p6' hr8 hKf hbe hW5 t0 t2
   go_wp2
   refine bodyPost_ret (v := .tuple #[.agg #[.int .i64 dr, .string ⟨#[]⟩, .int .i64 0, .slice none 0 0, .int .i64 0, .slice none 0 0, .slice none 0 0, .slice none 0 0], .int .i64 0]) ?_ rfl ⟨rfl, K4, ?_⟩
   rotate_left
   · first | exact ⟨B, HKf.out, HS4.out, Hbe.out, HP6.out⟩ | exact ⟨HKf.out, ⟨B, HS4.out⟩, Hbe.out, HP6.out⟩ | exact ⟨HKf.out, Hbe.out, HP6.out, B, HS4.out⟩ | exact ⟨HKf.out, Hbe.out, ⟨B, HS4.out⟩, HP6.out⟩ | trace_state
   exact results_cell_tmp Tryz.results68 _ _ i2 _ _ rfl Hr8.out Tryz.underlying49 rfl infoT
end Go.Proofs.YtmgfakfiiaeofaaGreat

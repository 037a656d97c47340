/- What is gone is what was dropped. -/
import Derived.Test.YtlblfelfaopjiaaGoesB
namespace Go.Proofs.Ytlblfelfaopjiaa
open Go.RowKit Go.Sort
theorem row_cap {w : World} {base : Nat} {p : Option Addr} {cap : Nat} {l : List Int} (h : w.ownsRow base 3 1 (.slice p l.length cap) l.length (ivs l)) : l.length ≤ cap := by
  rcases h.2 with ⟨hv, h0⟩ | ⟨g, cap', cur, hv, _, hg, hc⟩
  · omega
  · simp at hv
    obtain ⟨_, rfl⟩ := hv
    exact hc.1
set_option maxRecDepth 100000 in
set_option maxHeartbeats 8000000 in
theorem HoldGoes_any (p : Option Addr) (cap : Nat) (l : List OpR) (i x : Int) (w : World) (hl : OpsAt w p l) (hi : i64 i) (hx : i64 x) :
    Calls Try.prog 6 #[.slice p l.length cap, .int .i64 i, .int .i64 x] w fun e w' => e = .returned (.bool true) ∧ Below w.heap.size w w' := by
  have HLv := Lib.hid lives_any
  have HL := Lib.hid hl
  clear hl
  go_enter Try.func6, Try.ntmps6
  go_wp2_with (first
    | (go_at_call 8; refine (HLv.out _).mono ?_; rintro e w1 ⟨rfl, hb1⟩; refine Hid.out ?_))
  refine Lib.hid ?_
  have B1 : Below w.heap.size w w1 := hb1
  have HR := Lib.hid (run_hi p cap l (HL.out.below B1))
  clear HLv hb1
  go_wp2_with (first
    | (go_at_call 13; refine HR.out.mono ?_; rintro e w2 ⟨base, tb, mb, F, S, rfl, hA2, hbase, hb2⟩; refine Hid.out ?_))
  refine Lib.hid ?_
  have B2 : Below w.heap.size w w2 := B1.trans (hb2.mono B1.size)
  have hbw : w.heap.size ≤ base := by have := B1.size; omega
  have HCp := Lib.hid (copy_hi hA2)
  have HA2 := Lib.hid hA2
  clear hb2 HR B1 hA2
  go_wp2_with (first
    | (go_at_call 19; refine HCp.out.mono ?_; rintro e w3 ⟨tb3, mb3, F3, rfl, hA3, hb3⟩; refine Hid.out ?_))
  refine Lib.hid ?_
  have B3 : Below w.heap.size w w3 := B2.trans (hb3.mono B2.size)
  have hT3 := HA2.out.below hb3
  have HH := Lib.hid (has_hi hT3 i x hi hx)
  have HD := Lib.hid (drop_go hT3 i x hi)
  have HT3 := Lib.hid hT3
  have HA3 := Lib.hid hA3
  clear hb3 B2 HCp hT3 hA3 HL
  go_wp2_with (first
    | (go_at_call 26; refine HH.out.mono ?_; rintro e w4 ⟨⟨b, rfl, hbe⟩, hw4⟩; rw [hw4]; clear hw4 w4; refine Hid.out ?_))
  refine Lib.hid ?_
  have HBE := Lib.hid hbe
  clear hbe HH
  go_wp2_with (first
    | (go_at_call 22; refine HD.out.mono ?_; rintro e w4 ⟨gv, c, g, F4, S4, rfl, hA4, hF4, hg4, hgo⟩; obtain ⟨sg, cg, hv⟩ := row_form hg4; subst hv; refine Hid.out ?_))
  refine Lib.hid ?_
  have hG4 := row_ints hg4
  have HCG : Hid (g.length ≤ cg) := row_cap hg4
  have hA34 : HI w4 w2.heap.size tb3 mb3 F3 S := HA3.out.same (fun q hq => hF4.same q (HA3.out.lt hq).2 (fun hf => by
    have := (HA3.out.lt hq).1
    have := (HA2.out.lt hf).2
    omega))
  have B4 : Below w.heap.size w w4 := B3.trans ((HT3.out.belowF hF4).mono (by omega))
  have HH4 := Lib.hid (has_hi hA4 i x hi hx)
  have hcb : (c == 0) = b := by
    have h1 := HBE.out
    have h2 := hgo.ok
    cases b
    · have : ¬ c = 0 := fun e => by have := h1.2 (h2.1 e); cases this
      simp [this]
    · have : c = 0 := h2.2 (h1.1 rfl)
      simp [this]
  have hcc : (!(b == b)) = false := by simp
  have HGo := Lib.hid hgo
  have HA4 := Lib.hid hA4
  have HA34 := Lib.hid hA34
  have HG4 := Lib.hid hG4
  have HB4 := Lib.hid B4
  clear hg4 hF4 hgo hG4 hA34 hA4 B4 HD HT3 HA3 HA2 B3 HBE hbase hbw
  go_wp2_with (first
    | (go_at_call 26; refine HH4.out.mono ?_; rintro e w5 ⟨⟨b5, rfl, hbe⟩, hw5⟩; rw [hw5]; clear hw5 w5; refine Hid.out ?_))
  refine Lib.hid ?_
  obtain rfl : b5 = false := by
    cases b5
    · rfl
    · exact absurd (hbe.1 rfl) HGo.out.no
  clear hbe hcc hcb
  rcases HGo.out.first with hg0 | ⟨t, hgt⟩
  · have hgl : ¬ (0 < g.length) := by rw [hg0]; simp
    have HGl := Lib.hid hgl
    clear hg0
    have HI := Lib.hid (ids_hi HA4.out)
    have HLn := Lib.hid (fun (X : World) (hX : Below w4.heap.size w4 X) => len_hi (HA34.out.below hX))
    go_wp2_with (first
      | (go_at_call 14; refine HI.out.mono ?_; rintro e w5 ⟨sp, cp, L, rfl, hL5, hb5, hL4, hLm, hLk⟩; refine Hid.out ?_))
    refine Lib.hid ?_
    have HLm := Lib.hid hLm
    have HL5 := Lib.hid hL5
    have HLk := Lib.hid hLk
    clear hLm hL5 hLk HI
    clear hgl
    try clear hgm
    try clear hxx
    try clear hgc2
    try clear hgb
    go_wp2_with (first
      | (go_at_call 18; refine (HLn.out _ hb5).mono ?_; rintro e w6 ⟨⟨n, rfl, hn4, hnk⟩, hw6⟩; rw [hw6]; clear hw6 w6; refine Hid.out ?_))
    refine Lib.hid ?_
    have hn : n = L.length + g.length := by
      obtain ⟨K, hK, e⟩ := hnk
      obtain ⟨K', hK', e'⟩ := HLk.out
      have := HGo.out.cnt K K' hK hK'
      omega
    have hwr : wrap64 ((L.length : Int) + (g.length : Int)) = (n : Int) := by
      have : ((L.length : Int) + (g.length : Int)) = (n : Int) := by omega
      rw [this]
      unfold wrap64; omega
    have hgl4 : g.length ≤ 4096 := by omega
    clear hn hnk HLk HLn
    have HG5 := Lib.hid (HG4.out.below hb5)
    have HA5 := Lib.hid (HA4.out.below hb5)
    have HA35 := Lib.hid (HA34.out.below hb5)
    have HB5 : Hid (Below w.heap.size w w5) := HB4.out.trans (hb5.mono HB4.out.size)
    clear HG4 HA4 HA34 HB4 hb5 HH4
    go_wp2_with fail
    clear hwr
    go_loopw [76] (fun y wr => ∃ k : Nat, y = .int .i64 k ∧ k ≤ g.length ∧ Below w5.heap.size w5 wr) (fun y _ => g.length - (intOf y).toNat)
    case atStart => exact ⟨0, rfl, Nat.zero_le _, Below.refl _ _⟩
    case round =>
      obtain ⟨k, rfl, hk, hB⟩ := hrel
      by_cases hlt : k < g.length
      · exact absurd (show 0 < g.length by omega) HGl.out
      · obtain rfl : k = g.length := by omega
        obtain ⟨wq, rfl⟩ : ∃ wq, wq = wr := ⟨_, rfl⟩
        have HQ := Lib.hid hB
        clear hB hk hlt
        go_wp2_with fail
        go_loopw [102] (fun y wr => ∃ k : Nat, y = .int .i64 k ∧ k ≤ L.length ∧ Below wq.heap.size wq wr) (fun y _ => L.length - (intOf y).toNat)
        case atStart => exact ⟨0, rfl, Nat.zero_le _, Below.refl _ _⟩
        case round =>
          obtain ⟨k, rfl, hk, hB⟩ := hrel
          have HBr := Lib.hid hB
          have HB : Hid (Below w5.heap.size w5 wr) := HQ.out.trans (hB.mono HQ.out.size)
          clear hB
          by_cases hlt : k < L.length
          · have hki : (k : Int) < (L.length : Int) := by omega
            obtain ⟨gb3, go3, hgeq, hgl2, hgc2⟩ := (HL5.out.below HB.out) k hlt
            have hmem : L[k] ∈ L := List.getElem_mem hlt
            obtain ⟨y, hy⟩ : ∃ y, L[k] = y := ⟨_, rfl⟩
            rw [hy] at hgc2 hmem
            obtain ⟨o2, ho2⟩ := (HLm.out y).1 hmem
            obtain ⟨o, ho, e1, e2, e3, e4, l1, l2, l3⟩ := HGo.out.les y o2 ho2
            have hct : o.cats.length < 1000000 := by
              obtain ⟨K, D, T, _, _, _, h4⟩ := HA35.out
              exact (h4.ok y o ho).cat
            have HNa := Lib.hid (fun (X : World) (hX : Below w5.heap.size w5 X) => info_hi (HA35.out.below hX) y o ho)
            have HNb := Lib.hid (fun (X : World) (hX : Below w5.heap.size w5 X) => info_hi (HA5.out.below hX) y o2 ho2)
            simp only [e1, e2, e3, e4] at HNb
            clear ho ho2 e1 e2 e3 e4 hmem hy
            generalize o.kind = kd at *
            generalize o.quota = qt at *
            generalize o.df = df at *
            generalize o.cats = cs at *
            generalize o.used = ua at *
            generalize o.links = la at *
            generalize o2.used = ub at *
            generalize o2.links = lb at *
            have n1 : ¬ lb < 1 := by omega
            have n2 : ¬ la < lb := by omega
            have n3 : ¬ ua < ub := by omega
            clear l1 l2 l3
            subst hgeq
            go_wp2_with (first
              | (go_at_call 16; refine (HNa.out _ HB.out).mono ?_; rintro e x1 ⟨sa, ca, rfl, hCa, hc1⟩; refine Hid.out ?_))
            refine Lib.hid ?_
            have B1 : Below w5.heap.size w5 x1 := HB.out.trans (hc1.mono HB.out.size)
            have HX1 := Lib.hid hc1
            have HCa := Lib.hid hCa
            clear hc1 hCa
            go_wp2_with (first
              | (go_at_call 16; refine (HNb.out _ (B1.alloc B1.size _)).mono ?_; rintro e x2 ⟨sb, cb, rfl, hCb, hc2⟩; refine Hid.out ?_))
            refine Lib.hid ?_
            have k2 : x2.heap[x1.heap.size]? = some (.cells #[.int .i64 o.id, .int .i64 kd, .int .i64 qt, .int .i64 ua, .int .i64 la, .int .i64 df, .slice sa cs.length ca] 44 (0, 0)) := (hc2.block _ (by simp)).trans (heap_new _ _)
            have hlt1 : x1.heap.size < x2.heap.size := (Array.getElem?_eq_some_iff.1 k2).1
            have HX2 : Hid (Below wr.heap.size wr x2) := HX1.out.trans ((((Below.refl _ _).alloc (Nat.le_refl _) _).trans (hc2.mono (by simp))).mono HX1.out.size)
            have hCa2 : CatsAt x2 sa cs := (HCa.out.below ((Below.refl _ _).alloc (Nat.le_refl _) (.cells #[.int .i64 o.id, .int .i64 kd, .int .i64 qt, .int .i64 ua, .int .i64 la, .int .i64 df, .slice sa cs.length ca] 44))).below hc2
            obtain ⟨X, hX⟩ : ∃ X, X = x2.alloc (.cells #[.int .i64 o2.id, .int .i64 kd, .int .i64 qt, .int .i64 ub, .int .i64 lb, .int .i64 df, .slice sb cs.length cb] 44) := ⟨_, rfl⟩
            have q1 : X.heap[x1.heap.size]? = some (.cells #[.int .i64 o.id, .int .i64 kd, .int .i64 qt, .int .i64 ua, .int .i64 la, .int .i64 df, .slice sa cs.length ca] 44 (0, 0)) := by rw [hX]; exact (Below.heap_alloc _ _ _ hlt1).trans k2
            have q2 : X.heap[x2.heap.size]? = some (.cells #[.int .i64 o2.id, .int .i64 kd, .int .i64 qt, .int .i64 ub, .int .i64 lb, .int .i64 df, .slice sb cs.length cb] 44 (0, 0)) := by rw [hX]; exact heap_new _ _
            have hXb : Below x2.heap.size x2 X := by rw [hX]; exact (Below.refl _ _).alloc (Nat.le_refl _) _
            have HSa := Lib.hid (Same_any df df sa sb ca cb cs cs X (by unfold maxLen; omega) (by unfold maxLen; omega) (hCa2.below hXb) (CatsAt.below hCb hXb))
            rw [show sameS df df cs cs = true from by simp [sameS]] at HSa
            have ca1 : X.cell? ⟨x1.heap.size, 1, none⟩ = some (.int .i64 kd) := by simp [World.cell?, q1]
            have ca2 : X.cell? ⟨x1.heap.size, 2, none⟩ = some (.int .i64 qt) := by simp [World.cell?, q1]
            have ca3 : X.cell? ⟨x1.heap.size, 3, none⟩ = some (.int .i64 ua) := by simp [World.cell?, q1]
            have ca4 : X.cell? ⟨x1.heap.size, 4, none⟩ = some (.int .i64 la) := by simp [World.cell?, q1]
            have ca5 : X.cell? ⟨x1.heap.size, 5, none⟩ = some (.int .i64 df) := by simp [World.cell?, q1]
            have ca6 : X.cell? ⟨x1.heap.size, 6, none⟩ = some (.slice sa cs.length ca) := by simp [World.cell?, q1]
            have cb1 : X.cell? ⟨x2.heap.size, 1, none⟩ = some (.int .i64 kd) := by simp [World.cell?, q2]
            have cb2 : X.cell? ⟨x2.heap.size, 2, none⟩ = some (.int .i64 qt) := by simp [World.cell?, q2]
            have cb3 : X.cell? ⟨x2.heap.size, 3, none⟩ = some (.int .i64 ub) := by simp [World.cell?, q2]
            have cb4 : X.cell? ⟨x2.heap.size, 4, none⟩ = some (.int .i64 lb) := by simp [World.cell?, q2]
            have cb5 : X.cell? ⟨x2.heap.size, 5, none⟩ = some (.int .i64 df) := by simp [World.cell?, q2]
            have cb6 : X.cell? ⟨x2.heap.size, 6, none⟩ = some (.slice sb cs.length cb) := by simp [World.cell?, q2]
            have HX3 : Hid (Below wr.heap.size wr X) := HX2.out.trans (hXb.mono HX2.out.size)
            have HQ1 := Lib.hid q1
            have HQ2 := Lib.hid q2
            have hz1 := (Array.getElem?_eq_some_iff.1 q1).1
            have hz2 := (Array.getElem?_eq_some_iff.1 q2).1
            clear k2 hc2 hCa2 hCb q1 q2 hXb HX1 HX2 HNa HNb HCa hct
            go_wp2_with (first
              | (rw [← hX]; clear hX; refine Hid.out ?_))
            refine Lib.hid ?_
            go_wp2_with (first
              | (go_at_call 27; refine HSa.out.mono ?_; rintro e x3 ⟨rfl, hc3⟩; refine Hid.out ?_))
            refine Lib.hid ?_
            have q3 := (hc3.block _ hz1).trans HQ1.out
            have q4 := (hc3.block _ hz2).trans HQ2.out
            have da3 : x3.cell? ⟨x1.heap.size, 3, none⟩ = some (.int .i64 ua) := by simp [World.cell?, q3]
            have da4 : x3.cell? ⟨x1.heap.size, 4, none⟩ = some (.int .i64 la) := by simp [World.cell?, q3]
            have db3 : x3.cell? ⟨x2.heap.size, 3, none⟩ = some (.int .i64 ub) := by simp [World.cell?, q4]
            have db4 : x3.cell? ⟨x2.heap.size, 4, none⟩ = some (.int .i64 lb) := by simp [World.cell?, q4]
            have HX4 : Hid (Below wr.heap.size wr x3) := HX3.out.trans (hc3.mono HX3.out.size)
            clear q3 q4 hc3 HQ1 HQ2 hz1 hz2 HX3 HSa ca1 ca2 ca3 ca4 ca5 ca6 cb1 cb2 cb3 cb4 cb5 cb6
            go_wp2_with fail
            go_roundw
            case rel => exact ⟨k + 1, by go_num, by omega, HBr.out.trans (HX4.out.mono HBr.out.size)⟩
            case measure => simp [intOf]; omega
          · obtain rfl : k = L.length := by omega
            go_wp2_with fail
            go_ret
            exact ⟨rfl, HB5.out.trans (HB.out.mono HB5.out.size)⟩
  · have hgl : 0 < g.length := by rw [hgt]; simp
    obtain ⟨gb, go, rfl, hgb, hgc⟩ := HG4.out 0 (by omega)
    have hg00 : g[0]'(by omega) = x := by simp only [hgt]; rfl
    rw [hg00] at hgc
    have hgc2 : w4.cell? ⟨gb, go, none⟩ = some (.int .i64 x) := hgc
    have hxx : (x != x) = false := by simp
    clear hgt hg00 hgc
    have HI := Lib.hid (ids_hi HA4.out)
    have HLn := Lib.hid (fun (X : World) (hX : Below w4.heap.size w4 X) => len_hi (HA34.out.below hX))
    go_wp2_with (first
      | (go_at_call 14; refine HI.out.mono ?_; rintro e w5 ⟨sp, cp, L, rfl, hL5, hb5, hL4, hLm, hLk⟩; refine Hid.out ?_))
    refine Lib.hid ?_
    have HLm := Lib.hid hLm
    have HL5 := Lib.hid hL5
    have HLk := Lib.hid hLk
    clear hLm hL5 hLk HI
    clear hgl
    try clear hgm
    try clear hxx
    try clear hgc2
    try clear hgb
    go_wp2_with (first
      | (go_at_call 18; refine (HLn.out _ hb5).mono ?_; rintro e w6 ⟨⟨n, rfl, hn4, hnk⟩, hw6⟩; rw [hw6]; clear hw6 w6; refine Hid.out ?_))
    refine Lib.hid ?_
    have hn : n = L.length + g.length := by
      obtain ⟨K, hK, e⟩ := hnk
      obtain ⟨K', hK', e'⟩ := HLk.out
      have := HGo.out.cnt K K' hK hK'
      omega
    have hwr : wrap64 ((L.length : Int) + (g.length : Int)) = (n : Int) := by
      have : ((L.length : Int) + (g.length : Int)) = (n : Int) := by omega
      rw [this]
      unfold wrap64; omega
    have hgl4 : g.length ≤ 4096 := by omega
    clear hn hnk HLk HLn
    have HG5 := Lib.hid (HG4.out.below hb5)
    have HA5 := Lib.hid (HA4.out.below hb5)
    have HA35 := Lib.hid (HA34.out.below hb5)
    have HB5 : Hid (Below w.heap.size w w5) := HB4.out.trans (hb5.mono HB4.out.size)
    clear HG4 HA4 HA34 HB4 hb5 HH4
    go_wp2_with fail
    clear hwr
    go_loopw [76] (fun y wr => ∃ k : Nat, y = .int .i64 k ∧ k ≤ g.length ∧ Below w5.heap.size w5 wr) (fun y _ => g.length - (intOf y).toNat)
    case atStart => exact ⟨0, rfl, Nat.zero_le _, Below.refl _ _⟩
    case round =>
      obtain ⟨k, rfl, hk, hB⟩ := hrel
      by_cases hlt : k < g.length
      · have hki : (k : Int) < (g.length : Int) := by omega
        have hIr := HG5.out.below hB
        obtain ⟨gb2, go2, hgeq, hgl2, hgc2⟩ := hIr k hlt
        have hgk := HGo.out.out g[k] (List.getElem_mem hlt)
        have hno : inB (g.take k) g[k] = false := by
          cases hh : inB (g.take k) g[k]
          · rfl
          · have h1 := inB_iff.1 hh
            obtain ⟨j, hj, hje⟩ := List.getElem_of_mem h1
            rw [List.getElem_take] at hje
            rw [List.length_take] at hj
            have := (List.getElem_inj HGo.out.nd (h₁ := hlt) (h₀ := by omega)).1 hje
            omega
        obtain ⟨y, hy⟩ : ∃ y, g[k] = y := ⟨_, rfl⟩
        rw [hy] at hgc2 hgk hno
        obtain ⟨hyn, o, hyo⟩ := hgk
        have hLr := HL5.out.below hB
        have hn1 : inB L y = false := by
          cases hh : inB L y
          · rfl
          · obtain ⟨o2, ho2⟩ := (HLm.out y).1 (inB_iff.1 hh)
            rw [hyn] at ho2; cases ho2
        have HN1 := Lib.hid (In_any wr sp cp L y hLr (by omega))
        have hN2 := In_any wr _ cg (g.take k) y (hIr.take k) (by rw [List.length_take]; omega)
        rw [hno, show (g.take k).length = k from by rw [List.length_take]; omega] at hN2
        rw [hn1] at HN1
        have HN2 := Lib.hid hN2
        have HNi := Lib.hid (info_hi (HA35.out.below hB) y o hyo)
        have HBr := Lib.hid hB
        clear hn1 hN2 hLr hno hyn hyo hIr hB hy
        cases hgeq
        go_wp2_with (first
          | (go_at_call 17; refine HN1.out.mono ?_; rintro e x1 ⟨rfl, hx1⟩; rw [hx1]; clear hx1 x1; refine Hid.out ?_))
        refine Lib.hid ?_
        clear HN1
        have hc1 : (k : Int) ≤ (cg : Int) := by have := HCG.out; omega
        have hc2 : ¬ ((k : Int) < 0) := by omega
        go_wp2_with (first
          | (go_at_call 17; refine HN2.out.mono ?_; rintro e x1 ⟨rfl, hx1⟩; rw [hx1]; clear hx1 x1; refine Hid.out ?_))
        refine Lib.hid ?_
        clear HN2 hc1 hc2
        go_wp2_with (first
          | (go_at_call 16; refine HNi.out.mono ?_; rintro e x1 ⟨sa, ca, rfl, _, hx1⟩))
        go_roundw
        case rel => exact ⟨k + 1, by go_num, by omega, HBr.out.trans ((hx1.alloc hx1.size _).mono HBr.out.size)⟩
        case measure => simp [intOf]; omega
      · obtain rfl : k = g.length := by omega
        obtain ⟨wq, rfl⟩ : ∃ wq, wq = wr := ⟨_, rfl⟩
        have HQ := Lib.hid hB
        clear hB hk hlt
        go_wp2_with fail
        go_loopw [102] (fun y wr => ∃ k : Nat, y = .int .i64 k ∧ k ≤ L.length ∧ Below wq.heap.size wq wr) (fun y _ => L.length - (intOf y).toNat)
        case atStart => exact ⟨0, rfl, Nat.zero_le _, Below.refl _ _⟩
        case round =>
          obtain ⟨k, rfl, hk, hB⟩ := hrel
          have HBr := Lib.hid hB
          have HB : Hid (Below w5.heap.size w5 wr) := HQ.out.trans (hB.mono HQ.out.size)
          clear hB
          by_cases hlt : k < L.length
          · have hki : (k : Int) < (L.length : Int) := by omega
            obtain ⟨gb3, go3, hgeq, hgl2, hgc2⟩ := (HL5.out.below HB.out) k hlt
            have hmem : L[k] ∈ L := List.getElem_mem hlt
            obtain ⟨y, hy⟩ : ∃ y, L[k] = y := ⟨_, rfl⟩
            rw [hy] at hgc2 hmem
            obtain ⟨o2, ho2⟩ := (HLm.out y).1 hmem
            obtain ⟨o, ho, e1, e2, e3, e4, l1, l2, l3⟩ := HGo.out.les y o2 ho2
            have hct : o.cats.length < 1000000 := by
              obtain ⟨K, D, T, _, _, _, h4⟩ := HA35.out
              exact (h4.ok y o ho).cat
            have HNa := Lib.hid (fun (X : World) (hX : Below w5.heap.size w5 X) => info_hi (HA35.out.below hX) y o ho)
            have HNb := Lib.hid (fun (X : World) (hX : Below w5.heap.size w5 X) => info_hi (HA5.out.below hX) y o2 ho2)
            simp only [e1, e2, e3, e4] at HNb
            clear ho ho2 e1 e2 e3 e4 hmem hy
            generalize o.kind = kd at *
            generalize o.quota = qt at *
            generalize o.df = df at *
            generalize o.cats = cs at *
            generalize o.used = ua at *
            generalize o.links = la at *
            generalize o2.used = ub at *
            generalize o2.links = lb at *
            have n1 : ¬ lb < 1 := by omega
            have n2 : ¬ la < lb := by omega
            have n3 : ¬ ua < ub := by omega
            clear l1 l2 l3
            subst hgeq
            go_wp2_with (first
              | (go_at_call 16; refine (HNa.out _ HB.out).mono ?_; rintro e x1 ⟨sa, ca, rfl, hCa, hc1⟩; refine Hid.out ?_))
            refine Lib.hid ?_
            have B1 : Below w5.heap.size w5 x1 := HB.out.trans (hc1.mono HB.out.size)
            have HX1 := Lib.hid hc1
            have HCa := Lib.hid hCa
            clear hc1 hCa
            go_wp2_with (first
              | (go_at_call 16; refine (HNb.out _ (B1.alloc B1.size _)).mono ?_; rintro e x2 ⟨sb, cb, rfl, hCb, hc2⟩; refine Hid.out ?_))
            refine Lib.hid ?_
            have k2 : x2.heap[x1.heap.size]? = some (.cells #[.int .i64 o.id, .int .i64 kd, .int .i64 qt, .int .i64 ua, .int .i64 la, .int .i64 df, .slice sa cs.length ca] 44 (0, 0)) := (hc2.block _ (by simp)).trans (heap_new _ _)
            have hlt1 : x1.heap.size < x2.heap.size := (Array.getElem?_eq_some_iff.1 k2).1
            have HX2 : Hid (Below wr.heap.size wr x2) := HX1.out.trans ((((Below.refl _ _).alloc (Nat.le_refl _) _).trans (hc2.mono (by simp))).mono HX1.out.size)
            have hCa2 : CatsAt x2 sa cs := (HCa.out.below ((Below.refl _ _).alloc (Nat.le_refl _) (.cells #[.int .i64 o.id, .int .i64 kd, .int .i64 qt, .int .i64 ua, .int .i64 la, .int .i64 df, .slice sa cs.length ca] 44))).below hc2
            obtain ⟨X, hX⟩ : ∃ X, X = x2.alloc (.cells #[.int .i64 o2.id, .int .i64 kd, .int .i64 qt, .int .i64 ub, .int .i64 lb, .int .i64 df, .slice sb cs.length cb] 44) := ⟨_, rfl⟩
            have q1 : X.heap[x1.heap.size]? = some (.cells #[.int .i64 o.id, .int .i64 kd, .int .i64 qt, .int .i64 ua, .int .i64 la, .int .i64 df, .slice sa cs.length ca] 44 (0, 0)) := by rw [hX]; exact (Below.heap_alloc _ _ _ hlt1).trans k2
            have q2 : X.heap[x2.heap.size]? = some (.cells #[.int .i64 o2.id, .int .i64 kd, .int .i64 qt, .int .i64 ub, .int .i64 lb, .int .i64 df, .slice sb cs.length cb] 44 (0, 0)) := by rw [hX]; exact heap_new _ _
            have hXb : Below x2.heap.size x2 X := by rw [hX]; exact (Below.refl _ _).alloc (Nat.le_refl _) _
            have HSa := Lib.hid (Same_any df df sa sb ca cb cs cs X (by unfold maxLen; omega) (by unfold maxLen; omega) (hCa2.below hXb) (CatsAt.below hCb hXb))
            rw [show sameS df df cs cs = true from by simp [sameS]] at HSa
            have ca1 : X.cell? ⟨x1.heap.size, 1, none⟩ = some (.int .i64 kd) := by simp [World.cell?, q1]
            have ca2 : X.cell? ⟨x1.heap.size, 2, none⟩ = some (.int .i64 qt) := by simp [World.cell?, q1]
            have ca3 : X.cell? ⟨x1.heap.size, 3, none⟩ = some (.int .i64 ua) := by simp [World.cell?, q1]
            have ca4 : X.cell? ⟨x1.heap.size, 4, none⟩ = some (.int .i64 la) := by simp [World.cell?, q1]
            have ca5 : X.cell? ⟨x1.heap.size, 5, none⟩ = some (.int .i64 df) := by simp [World.cell?, q1]
            have ca6 : X.cell? ⟨x1.heap.size, 6, none⟩ = some (.slice sa cs.length ca) := by simp [World.cell?, q1]
            have cb1 : X.cell? ⟨x2.heap.size, 1, none⟩ = some (.int .i64 kd) := by simp [World.cell?, q2]
            have cb2 : X.cell? ⟨x2.heap.size, 2, none⟩ = some (.int .i64 qt) := by simp [World.cell?, q2]
            have cb3 : X.cell? ⟨x2.heap.size, 3, none⟩ = some (.int .i64 ub) := by simp [World.cell?, q2]
            have cb4 : X.cell? ⟨x2.heap.size, 4, none⟩ = some (.int .i64 lb) := by simp [World.cell?, q2]
            have cb5 : X.cell? ⟨x2.heap.size, 5, none⟩ = some (.int .i64 df) := by simp [World.cell?, q2]
            have cb6 : X.cell? ⟨x2.heap.size, 6, none⟩ = some (.slice sb cs.length cb) := by simp [World.cell?, q2]
            have HX3 : Hid (Below wr.heap.size wr X) := HX2.out.trans (hXb.mono HX2.out.size)
            have HQ1 := Lib.hid q1
            have HQ2 := Lib.hid q2
            have hz1 := (Array.getElem?_eq_some_iff.1 q1).1
            have hz2 := (Array.getElem?_eq_some_iff.1 q2).1
            clear k2 hc2 hCa2 hCb q1 q2 hXb HX1 HX2 HNa HNb HCa hct
            go_wp2_with (first
              | (rw [← hX]; clear hX; refine Hid.out ?_))
            refine Lib.hid ?_
            go_wp2_with (first
              | (go_at_call 27; refine HSa.out.mono ?_; rintro e x3 ⟨rfl, hc3⟩; refine Hid.out ?_))
            refine Lib.hid ?_
            have q3 := (hc3.block _ hz1).trans HQ1.out
            have q4 := (hc3.block _ hz2).trans HQ2.out
            have da3 : x3.cell? ⟨x1.heap.size, 3, none⟩ = some (.int .i64 ua) := by simp [World.cell?, q3]
            have da4 : x3.cell? ⟨x1.heap.size, 4, none⟩ = some (.int .i64 la) := by simp [World.cell?, q3]
            have db3 : x3.cell? ⟨x2.heap.size, 3, none⟩ = some (.int .i64 ub) := by simp [World.cell?, q4]
            have db4 : x3.cell? ⟨x2.heap.size, 4, none⟩ = some (.int .i64 lb) := by simp [World.cell?, q4]
            have HX4 : Hid (Below wr.heap.size wr x3) := HX3.out.trans (hc3.mono HX3.out.size)
            clear q3 q4 hc3 HQ1 HQ2 hz1 hz2 HX3 HSa ca1 ca2 ca3 ca4 ca5 ca6 cb1 cb2 cb3 cb4 cb5 cb6
            go_wp2_with fail
            go_roundw
            case rel => exact ⟨k + 1, by go_num, by omega, HBr.out.trans (HX4.out.mono HBr.out.size)⟩
            case measure => simp [intOf]; omega
          · obtain rfl : k = L.length := by omega
            go_wp2_with fail
            go_ret
            exact ⟨rfl, HB5.out.trans (HB.out.mono HB5.out.size)⟩
end Go.Proofs.Ytlblfelfaopjiaa

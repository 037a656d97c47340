/- The sums hold. -/
import Derived.Test.YtlblfelfaopjiaaSumsB
namespace Go.Proofs.Ytlblfelfaopjiaa
open Go.RowKit Go.Sort
theorem RP.two (w : World) : RP ((w.alloc (.cells #[.int .i64 1] 3)).alloc (.cells #[.int .i64 1] 3)) w.heap.size w.heap.size 1 (w.heap.size + 1) 1 [1] [1] := by
  refine ⟨⟨rfl, .inr ⟨_, _, #[.int .i64 1], rfl, Nat.le_refl _, ?_, Nat.le_refl _, by unfold maxLen; omega, rfl, rfl⟩⟩, ⟨rfl, .inr ⟨_, _, #[.int .i64 1], rfl, by omega, ?_, Nat.le_refl _, by unfold maxLen; omega, rfl, rfl⟩⟩, by omega⟩
  · rw [Below.heap_alloc _ _ _ (by simp)]; exact heap_new _ _
  · have := heap_new (w.alloc (.cells #[.int .i64 1] 3)) (.cells #[.int .i64 1] 3)
    simpa using this
theorem SI.bound {S : Abs} {i : Nat} {E R Lk K : List Int} (h : SI S i E R Lk) (hi : Inv S K) : R.length ≤ 4096 := by
  have := nodup_len h.nd (fun x hx => by obtain ⟨o, ho⟩ := h.has x hx; exact (hi.bal.mem x).2 (by rw [ho]; rfl))
  have := hi.len
  omega
theorem row_at {w : World} {B b c : Nat} {l : List Int} (h : w.ownsRow B 3 1 (.slice (some ⟨b, 0, none⟩) l.length c) l.length (ivs l)) (j : Nat) (hj : j < l.length) : w.cell? ⟨b, j, none⟩ = some (.int .i64 l[j]) := by
  obtain ⟨g, o, e, _, hc⟩ := row_ints h j hj
  cases e
  rw [Nat.zero_add] at hc
  exact hc
theorem row_cap2 {w : World} {base : Nat} {p : Option Addr} {cap : Nat} {l : List Int} (h : w.ownsRow base 3 1 (.slice p l.length cap) l.length (ivs l)) : l.length ≤ cap := by
  rcases h.2 with ⟨hv, h0⟩ | ⟨g, cap', cur, hv, _, hg, hc⟩
  · omega
  · simp at hv
    obtain ⟨_, rfl⟩ := hv
    exact hc.1
theorem SI.small {S : Abs} {i : Nat} {E R Lk K : List Int} (h : SI S i E R Lk) (hi : Inv S K) (hE : E.length ≤ 4096) {n : Nat} {v : Int} (hv : Lk[n]? = some v) : 0 ≤ v ∧ v ≤ 10000 := by
  have hn : n < R.length := by rw [← h.len]; exact (List.getElem?_eq_some_iff.1 hv).1
  have hb := h.bound hi
  have h1 := h.lk n hn
  rw [hv] at h1
  have h2 := Option.some.inj h1
  have key : ∀ (L : List Int), (L.map (occ S R[n])).sum ≤ L.length := fun L => by
    induction L with
    | nil => simp
    | cons y L ih =>
      rw [List.map_cons, List.sum_cons, List.length_cons]
      have : occ S R[n] y ≤ 1 := by
        unfold occ
        cases hS : S y with
        | none => simp
        | some o => exact List.nodup_iff_count.1 (hi.ok y o hS).nd _
      omega
  have h3 : cnt S (R.take i) R[n] ≤ (R.take i).length := key _
  rw [List.length_take] at h3
  have h4 : E.count R[n] ≤ E.length := List.count_le_length
  rw [h2]
  by_cases e : R[n] = 1
  · rw [if_pos e]; omega
  · rw [if_neg e]; omega
theorem row_fz {w : World} {B b c : Nat} {l : List Int} (h : w.ownsRow B 3 1 (.slice (some ⟨b, 0, none⟩) l.length c) l.length (ivs l)) (j : Nat) : w.frozen? ⟨b, j, none⟩ = false := by
  rcases h.2 with ⟨hv, h0⟩ | ⟨g, cap', cur, hv, _, hg, _⟩
  · simp at hv
  · simp at hv
    obtain ⟨rfl, rfl⟩ := hv
    simp [World.frozen?, hg]
set_option maxRecDepth 100000 in
set_option maxHeartbeats 8000000 in
theorem HoldSums_any (p : Option Addr) (cap : Nat) (l : List OpR) (w : World) (hl : OpsAt w p l) :
    Calls Try.prog 4 #[.slice p l.length cap] w fun e w' => e = .returned (.bool true) ∧ Below w.heap.size w w' := by
  have HLv := Lib.hid lives_any
  have HL := Lib.hid hl
  clear hl
  go_enter Try.func4, Try.ntmps4
  go_wp2_with (first
    | (go_at_call 8; refine (HLv.out _).mono ?_; rintro e w1 ⟨rfl, hb1⟩; refine Hid.out ?_))
  refine Lib.hid ?_
  have B1 : Below w.heap.size w w1 := hb1
  have HR := Lib.hid (run_hi p cap l (HL.out.below B1))
  clear HLv hb1
  go_wp2_with (first
    | (go_at_call 13; refine HR.out.mono ?_; rintro e w2 ⟨base, tb, mb, F, S, rfl, hA2, hbase, hb2⟩; refine Hid.out ?_))
  refine Lib.hid ?_
  have B2 : Below w.heap.size w w2 := B1.trans (hb2.mono B1.size)
  have HI := Lib.hid (ids_hi hA2)
  have HA2 := Lib.hid hA2
  clear hb2 HR B1 hA2 hbase
  go_wp2_with (first
    | (go_at_call 14; refine HI.out.mono ?_; rintro e w3 ⟨sp, cp, L, rfl, hL3, hb3, hL4, hLm, hLk⟩; refine Hid.out ?_))
  refine Lib.hid ?_
  have HB3 : Hid (Below w.heap.size w w3) := B2.trans (hb3.mono B2.size)
  have HA3 := Lib.hid (HA2.out.below hb3)
  have HLk := Lib.hid hLk
  clear hLk hLm hL3 hb3 B2 HI HA2 HL
  go_wp2_with fail
  obtain ⟨K, hK⟩ : ∃ K, Inv S K := by obtain ⟨K, _, _, _, _, _, h⟩ := HA3.out; exact ⟨K, h⟩
  have HK := Lib.hid hK
  obtain ⟨o1, ho1⟩ : ∃ o, S 1 = some o := by
    cases hS : S 1 with
    | some o => exact ⟨o, rfl⟩
    | none => exact absurd rfl (hK.bal.no 1 hS).2
  have HO1 := Lib.hid ho1
  clear hK ho1
  go_loopw [5, 6, 7] (fun y5 y6 y7 wr => ∃ (i br cr bl cl : Nat) (R Lk : List Int), y5 = .slice (some ⟨br, 0, none⟩) R.length cr ∧ y6 = .slice (some ⟨bl, 0, none⟩) Lk.length cl ∧ y7 = .int .i64 i ∧ SI S i [] R Lk ∧ RP wr w3.heap.size br cr bl cl R Lk ∧ Below w3.heap.size w3 wr) (fun _ _ y7 _ => 5000 - (intOf y7).toNat)
  case atStart => exact ⟨0, _, _, _, _, [1], [1], rfl, rfl, rfl, SI.start HO1.out, RP.two w3, ((Below.refl _ _).alloc (Nat.le_refl _) _).alloc (by simp) _⟩
  case round =>
    obtain ⟨i, br, cr, bl, cl, R, Lk, rfl, rfl, rfl, hS, hR, hB⟩ := hrel
    have hR4 := hS.bound HK.out
    have HSI := Lib.hid hS
    have HRP := Lib.hid hR
    have HB := Lib.hid hB
    by_cases hlt : i < R.length
    · have hki : (i : Int) < (R.length : Int) := by omega
      have hc0 := row_at hR.r i hlt
      obtain ⟨o, ho⟩ := hS.has R[i] (List.getElem_mem hlt)
      obtain ⟨x, hx⟩ : ∃ x, R[i] = x := ⟨_, rfl⟩
      have HX : Hid (R[i]? = some x) := by rw [← hx]; exact List.getElem?_eq_getElem hlt
      rw [hx] at hc0 ho
      have HLs := Lib.hid (list_hi (HA3.out.below hB) x o ho)
      have HIs := Lib.hid (fun (Y : World) (hY : Below w3.heap.size w3 Y) => info_hi (HA3.out.below hY) x o ho)
      have HO := Lib.hid ho
      have hbr := hR.lt.2.1
      clear hS hR hB hx ho
      go_wp2_with (first
        | (go_at_call 15; refine HLs.out.mono ?_; rintro e x1 ⟨lp, lc, c, rfl, hrow, hb1, hck⟩; refine Hid.out ?_))
      refine Lib.hid ?_
      have hc1 : x1.cell? ⟨br, i, none⟩ = some (.int .i64 x) := (hb1.cell (p := ⟨br, i, none⟩) hbr).trans hc0
      have B1 : Below w3.heap.size w3 x1 := HB.out.trans (hb1.mono HB.out.size)
      have HRow := Lib.hid hrow
      have HB1 := Lib.hid hb1
      have HCk := Lib.hid hck
      clear HLs hrow hb1 hck hc0
      go_wp2_with (first
        | (go_at_call 16; refine (HIs.out _ B1).mono ?_; rintro e x2 ⟨sa, ca, rfl, _, hb2⟩; refine Hid.out ?_))
      refine Lib.hid ?_
      obtain ⟨X, hX⟩ : ∃ X, X = x2.alloc (.cells #[.int .i64 o.id, .int .i64 o.kind, .int .i64 o.quota, .int .i64 o.used, .int .i64 o.links, .int .i64 o.df, .slice sa o.cats.length ca] 44) := ⟨_, rfl⟩
      have hXb : Below x2.heap.size x2 X := by rw [hX]; exact (Below.refl _ _).alloc (Nat.le_refl _) _
      have hXX : X.heap[x2.heap.size]? = some (.cells #[.int .i64 o.id, .int .i64 o.kind, .int .i64 o.quota, .int .i64 o.used, .int .i64 o.links, .int .i64 o.df, .slice sa o.cats.length ca] 44 (0, 0)) := by rw [hX]; exact heap_new _ _
      have b12 : Below wr.heap.size wr X := HB1.out.trans ((hb2.trans (hXb.mono hb2.size)).mono HB1.out.size)
      have hzx : x1.heap.size ≤ x2.heap.size := hb2.size
      have hzw : wr.heap.size ≤ x1.heap.size := HB1.out.size
      have hzX : x2.heap.size < X.heap.size := (Array.getElem?_eq_some_iff.1 hXX).1
      have HRPX := Lib.hid (HRP.out.below b12)
      have HRowX : Hid (X.ownsRow wr.heap.size 3 1 (.slice lp o.ents.length lc) o.ents.length (ivs o.ents)) := row_same HRow.out (fun k hk => (hb2.trans (hXb.mono hb2.size)).block k (HRow.out.lt k hk).2)
      have HBX : Hid (Below w3.heap.size w3 X) := HB.out.trans (b12.mono HB.out.size)
      have hlr := HRP.out.lt
      have HLR := Lib.hid hlr
      have HXX := Lib.hid hXX
      have HBW := Lib.hid b12
      clear hb2 hXb hXX b12 HRow HRP HB1 hlr
      have g := HK.out.ok x o HO.out
      have hel := HK.out.elen HO.out
      have hkl := HK.out.len
      have he4 : o.ents.length ≤ 4096 := by omega
      have HGd := Lib.hid g
      clear g hel hkl
      rcases HCk.out with ⟨hc, hk⟩ | ⟨hc, hk, hu, he⟩
      · subst hc
        have hkb : (o.kind == 1) = true := by simp [hk]
        clear hk
        have m1 : X.cell? ⟨x2.heap.size, 1, none⟩ = some (.int .i64 o.kind) := by simp [World.cell?, HXX.out]
        have m3 : X.cell? ⟨x2.heap.size, 3, none⟩ = some (.int .i64 o.used) := by simp [World.cell?, HXX.out]
        go_wp2_with (first
          | (rw [← hX]; clear hX; refine Hid.out ?_))
        refine Lib.hid ?_
        go_wp2_with fail
        clear m1 m3 hkb hc1
        try clear hub
        try clear hub2
        try clear hcb
        try clear hcb2
        obtain ⟨wo, rfl⟩ : ∃ wo, wo = wr := ⟨_, rfl⟩
        go_loopw [5, 6, 12, 79] (fun y5 y6 y12 y79 wm => ∃ (k br' cr' bl' cl' : Nat) (R' Lk' : List Int), y5 = .slice (some ⟨br', 0, none⟩) R'.length cr' ∧ y6 = .slice (some ⟨bl', 0, none⟩) Lk'.length cl' ∧ y12 = .int .i64 ((o.ents.take k).map (qS S)).sum ∧ y79 = .int .i64 k ∧ k ≤ o.ents.length ∧ SI S i (o.ents.take k) R' Lk' ∧ R'[i]? = some x ∧ RP wm w3.heap.size br' cr' bl' cl' R' Lk' ∧ Fm X wm (FF br bl) (FF br' bl')) (fun _ _ _ y79 _ => o.ents.length - (intOf y79).toNat)
        case atStart => exact ⟨0, _, _, _, _, R, Lk, rfl, rfl, rfl, rfl, Nat.zero_le _, HSI.out, HX.out, HRPX.out, Fm.stay (Below.refl _ _)⟩
        case round =>
          obtain ⟨k, br', cr', bl', cl', R', Lk', rfl, rfl, rfl, rfl, hk, hS', hRi, hRP', hFm⟩ := hrel
          obtain ⟨wm, rfl⟩ : ∃ wm, wm = wr := ⟨_, rfl⟩
          have HS' := Lib.hid hS'
          have HRi := Lib.hid hRi
          have HRP' := Lib.hid hRP'
          have HFm := Lib.hid hFm
          have hR4' := hS'.bound HK.out
          have HBm : Hid (Below w3.heap.size w3 wm) := HBX.out.trans (hFm.below HBX.out.size (fun k hk => by have := HLR.out; rcases hk with e | e <;> omega))
          clear hS' hRi
          by_cases hkt : k < o.ents.length
          · have hki2 : (k : Int) < (o.ents.length : Int) := by omega
            have hrowm : wm.ownsRow wo.heap.size 3 1 (.slice lp o.ents.length lc) o.ents.length (ivs o.ents) := row_same HRowX.out (fun q hq => hFm.same q (HRowX.out.lt q hq).2 (fun hf => by
              have h1 := (HRowX.out.lt q hq).1
              have h2 := HLR.out
              rcases hf with e | e <;> omega))
            have hIl := row_ints hrowm
            have hcap := row_cap2 hrowm
            obtain ⟨lb, lo, hle, hlb, hlc⟩ := hIl k hkt
            have hymem : o.ents[k] ∈ o.ents := List.getElem_mem hkt
            obtain ⟨y, hy⟩ : ∃ y, o.ents[k] = y := ⟨_, rfl⟩
            have hny : inB (o.ents.take k) y = false := by
              cases hh : inB (o.ents.take k) y
              · rfl
              · have h1 := inB_iff.1 hh
                obtain ⟨j, hj, hje⟩ := List.getElem_of_mem h1
                rw [List.getElem_take] at hje
                rw [List.length_take] at hj
                have := (List.getElem_inj HGd.out.nd (h₁ := hkt) (h₀ := by omega)).1 (hje.trans hy.symm)
                omega
            have HTk : Hid (o.ents.take (k + 1) = o.ents.take k ++ [y]) := by rw [← hy]; exact List.take_succ_eq_append_getElem hkt
            rw [hy] at hlc hymem
            obtain ⟨q, hq⟩ := HK.out.ent HO.out hymem
            have HQ := Lib.hid hq
            have hN2 := fun (Y : World) (hY : Below wm.heap.size wm Y) => In_any Y lp lc (o.ents.take k) y ((hIl.below hY).take k) (by rw [List.length_take]; omega)
            rw [hny, show (o.ents.take k).length = k from by rw [List.length_take]; omega] at hN2
            have HN2 := Lib.hid hN2
            have HNi := Lib.hid (info_hi (HA3.out.below HBm.out) y q hq)
            have hs0 : 0 ≤ ((o.ents.take k).map (qS S)).sum := isum_nonneg _ (fun z _ => HK.out.qpos z)
            have hqq := (HK.out.ok y q hq).q
            have hqs : qS S y = q.quota := by unfold qS; rw [hq]
            have HSm : Hid (((o.ents.take (k + 1)).map (qS S)).sum = ((o.ents.take k).map (qS S)).sum + q.quota) := by show _ = _; rw [HTk.out, isum_app, hqs]
            have hsu : ((o.ents.take (k + 1)).map (qS S)).sum ≤ o.used := by
              rw [HGd.out.us]
              have : o.ents = o.ents.take (k + 1) ++ o.ents.drop (k + 1) := (List.take_append_drop _ _).symm
              have h2 : (o.ents.map (qS S)).sum = ((o.ents.take (k + 1)).map (qS S)).sum + ((o.ents.drop (k + 1)).map (qS S)).sum := by
                rw [← List.sum_append, ← List.map_append, List.take_append_drop]
              have h3 : 0 ≤ ((o.ents.drop (k + 1)).map (qS S)).sum := isum_nonneg _ (fun z _ => HK.out.qpos z)
              omega
            have hoq := HGd.out.le
            have hoq2 := HGd.out.q
            obtain ⟨s0, hs0e⟩ : ∃ s0, ((o.ents.take k).map (qS S)).sum = s0 := ⟨_, rfl⟩
            obtain ⟨s1, hs1e⟩ : ∃ s1, ((o.ents.take (k + 1)).map (qS S)).sum = s1 := ⟨_, rfl⟩
            have hss := HSm.out
            rw [hs1e, hs0e] at hss
            rw [hs1e] at hsu
            rw [hs0e] at hs0 ⊢
            have HS1 := Lib.hid hs1e
            have hwr : wrap64 (s0 + q.quota) = s1 := by rw [← hss]; unfold wrap64; omega
            subst hle
            clear hny hN2 hymem hq hs0 hqq hqs hsu hoq hoq2 hs0e hs1e hss HSm hIl hrowm hy hFm hRP'
            go_wp2_with (first
              | (go_at_call 16; refine HNi.out.mono ?_; rintro e x3 ⟨sb, cb, rfl, _, hb3⟩; refine Hid.out ?_))
            refine Lib.hid ?_
            obtain ⟨X3, hX3⟩ : ∃ X3, X3 = x3.alloc (.cells #[.int .i64 q.id, .int .i64 q.kind, .int .i64 q.quota, .int .i64 q.used, .int .i64 q.links, .int .i64 q.df, .slice sb q.cats.length cb] 44) := ⟨_, rfl⟩
            have hX3b : Below x3.heap.size x3 X3 := by rw [hX3]; exact (Below.refl _ _).alloc (Nat.le_refl _) _
            have hX3X : X3.heap[x3.heap.size]? = some (.cells #[.int .i64 q.id, .int .i64 q.kind, .int .i64 q.quota, .int .i64 q.used, .int .i64 q.links, .int .i64 q.df, .slice sb q.cats.length cb] 44 (0, 0)) := by rw [hX3]; exact heap_new _ _
            have B3 : Below wm.heap.size wm X3 := hb3.trans (hX3b.mono hb3.size)
            have n2 : X3.cell? ⟨x3.heap.size, 2, none⟩ = some (.int .i64 q.quota) := by simp [World.cell?, hX3X]
            have HI2 := Lib.hid (HN2.out _ B3)
            have HB3' := Lib.hid B3
            have hkc : (k : Int) ≤ (lc : Int) := by omega
            clear hb3 hX3b hX3X B3 HN2 HNi
            go_wp2_with (first
              | (rw [← hX3]; clear hX3; refine Hid.out ?_))
            refine Lib.hid ?_
            go_wp2_with (first
              | (go_at_call 17; refine HI2.out.mono ?_; rintro e x4 ⟨rfl, hx4⟩; rw [hx4]; clear hx4 x4; refine Hid.out ?_))
            refine Lib.hid ?_
            go_wp2_with fail
            have HRP3 := Lib.hid (HRP'.out.below HB3'.out)
            have hw3 : w3.heap.size ≤ X3.heap.size := Nat.le_trans HBm.out.size HB3'.out.size
            have HWR := Lib.hid hwr
            clear n2 hwr hkc hcap hlb hlc HI2
            go_loopw [17, 105] (fun y17 y105 wr => ∃ (j : Nat) (a : Int), y17 = .int .i64 a ∧ y105 = .int .i64 j ∧ j ≤ R'.length ∧ X3 = wr ∧ ((a = -1 ∧ y ∉ R'.take j) ∨ ∃ n : Nat, n < j ∧ a = n ∧ R'[n]? = some y)) (fun _ y105 _ => R'.length - (intOf y105).toNat)
            case atStart => exact ⟨0, -1, rfl, rfl, Nat.zero_le _, rfl, .inl ⟨rfl, by simp⟩⟩
            case round =>
              obtain ⟨j, a, rfl, rfl, hj, rfl, hat⟩ := hrel
              have HAt := Lib.hid hat
              clear hat
              by_cases hjt : j < R'.length
              · have hji : (j : Int) < (R'.length : Int) := by omega
                have hcj := row_at HRP3.out.r j hjt
                obtain ⟨r, hr⟩ : ∃ r, R'[j] = r := ⟨_, rfl⟩
                have HR' : Hid (R'[j]? = some r) := by rw [← hr]; exact List.getElem?_eq_getElem hjt
                have HTj : Hid (R'.take (j + 1) = R'.take j ++ [r]) := by rw [← hr]; exact List.take_succ_eq_append_getElem hjt
                rw [hr] at hcj
                clear hr
                by_cases hry : r = y
                · have hrb : (r == y) = true := by simp [hry]
                  have HRY := Lib.hid hry
                  clear hry
                  go_wp2_with fail
                  go_roundw
                  case rel => exact ⟨j + 1, j, rfl, by go_num, by omega, trivial, .inr ⟨j, by omega, rfl, by rw [HR'.out, HRY.out]⟩⟩
                  case measure => simp [intOf]; omega
                · have hrb : (r == y) = false := by simpa using hry
                  have HRY := Lib.hid hry
                  clear hry
                  go_wp2_with fail
                  go_roundw
                  case rel =>
                    refine ⟨j + 1, a, rfl, by go_num, by omega, trivial, ?_⟩
                    rcases HAt.out with ⟨e, hn⟩ | ⟨n, h1, h2, h3⟩
                    · refine .inl ⟨e, ?_⟩
                      rw [HTj.out]
                      intro hm
                      rcases List.mem_append.1 hm with hm | hm
                      · exact hn hm
                      · simp at hm; exact HRY.out hm.symm
                    · exact .inr ⟨n, by omega, h2, h3⟩
                  case measure => simp [intOf]; omega
              · obtain rfl : j = R'.length := by omega
                rcases HAt.out with ⟨hae, hyn⟩ | ⟨n, hn, hae, hny⟩
                · subst hae
                  rw [List.take_length] at hyn
                  have HYN := Lib.hid hyn
                  clear hyn HAt
                  have hRl := HRP3.out.below ((Below.refl _ _).alloc (Nat.le_refl _) (.cells #[.int .i64 y] 3))
                  have HRa := Lib.hid hRl
                  have HN5 : Hid (∀ j u, (ivs [y])[j]? = some u → (X3.alloc (.cells #[.int .i64 y] 3)).cell? ((⟨X3.heap.size, 0, none⟩ : Addr).add j) = some u) := cell_one_new X3 _ _
                  have hz5 : w3.heap.size ≤ (X3.alloc (.cells #[.int .i64 y] 3)).heap.size := by simp; omega
                  clear hRl
                  go_wp2_with (at_builtin; refine app_ivs rfl _ _ rfl w3.heap.size (.slice (some ⟨br', 0, none⟩) R'.length cr') R' [y] ⟨X3.heap.size, 0, none⟩ 1 rfl HRa.out.r hz5 (by simp; omega) rfl HN5.out ?_; intro v6 x6 hown6 hgrow6 hnew6; obtain ⟨b6, c6, hv6, hRP6, hF6⟩ := HRa.out.addR hown6 hgrow6 hnew6; subst hv6; have HRP6 := Lib.hid hRP6; have HF6 := Lib.hid hF6; clear hown6 hgrow6 hnew6 hRP6 hF6; refine Hid.out ?_)
                  refine Lib.hid ?_
                  have hRl := HRP6.out.below ((Below.refl _ _).alloc (Nat.le_refl _) (.cells #[.int .i64 0] 3))
                  have HRb := Lib.hid hRl
                  have HN6 : Hid (∀ j u, (ivs [0])[j]? = some u → (x6.alloc (.cells #[.int .i64 0] 3)).cell? ((⟨x6.heap.size, 0, none⟩ : Addr).add j) = some u) := cell_one_new x6 _ _
                  have hz6 : w3.heap.size ≤ (x6.alloc (.cells #[.int .i64 0] 3)).heap.size := by have := HF6.out.size; simp at this ⊢; omega
                  have hlk4 : Lk'.length ≤ 4096 := by rw [HS'.out.len]; exact hR4'
                  clear hRl hz5 HN5
                  go_wp2_with (at_builtin; refine app_ivs rfl _ _ rfl w3.heap.size (.slice (some ⟨bl', 0, none⟩) Lk'.length cl') Lk' [0] ⟨x6.heap.size, 0, none⟩ 1 rfl HRb.out.l hz6 (by simp; omega) rfl HN6.out ?_; intro v7 x7 hown7 hgrow7 hnew7; obtain ⟨b7, c7, hv7, hRP7, hF7⟩ := HRb.out.addL hown7 hgrow7 hnew7; subst hv7; have HRP7 := Lib.hid hRP7; have HF7 := Lib.hid hF7; clear hown7 hgrow7 hnew7 hRP7 hF7; refine Hid.out ?_)
                  refine Lib.hid ?_
                  have hln : R'.length < (Lk' ++ [0]).length := by rw [List.length_append, HS'.out.len]; simp
                  have hcl := row_at HRP7.out.l R'.length hln
                  have hg0 : (Lk' ++ [0])[R'.length] = 0 := by
                    have : (Lk' ++ [(0 : Int)])[R'.length]? = some 0 := by rw [← HS'.out.len]; simp
                    exact (List.getElem?_eq_some_iff.1 this).2
                  rw [hg0] at hcl
                  have hfz := row_fz HRP7.out.l R'.length
                  have hnl : (R'.length : Int) < (Lk'.length : Int) + 1 := by have := HS'.out.len; omega
                  have hnl2 : R'.length < Lk'.length + 1 := by have := HS'.out.len; omega
                  obtain ⟨hst1, hst2⟩ := HRP7.out.set R'.length 1
                  have HST1 := Lib.hid hst1
                  have HST2 := Lib.hid hst2
                  clear hg0 hst1 hst2
                  go_wp2_with fail
                  go_roundw
                  case rel =>
                    refine ⟨k + 1, b6, c6, b7, c7, R' ++ [y], (Lk' ++ [0]).set R'.length 1, by simp, by simp, by rw [HS1.out, HWR.out], by go_num, by omega, ?_, ?_, HST1.out, ?_⟩
                    · have h0 := HS'.out.app HYN.out HQ.out
                      have h1 := h0.seen (a := R'.length) (v := 0) (by simp) (by rw [← HS'.out.len]; simp)
                      rw [HTk.out]
                      have hy : (R' ++ [y])[R'.length]'(by simp) = y := by simp
                      rw [hy] at h1
                      exact h1
                    · have := HRi.out
                      rw [List.getElem?_append_left (List.getElem?_eq_some_iff.1 this).1]; exact this
                    · exact (((((HFm.out.tr (Fm.stay HB3'.out)).tr (Fm.stay ((Below.refl _ _).alloc (Nat.le_refl _) _))).tr HF6.out).tr (Fm.stay ((Below.refl _ _).alloc (Nat.le_refl _) _))).tr HF7.out).tr HST2.out
                  case measure => simp [intOf]; omega
                · subst hae
                  have hnn : ¬ ((n : Int) < 0) := by omega
                  have hln : n < Lk'.length := by rw [HS'.out.len]; exact hn
                  have hcl := row_at HRP3.out.l n hln
                  have hfz := row_fz HRP3.out.l n
                  obtain ⟨v, hv⟩ : ∃ v, Lk'[n] = v := ⟨_, rfl⟩
                  have hv2 : Lk'[n]? = some v := by rw [← hv]; exact List.getElem?_eq_getElem hln
                  have hvb := HS'.out.small HK.out (by rw [List.length_take]; omega) hv2
                  rw [hv] at hcl
                  have HV := Lib.hid hv2
                  have hnl : (n : Int) < (Lk'.length : Int) := by omega
                  have hv1 : wrap64 (v + 1) = v + 1 := by unfold wrap64; omega
                  have HNY := Lib.hid hny
                  obtain ⟨hst1, hst2⟩ := HRP3.out.set n (v + 1)
                  have HST1 := Lib.hid hst1
                  have HST2 := Lib.hid hst2
                  clear hv hv2 hvb hny HAt hst1 hst2
                  go_wp2_with fail
                  go_roundw
                  case rel =>
                    refine ⟨k + 1, br', cr', bl', cl', R', Lk'.set n (v + 1), rfl, by rw [List.length_set], by rw [HS1.out, HWR.out], by go_num, by omega, ?_, HRi.out, HST1.out, ?_⟩
                    · have h1 := HS'.out.seen (a := n) hn HV.out
                      rw [(List.getElem?_eq_some_iff.1 HNY.out).2] at h1
                      rw [HTk.out]; exact h1
                    · exact (HFm.out.tr (Fm.stay HB3'.out)).tr HST2.out
                  case measure => simp [intOf]; omega
          · obtain rfl : k = o.ents.length := by omega
            have hux : ((o.ents.take o.ents.length).map (qS S)).sum = o.used := by rw [List.take_length]; exact HGd.out.us.symm
            rw [hux]
            have hxb : wm.heap[x2.heap.size]? = some (.cells #[.int .i64 o.id, .int .i64 o.kind, .int .i64 o.quota, .int .i64 o.used, .int .i64 o.links, .int .i64 o.df, .slice sa o.cats.length ca] 44 (0, 0)) := (hFm.same _ hzX (fun hf => by have := HLR.out; rcases hf with e | e <;> omega)).trans HXX.out
            have r2 : wm.cell? ⟨x2.heap.size, 2, none⟩ = some (.int .i64 o.quota) := by simp [World.cell?, hxb]
            have r3 : wm.cell? ⟨x2.heap.size, 3, none⟩ = some (.int .i64 o.used) := by simp [World.cell?, hxb]
            have hle : ¬ o.quota < o.used := by have := HGd.out.le; omega
            have HTL : Hid (o.ents.take o.ents.length = o.ents) := List.take_length
            clear hux hxb hFm hRP'
            go_wp2_with fail
            go_roundw
            case rel =>
              have h1 := HS'.out
              rw [HTL.out] at h1
              obtain ⟨h2, h3⟩ := List.getElem?_eq_some_iff.1 HRi.out
              exact ⟨i + 1, br', cr', bl', cl', R', Lk', rfl, rfl, by go_num, SI.next h2 (by rw [h3]; exact HO.out) h1, HRP'.out, HBm.out⟩
            case measure => simp [intOf]; omega
      · have hcb : (c == 0) = false := by simpa using hc
        have hcb2 : (c != 0) = true := by simpa using hc
        have hkb : (o.kind == 1) = false := by simpa using hk
        have hub : (o.used == 0) = true := by simp [hu]
        have hub2 : (o.used != 0) = false := by simp [hu]
        clear hc hk hu he
        have m1 : X.cell? ⟨x2.heap.size, 1, none⟩ = some (.int .i64 o.kind) := by simp [World.cell?, HXX.out]
        have m3 : X.cell? ⟨x2.heap.size, 3, none⟩ = some (.int .i64 o.used) := by simp [World.cell?, HXX.out]
        go_wp2_with (first
          | (rw [← hX]; clear hX; refine Hid.out ?_))
        refine Lib.hid ?_
        go_wp2_with fail
        clear m1 m3 hkb hc1
        try clear hub
        try clear hub2
        try clear hcb
        try clear hcb2
        obtain ⟨wo, rfl⟩ : ∃ wo, wo = wr := ⟨_, rfl⟩
        go_loopw [5, 6, 12, 79] (fun y5 y6 y12 y79 wm => ∃ (k br' cr' bl' cl' : Nat) (R' Lk' : List Int), y5 = .slice (some ⟨br', 0, none⟩) R'.length cr' ∧ y6 = .slice (some ⟨bl', 0, none⟩) Lk'.length cl' ∧ y12 = .int .i64 ((o.ents.take k).map (qS S)).sum ∧ y79 = .int .i64 k ∧ k ≤ o.ents.length ∧ SI S i (o.ents.take k) R' Lk' ∧ R'[i]? = some x ∧ RP wm w3.heap.size br' cr' bl' cl' R' Lk' ∧ Fm X wm (FF br bl) (FF br' bl')) (fun _ _ _ y79 _ => o.ents.length - (intOf y79).toNat)
        case atStart => exact ⟨0, _, _, _, _, R, Lk, rfl, rfl, rfl, rfl, Nat.zero_le _, HSI.out, HX.out, HRPX.out, Fm.stay (Below.refl _ _)⟩
        case round =>
          obtain ⟨k, br', cr', bl', cl', R', Lk', rfl, rfl, rfl, rfl, hk, hS', hRi, hRP', hFm⟩ := hrel
          obtain ⟨wm, rfl⟩ : ∃ wm, wm = wr := ⟨_, rfl⟩
          have HS' := Lib.hid hS'
          have HRi := Lib.hid hRi
          have HRP' := Lib.hid hRP'
          have HFm := Lib.hid hFm
          have hR4' := hS'.bound HK.out
          have HBm : Hid (Below w3.heap.size w3 wm) := HBX.out.trans (hFm.below HBX.out.size (fun k hk => by have := HLR.out; rcases hk with e | e <;> omega))
          clear hS' hRi
          by_cases hkt : k < o.ents.length
          · have hki2 : (k : Int) < (o.ents.length : Int) := by omega
            have hrowm : wm.ownsRow wo.heap.size 3 1 (.slice lp o.ents.length lc) o.ents.length (ivs o.ents) := row_same HRowX.out (fun q hq => hFm.same q (HRowX.out.lt q hq).2 (fun hf => by
              have h1 := (HRowX.out.lt q hq).1
              have h2 := HLR.out
              rcases hf with e | e <;> omega))
            have hIl := row_ints hrowm
            have hcap := row_cap2 hrowm
            obtain ⟨lb, lo, hle, hlb, hlc⟩ := hIl k hkt
            have hymem : o.ents[k] ∈ o.ents := List.getElem_mem hkt
            obtain ⟨y, hy⟩ : ∃ y, o.ents[k] = y := ⟨_, rfl⟩
            have hny : inB (o.ents.take k) y = false := by
              cases hh : inB (o.ents.take k) y
              · rfl
              · have h1 := inB_iff.1 hh
                obtain ⟨j, hj, hje⟩ := List.getElem_of_mem h1
                rw [List.getElem_take] at hje
                rw [List.length_take] at hj
                have := (List.getElem_inj HGd.out.nd (h₁ := hkt) (h₀ := by omega)).1 (hje.trans hy.symm)
                omega
            have HTk : Hid (o.ents.take (k + 1) = o.ents.take k ++ [y]) := by rw [← hy]; exact List.take_succ_eq_append_getElem hkt
            rw [hy] at hlc hymem
            obtain ⟨q, hq⟩ := HK.out.ent HO.out hymem
            have HQ := Lib.hid hq
            have hN2 := fun (Y : World) (hY : Below wm.heap.size wm Y) => In_any Y lp lc (o.ents.take k) y ((hIl.below hY).take k) (by rw [List.length_take]; omega)
            rw [hny, show (o.ents.take k).length = k from by rw [List.length_take]; omega] at hN2
            have HN2 := Lib.hid hN2
            have HNi := Lib.hid (info_hi (HA3.out.below HBm.out) y q hq)
            have hs0 : 0 ≤ ((o.ents.take k).map (qS S)).sum := isum_nonneg _ (fun z _ => HK.out.qpos z)
            have hqq := (HK.out.ok y q hq).q
            have hqs : qS S y = q.quota := by unfold qS; rw [hq]
            have HSm : Hid (((o.ents.take (k + 1)).map (qS S)).sum = ((o.ents.take k).map (qS S)).sum + q.quota) := by show _ = _; rw [HTk.out, isum_app, hqs]
            have hsu : ((o.ents.take (k + 1)).map (qS S)).sum ≤ o.used := by
              rw [HGd.out.us]
              have : o.ents = o.ents.take (k + 1) ++ o.ents.drop (k + 1) := (List.take_append_drop _ _).symm
              have h2 : (o.ents.map (qS S)).sum = ((o.ents.take (k + 1)).map (qS S)).sum + ((o.ents.drop (k + 1)).map (qS S)).sum := by
                rw [← List.sum_append, ← List.map_append, List.take_append_drop]
              have h3 : 0 ≤ ((o.ents.drop (k + 1)).map (qS S)).sum := isum_nonneg _ (fun z _ => HK.out.qpos z)
              omega
            have hoq := HGd.out.le
            have hoq2 := HGd.out.q
            obtain ⟨s0, hs0e⟩ : ∃ s0, ((o.ents.take k).map (qS S)).sum = s0 := ⟨_, rfl⟩
            obtain ⟨s1, hs1e⟩ : ∃ s1, ((o.ents.take (k + 1)).map (qS S)).sum = s1 := ⟨_, rfl⟩
            have hss := HSm.out
            rw [hs1e, hs0e] at hss
            rw [hs1e] at hsu
            rw [hs0e] at hs0 ⊢
            have HS1 := Lib.hid hs1e
            have hwr : wrap64 (s0 + q.quota) = s1 := by rw [← hss]; unfold wrap64; omega
            subst hle
            clear hny hN2 hymem hq hs0 hqq hqs hsu hoq hoq2 hs0e hs1e hss HSm hIl hrowm hy hFm hRP'
            go_wp2_with (first
              | (go_at_call 16; refine HNi.out.mono ?_; rintro e x3 ⟨sb, cb, rfl, _, hb3⟩; refine Hid.out ?_))
            refine Lib.hid ?_
            obtain ⟨X3, hX3⟩ : ∃ X3, X3 = x3.alloc (.cells #[.int .i64 q.id, .int .i64 q.kind, .int .i64 q.quota, .int .i64 q.used, .int .i64 q.links, .int .i64 q.df, .slice sb q.cats.length cb] 44) := ⟨_, rfl⟩
            have hX3b : Below x3.heap.size x3 X3 := by rw [hX3]; exact (Below.refl _ _).alloc (Nat.le_refl _) _
            have hX3X : X3.heap[x3.heap.size]? = some (.cells #[.int .i64 q.id, .int .i64 q.kind, .int .i64 q.quota, .int .i64 q.used, .int .i64 q.links, .int .i64 q.df, .slice sb q.cats.length cb] 44 (0, 0)) := by rw [hX3]; exact heap_new _ _
            have B3 : Below wm.heap.size wm X3 := hb3.trans (hX3b.mono hb3.size)
            have n2 : X3.cell? ⟨x3.heap.size, 2, none⟩ = some (.int .i64 q.quota) := by simp [World.cell?, hX3X]
            have HI2 := Lib.hid (HN2.out _ B3)
            have HB3' := Lib.hid B3
            have hkc : (k : Int) ≤ (lc : Int) := by omega
            clear hb3 hX3b hX3X B3 HN2 HNi
            go_wp2_with (first
              | (rw [← hX3]; clear hX3; refine Hid.out ?_))
            refine Lib.hid ?_
            go_wp2_with (first
              | (go_at_call 17; refine HI2.out.mono ?_; rintro e x4 ⟨rfl, hx4⟩; rw [hx4]; clear hx4 x4; refine Hid.out ?_))
            refine Lib.hid ?_
            go_wp2_with fail
            have HRP3 := Lib.hid (HRP'.out.below HB3'.out)
            have hw3 : w3.heap.size ≤ X3.heap.size := Nat.le_trans HBm.out.size HB3'.out.size
            have HWR := Lib.hid hwr
            clear n2 hwr hkc hcap hlb hlc HI2
            go_loopw [17, 105] (fun y17 y105 wr => ∃ (j : Nat) (a : Int), y17 = .int .i64 a ∧ y105 = .int .i64 j ∧ j ≤ R'.length ∧ X3 = wr ∧ ((a = -1 ∧ y ∉ R'.take j) ∨ ∃ n : Nat, n < j ∧ a = n ∧ R'[n]? = some y)) (fun _ y105 _ => R'.length - (intOf y105).toNat)
            case atStart => exact ⟨0, -1, rfl, rfl, Nat.zero_le _, rfl, .inl ⟨rfl, by simp⟩⟩
            case round =>
              obtain ⟨j, a, rfl, rfl, hj, rfl, hat⟩ := hrel
              have HAt := Lib.hid hat
              clear hat
              by_cases hjt : j < R'.length
              · have hji : (j : Int) < (R'.length : Int) := by omega
                have hcj := row_at HRP3.out.r j hjt
                obtain ⟨r, hr⟩ : ∃ r, R'[j] = r := ⟨_, rfl⟩
                have HR' : Hid (R'[j]? = some r) := by rw [← hr]; exact List.getElem?_eq_getElem hjt
                have HTj : Hid (R'.take (j + 1) = R'.take j ++ [r]) := by rw [← hr]; exact List.take_succ_eq_append_getElem hjt
                rw [hr] at hcj
                clear hr
                by_cases hry : r = y
                · have hrb : (r == y) = true := by simp [hry]
                  have HRY := Lib.hid hry
                  clear hry
                  go_wp2_with fail
                  go_roundw
                  case rel => exact ⟨j + 1, j, rfl, by go_num, by omega, trivial, .inr ⟨j, by omega, rfl, by rw [HR'.out, HRY.out]⟩⟩
                  case measure => simp [intOf]; omega
                · have hrb : (r == y) = false := by simpa using hry
                  have HRY := Lib.hid hry
                  clear hry
                  go_wp2_with fail
                  go_roundw
                  case rel =>
                    refine ⟨j + 1, a, rfl, by go_num, by omega, trivial, ?_⟩
                    rcases HAt.out with ⟨e, hn⟩ | ⟨n, h1, h2, h3⟩
                    · refine .inl ⟨e, ?_⟩
                      rw [HTj.out]
                      intro hm
                      rcases List.mem_append.1 hm with hm | hm
                      · exact hn hm
                      · simp at hm; exact HRY.out hm.symm
                    · exact .inr ⟨n, by omega, h2, h3⟩
                  case measure => simp [intOf]; omega
              · obtain rfl : j = R'.length := by omega
                rcases HAt.out with ⟨hae, hyn⟩ | ⟨n, hn, hae, hny⟩
                · subst hae
                  rw [List.take_length] at hyn
                  have HYN := Lib.hid hyn
                  clear hyn HAt
                  have hRl := HRP3.out.below ((Below.refl _ _).alloc (Nat.le_refl _) (.cells #[.int .i64 y] 3))
                  have HRa := Lib.hid hRl
                  have HN5 : Hid (∀ j u, (ivs [y])[j]? = some u → (X3.alloc (.cells #[.int .i64 y] 3)).cell? ((⟨X3.heap.size, 0, none⟩ : Addr).add j) = some u) := cell_one_new X3 _ _
                  have hz5 : w3.heap.size ≤ (X3.alloc (.cells #[.int .i64 y] 3)).heap.size := by simp; omega
                  clear hRl
                  go_wp2_with (at_builtin; refine app_ivs rfl _ _ rfl w3.heap.size (.slice (some ⟨br', 0, none⟩) R'.length cr') R' [y] ⟨X3.heap.size, 0, none⟩ 1 rfl HRa.out.r hz5 (by simp; omega) rfl HN5.out ?_; intro v6 x6 hown6 hgrow6 hnew6; obtain ⟨b6, c6, hv6, hRP6, hF6⟩ := HRa.out.addR hown6 hgrow6 hnew6; subst hv6; have HRP6 := Lib.hid hRP6; have HF6 := Lib.hid hF6; clear hown6 hgrow6 hnew6 hRP6 hF6; refine Hid.out ?_)
                  refine Lib.hid ?_
                  have hRl := HRP6.out.below ((Below.refl _ _).alloc (Nat.le_refl _) (.cells #[.int .i64 0] 3))
                  have HRb := Lib.hid hRl
                  have HN6 : Hid (∀ j u, (ivs [0])[j]? = some u → (x6.alloc (.cells #[.int .i64 0] 3)).cell? ((⟨x6.heap.size, 0, none⟩ : Addr).add j) = some u) := cell_one_new x6 _ _
                  have hz6 : w3.heap.size ≤ (x6.alloc (.cells #[.int .i64 0] 3)).heap.size := by have := HF6.out.size; simp at this ⊢; omega
                  have hlk4 : Lk'.length ≤ 4096 := by rw [HS'.out.len]; exact hR4'
                  clear hRl hz5 HN5
                  go_wp2_with (at_builtin; refine app_ivs rfl _ _ rfl w3.heap.size (.slice (some ⟨bl', 0, none⟩) Lk'.length cl') Lk' [0] ⟨x6.heap.size, 0, none⟩ 1 rfl HRb.out.l hz6 (by simp; omega) rfl HN6.out ?_; intro v7 x7 hown7 hgrow7 hnew7; obtain ⟨b7, c7, hv7, hRP7, hF7⟩ := HRb.out.addL hown7 hgrow7 hnew7; subst hv7; have HRP7 := Lib.hid hRP7; have HF7 := Lib.hid hF7; clear hown7 hgrow7 hnew7 hRP7 hF7; refine Hid.out ?_)
                  refine Lib.hid ?_
                  have hln : R'.length < (Lk' ++ [0]).length := by rw [List.length_append, HS'.out.len]; simp
                  have hcl := row_at HRP7.out.l R'.length hln
                  have hg0 : (Lk' ++ [0])[R'.length] = 0 := by
                    have : (Lk' ++ [(0 : Int)])[R'.length]? = some 0 := by rw [← HS'.out.len]; simp
                    exact (List.getElem?_eq_some_iff.1 this).2
                  rw [hg0] at hcl
                  have hfz := row_fz HRP7.out.l R'.length
                  have hnl : (R'.length : Int) < (Lk'.length : Int) + 1 := by have := HS'.out.len; omega
                  have hnl2 : R'.length < Lk'.length + 1 := by have := HS'.out.len; omega
                  obtain ⟨hst1, hst2⟩ := HRP7.out.set R'.length 1
                  have HST1 := Lib.hid hst1
                  have HST2 := Lib.hid hst2
                  clear hg0 hst1 hst2
                  go_wp2_with fail
                  go_roundw
                  case rel =>
                    refine ⟨k + 1, b6, c6, b7, c7, R' ++ [y], (Lk' ++ [0]).set R'.length 1, by simp, by simp, by rw [HS1.out, HWR.out], by go_num, by omega, ?_, ?_, HST1.out, ?_⟩
                    · have h0 := HS'.out.app HYN.out HQ.out
                      have h1 := h0.seen (a := R'.length) (v := 0) (by simp) (by rw [← HS'.out.len]; simp)
                      rw [HTk.out]
                      have hy : (R' ++ [y])[R'.length]'(by simp) = y := by simp
                      rw [hy] at h1
                      exact h1
                    · have := HRi.out
                      rw [List.getElem?_append_left (List.getElem?_eq_some_iff.1 this).1]; exact this
                    · exact (((((HFm.out.tr (Fm.stay HB3'.out)).tr (Fm.stay ((Below.refl _ _).alloc (Nat.le_refl _) _))).tr HF6.out).tr (Fm.stay ((Below.refl _ _).alloc (Nat.le_refl _) _))).tr HF7.out).tr HST2.out
                  case measure => simp [intOf]; omega
                · subst hae
                  have hnn : ¬ ((n : Int) < 0) := by omega
                  have hln : n < Lk'.length := by rw [HS'.out.len]; exact hn
                  have hcl := row_at HRP3.out.l n hln
                  have hfz := row_fz HRP3.out.l n
                  obtain ⟨v, hv⟩ : ∃ v, Lk'[n] = v := ⟨_, rfl⟩
                  have hv2 : Lk'[n]? = some v := by rw [← hv]; exact List.getElem?_eq_getElem hln
                  have hvb := HS'.out.small HK.out (by rw [List.length_take]; omega) hv2
                  rw [hv] at hcl
                  have HV := Lib.hid hv2
                  have hnl : (n : Int) < (Lk'.length : Int) := by omega
                  have hv1 : wrap64 (v + 1) = v + 1 := by unfold wrap64; omega
                  have HNY := Lib.hid hny
                  obtain ⟨hst1, hst2⟩ := HRP3.out.set n (v + 1)
                  have HST1 := Lib.hid hst1
                  have HST2 := Lib.hid hst2
                  clear hv hv2 hvb hny HAt hst1 hst2
                  go_wp2_with fail
                  go_roundw
                  case rel =>
                    refine ⟨k + 1, br', cr', bl', cl', R', Lk'.set n (v + 1), rfl, by rw [List.length_set], by rw [HS1.out, HWR.out], by go_num, by omega, ?_, HRi.out, HST1.out, ?_⟩
                    · have h1 := HS'.out.seen (a := n) hn HV.out
                      rw [(List.getElem?_eq_some_iff.1 HNY.out).2] at h1
                      rw [HTk.out]; exact h1
                    · exact (HFm.out.tr (Fm.stay HB3'.out)).tr HST2.out
                  case measure => simp [intOf]; omega
          · obtain rfl : k = o.ents.length := by omega
            have hux : ((o.ents.take o.ents.length).map (qS S)).sum = o.used := by rw [List.take_length]; exact HGd.out.us.symm
            rw [hux]
            have hxb : wm.heap[x2.heap.size]? = some (.cells #[.int .i64 o.id, .int .i64 o.kind, .int .i64 o.quota, .int .i64 o.used, .int .i64 o.links, .int .i64 o.df, .slice sa o.cats.length ca] 44 (0, 0)) := (hFm.same _ hzX (fun hf => by have := HLR.out; rcases hf with e | e <;> omega)).trans HXX.out
            have r2 : wm.cell? ⟨x2.heap.size, 2, none⟩ = some (.int .i64 o.quota) := by simp [World.cell?, hxb]
            have r3 : wm.cell? ⟨x2.heap.size, 3, none⟩ = some (.int .i64 o.used) := by simp [World.cell?, hxb]
            have hle : ¬ o.quota < o.used := by have := HGd.out.le; omega
            have HTL : Hid (o.ents.take o.ents.length = o.ents) := List.take_length
            clear hux hxb hFm hRP'
            go_wp2_with fail
            go_roundw
            case rel =>
              have h1 := HS'.out
              rw [HTL.out] at h1
              obtain ⟨h2, h3⟩ := List.getElem?_eq_some_iff.1 HRi.out
              exact ⟨i + 1, br', cr', bl', cl', R', Lk', rfl, rfl, by go_num, SI.next h2 (by rw [h3]; exact HO.out) h1, HRP'.out, HBm.out⟩
            case measure => simp [intOf]; omega
    · have hil := HSI.out.il
      obtain rfl : i = R.length := by omega
      obtain ⟨hfl, hfk⟩ := HSI.out.fin HK.out
      have hLR : L.length = R.length := by
        obtain ⟨K', hK', e⟩ := HLk.out
        have := inv_len HK.out hK'
        omega
      have hq1 : ((R.length : Int) == (L.length : Int)) = true := by simp; omega
      have hq2 : ((R.length : Int) != (L.length : Int)) = false := by simp; omega
      have HLn := Lib.hid (len_hi (HA3.out.below hB))
      have HFk := Lib.hid hfk
      have HFl := Lib.hid hfl
      have HLR2 := Lib.hid hLR
      clear hfl hfk hLR hS hR hil hlt
      go_wp2_with (first
        | (go_at_call 18; refine HLn.out.mono ?_; rintro e x1 ⟨⟨n, rfl, hn4, hnk⟩, hw⟩; rw [hw]; clear hw x1; refine Hid.out ?_))
      refine Lib.hid ?_
      have hnL : n = L.length := by
        obtain ⟨K', hK', e⟩ := hnk
        have := inv_len HK.out hK'
        have := HFl.out
        have := HLR2.out
        omega
      have hq3 : ((n : Int) == (L.length : Int)) = true := by simp; omega
      have hq4 : ((n : Int) != (L.length : Int)) = false := by simp; omega
      clear hnk hnL HLn
      go_wp2_with fail
      obtain ⟨wq, rfl⟩ : ∃ wq, wq = wr := ⟨_, rfl⟩
      clear hq1 hq2 hq3 hq4
      go_loopw [158] (fun y wr => ∃ k : Nat, y = .int .i64 k ∧ k ≤ R.length ∧ Below wq.heap.size wq wr) (fun y _ => R.length - (intOf y).toNat)
      case atStart => exact ⟨0, rfl, Nat.zero_le _, Below.refl _ _⟩
      case round =>
        obtain ⟨k, rfl, hk, hB2⟩ := hrel
        have HBr := Lib.hid hB2
        have HBw : Hid (Below w3.heap.size w3 wr) := HB.out.trans (hB2.mono HB.out.size)
        by_cases hkt : k < R.length
        · have hki : (k : Int) < (R.length : Int) := by omega
          have hRr := HRP.out.below hB2
          have hlk : k < Lk.length := by rw [HSI.out.len]; exact hkt
          have hcr := row_at hRr.r k hkt
          obtain ⟨o, ho⟩ := HSI.out.has R[k] (List.getElem_mem hkt)
          have hfk := HFk.out k hkt o ho
          have hlv : Lk[k] = o.links := (List.getElem?_eq_some_iff.1 hfk).2
          obtain ⟨y, hy⟩ : ∃ y, R[k] = y := ⟨_, rfl⟩
          rw [hy] at hcr ho
          have g := HK.out.ok y o ho
          have HNi := Lib.hid (info_hi (HA3.out.below HBw.out) y o ho)
          rw [g.id] at HNi
          have hq1 : ¬ o.quota < 1 := by have := g.q; omega
          have hkl : (k : Int) < (Lk.length : Int) := by omega
          have HRr := Lib.hid hRr
          have HLV := Lib.hid hlv
          clear hRr hfk hlv hy ho g hB2
          go_wp2_with (first
            | (go_at_call 16; refine HNi.out.mono ?_; rintro e x1 ⟨sa, ca, rfl, _, hb1⟩; refine Hid.out ?_))
          refine Lib.hid ?_
          obtain ⟨X, hX⟩ : ∃ X, X = x1.alloc (.cells #[.int .i64 y, .int .i64 o.kind, .int .i64 o.quota, .int .i64 o.used, .int .i64 o.links, .int .i64 o.df, .slice sa o.cats.length ca] 44) := ⟨_, rfl⟩
          have hXb : Below x1.heap.size x1 X := by rw [hX]; exact (Below.refl _ _).alloc (Nat.le_refl _) _
          have hXX : X.heap[x1.heap.size]? = some (.cells #[.int .i64 y, .int .i64 o.kind, .int .i64 o.quota, .int .i64 o.used, .int .i64 o.links, .int .i64 o.df, .slice sa o.cats.length ca] 44 (0, 0)) := by rw [hX]; exact heap_new _ _
          have bX : Below wr.heap.size wr X := hb1.trans (hXb.mono hb1.size)
          have m0 : ∀ n, (X.drewN n).cell? ⟨x1.heap.size, 0, none⟩ = some (.int .i64 y) := fun n => show X.cell? _ = _ from by simp [World.cell?, hXX]
          have m2 : ∀ n, (X.drewN n).cell? ⟨x1.heap.size, 2, none⟩ = some (.int .i64 o.quota) := fun n => show X.cell? _ = _ from by simp [World.cell?, hXX]
          have m4 : ∀ n, (X.drewN n).cell? ⟨x1.heap.size, 4, none⟩ = some (.int .i64 o.links) := fun n => show X.cell? _ = _ from by simp [World.cell?, hXX]
          have hcl0 := row_at (HRr.out.below bX).l k hlk
          rw [HLV.out] at hcl0
          have hcl : ∀ n, (X.drewN n).cell? ⟨bl, k, none⟩ = some (.int .i64 o.links) := fun n => show X.cell? _ = _ from hcl0
          clear hcl0
          have HbX := Lib.hid bX
          clear hb1 hXb hXX bX HNi
          go_wp2_with (first
            | (rw [← hX]; clear hX; refine Hid.out ?_))
          refine Lib.hid ?_
          go_quiet (fail)
          go_wp2_with fail
          go_roundw
          case rel => exact ⟨k + 1, by go_num, by omega, HBr.out.trans ((bdn HbX.out _).mono HBr.out.size)⟩
          case measure => simp [intOf]; omega
        · obtain rfl : k = R.length := by omega
          go_wp2_with fail
          go_ret
          exact ⟨rfl, HB3.out.trans (HBw.out.mono HB3.out.size)⟩
end Go.Proofs.Ytlblfelfaopjiaa

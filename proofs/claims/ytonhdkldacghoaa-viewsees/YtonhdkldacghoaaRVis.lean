/- What Visible of layer 11's reference answers, for every dump that is not too long. -/
import Derived.Test.YtonhdkldacghoaaRis
import Derived.Test.YtonhdkldacghoaaPartsM
import Derived.Test.YtonhdkldacghoaaMay
import Derived.Maps.AppendAt
/- How far the reference's search is (plain facts, no walk). -/
namespace Go.Proofs.Ytonhdkldacghoaa
open Go.RowKit Go.Sort Go.Shelf

structure VI (d : List Ob) (l : Lab) (root : Int) (i : Nat) (O : List Int) : Prop where
  nd : O.Nodup
  rt : root ∈ O
  re : ∀ x ∈ O, Reach d l root x
  cl : ∀ j (h : j < O.length), j < i → ∀ x ∈ entX d O[j], lowX d l x = true → x ∈ O
theorem reach_low {d : List Ob} {l : Lab} {root x : Int} (h : Reach d l root x) : lowX d l x = true := by
  obtain ⟨o, ho, hl⟩ := h.low
  rw [lowX_of ho]; exact hl
theorem low_lk {d : List Ob} {l : Lab} {x : Int} (h : lowX d l x = true) : ∃ o, lk d x = some o ∧ lowB l o = true := by
  unfold lowX at h
  cases hl : lk d x with
  | none => rw [hl] at h; cases h
  | some o => rw [hl] at h; exact ⟨o, rfl, h⟩
theorem VI.start {d : List Ob} {l : Lab} {root : Int} (h : lowX d l root = true) : VI d l root 0 [root] := by
  obtain ⟨o, h1, h2⟩ := low_lk h
  refine ⟨by simp, by simp, fun x hx => ?_, fun j _ hj => by omega⟩
  simp at hx; subst hx; exact .root h1 h2
theorem VI.add {d : List Ob} {l : Lab} {root x : Int} {i : Nat} {O : List Int} (h : VI d l root i O) (hi : i ≤ O.length) (hx : x ∉ O) (hr : Reach d l root x) : VI d l root i (O ++ [x]) := by
  refine ⟨?_, by simp [h.rt], fun y hy => ?_, fun j hj hji y hy hl => ?_⟩
  · rw [List.nodup_append]
    exact ⟨h.nd, by simp, fun a ha b hb => by simp at hb; subst hb; intro e; subst e; exact hx ha⟩
  · rcases mem_snoc hy with hy | rfl
    · exact h.re y hy
    · exact hr
  · have hjl : j < O.length := by omega
    rw [List.getElem_append_left hjl] at hy
    exact List.mem_append.2 (.inl (h.cl j hjl hji y hy hl))
theorem VI.next {d : List Ob} {l : Lab} {root : Int} {i : Nat} {O : List Int} (h : VI d l root i O) (hi : i < O.length) (hc : ∀ x ∈ entX d O[i], lowX d l x = true → x ∈ O) : VI d l root (i + 1) O :=
  ⟨h.nd, h.rt, h.re, fun j hj hji x hx hl => by
    by_cases e : j = i
    · subst e; exact hc x hx hl
    · exact h.cl j hj (by omega) x hx hl⟩
theorem VI.len {d : List Ob} {l : Lab} {root : Int} {i : Nat} {O : List Int} (h : VI d l root i O) : O.length ≤ d.length := by
  have := nodup_len (a := O) (b := d.map Ob.id) h.nd (fun x hx => by
    obtain ⟨o, ho, _⟩ := (h.re x hx).low
    unfold lk at ho
    have h1 := List.find?_some ho
    have h2 := List.mem_of_find?_eq_some ho
    refine List.mem_map.2 ⟨o, h2, by simpa using h1⟩)
  simpa using this
theorem VI.fin {d : List Ob} {l : Lab} {root : Int} {O : List Int} (h : VI d l root O.length O) : VisOk d l root (risL O) := by
  obtain ⟨h1, h2⟩ := ris_ok h.nd
  refine ⟨h1, fun x => h2.mem_iff.trans ⟨h.re x, fun hr => ?_⟩⟩
  induction hr with
  | root _ _ => exact h.rt
  | @step y oy x o hy hl hk hx ho hlow ih =>
    obtain ⟨j, hj, rfl⟩ := List.getElem_of_mem ih
    exact h.cl j hj hj x (by rw [entX_yes hl hk]; exact hx) (by rw [lowX_of ho]; exact hlow)
theorem vis_none {d : List Ob} {l : Lab} {root : Int} (h : lowX d l root = false) : VisOk d l root [] := by
  refine ⟨List.Pairwise.nil, fun x => ⟨fun h => (by cases h), fun hr => ?_⟩⟩
  have := reach_low (reach_root hr)
  rw [h] at this; cases this
theorem vis_bound {d : List Ob} {l : Lab} {root : Int} (h : freeS l.d l.xs = false) : VisOk d l root [] := by
  refine ⟨List.Pairwise.nil, fun x => ⟨fun h => (by cases h), fun hr => ?_⟩⟩
  obtain ⟨o, _, hl⟩ := hr.low
  unfold lowB lowS telS at hl
  rw [h] at hl; simp at hl
end Go.Proofs.Ytonhdkldacghoaa
namespace Go.Proofs.Ytonhdkldacghoaa
open Go.RowKit Go.Sort Go.Shelf

theorem reach_at {d : List Ob} {l : Lab} {root x : Int} (h : Reach d l root x) : ∃ k, ∃ hk : k < d.length, firstAt d x = some k ∧ lk d x = some d[k] := by
  obtain ⟨o, ho, _⟩ := h.low
  cases hf : firstAt d x with
  | none => rw [firstAt_none.1 hf] at ho; cases ho
  | some k =>
    obtain ⟨hk, h1, _⟩ := firstAt_lk hf
    exact ⟨k, hk, rfl, h1⟩
/-- The reference's row of numbers, in a world behind W0. -/
structure OR (W0 X : World) (v : Value) (O : List Int) : Prop where
  row : X.ownsRow W0.heap.size 3 1 v O.length (icells O)
  bel : Below W0.heap.size W0 X
theorem OR.below {W0 X Y : World} {v : Value} {O : List Int} (h : OR W0 X v O) (hb : Below X.heap.size X Y) : OR W0 Y v O :=
  ⟨row_keep h.row (fun j hj => hb.block j (h.row.lt j hj).2), h.bel.trans (hb.mono h.bel.size)⟩
set_option maxRecDepth 100000 in
set_option maxHeartbeats 4000000 in
theorem RVis_any (d : List Ob) (p : Option Addr) (cap : Nat) (root : Int) (l : Lab) (w : World) (hd : d.length ≤ 100) (h : ObsAt w p d) (hl : CatsAt w l.p l.xs) (hm : l.xs.length ≤ maxLen) :
    Calls Try.prog 18 #[.slice p d.length cap, .int .i64 root, l.val] w fun e w' => ∃ (sp : Option Addr) (cp : Nat) (vs : List Int), e = .returned (.slice sp vs.length cp) ∧ VisOk d l root vs ∧ IntsAt w' sp vs ∧ (vs ≠ [] → ∀ a, sp = some a → w.heap.size ≤ a.block) ∧ Below w.heap.size w w' := by
  obtain ⟨i0, hi, hz0, hz1, hz2⟩ := info_parts info3
  obtain ⟨W0, hW0⟩ : ∃ W0, w.alloc (.cells #[.int .i64 l.d, .slice l.p l.xs.length l.cap] 25) = W0 := ⟨_, rfl⟩
  have hB0 : Below w.heap.size w W0 := by rw [← hW0]; go_grown
  have hz : W0.heap.size = w.heap.size + 1 := by rw [← hW0]; simp
  have hn0 : w.heap.size < W0.heap.size := by omega
  have HC0 : Hid (∀ X, Below W0.heap.size W0 X → X.cell? ⟨w.heap.size, 0, none⟩ = some (.int .i64 l.d) ∧ X.cell? ⟨w.heap.size, 1, none⟩ = some (.slice l.p l.xs.length l.cap) ∧ w.heap.size < X.heap.size) := Lib.hid (fun X hX => by
    refine ⟨(hX.cell (p := ⟨w.heap.size, 0, none⟩) hn0).trans (by rw [← hW0]; simp [go_sem]), (hX.cell (p := ⟨w.heap.size, 1, none⟩) hn0).trans (by rw [← hW0]; simp [go_sem]), by have := hX.size; omega⟩)
  have HC : Hid (∀ X, Below W0.heap.size W0 X → CatsAt X l.p l.xs ∧ ObsAt X p d) := Lib.hid (fun X hX => ⟨(hl.below hB0).below (hX.mono (Nat.le_refl _)), (h.below hB0).below hX⟩)
  have HBe : Hid (∀ X, Below W0.heap.size W0 X → Below w.heap.size w X) := Lib.hid (fun X hX => hB0.trans (hX.mono hB0.size))
  have hdm : d.length ≤ maxLen := by unfold maxLen; omega
  have hO0 : OR W0 (W0.alloc (.cells #[] 3)) (.slice (some ⟨W0.heap.size, 0, none⟩) 0 0) [] := ⟨World.ownsRow_lit (base := W0.heap.size) (e := 3) (size := 1) W0 #[] 0 (Nat.le_refl _) (by decide) rfl, by go_grown⟩
  obtain ⟨W1, hW1⟩ : ∃ W1, W0.alloc (.cells #[] 3) = W1 := ⟨_, rfl⟩
  rw [hW1] at hO0
  obtain ⟨c0, c1, hn1⟩ := HC0.out _ hO0.bel
  have HF := Lib.hid (refFree_any l.d l.p l.cap l.xs W1 hm (HC.out _ hO0.bel).1)
  have hz0s : W0.heap.size = W0.heap.size := rfl
  have HO0 := Lib.hid hO0
  clear h hl hB0 hz hO0 hz0s
  unfold Lab.val
  go_enter Try.func18, Try.ntmps18
  by_cases hf : freeS l.d l.xs = true
  · rw [hf] at HF
    go_wp2_with (go_at_call 14; refine HF.out.mono ?_; rintro e w2 ⟨rfl, hb2⟩; refine Hid.out ?_)
    refine Lib.hid ?_
    have hO2 := HO0.out.below hb2
    obtain ⟨e0, e1, hn2⟩ := HC0.out _ hO2.bel
    have HM := Lib.hid (may_any d p cap root l w2 (HC.out _ hO2.bel).2 hdm (HC.out _ hO2.bel).1 hf)
    unfold Lab.val at HM
    clear HF c0 c1 hn1 hb2 HO0 hW0 hW1
    cases hlr : lowX d l root with
    | false =>
      rw [hlr] at HM
      have HO2 := Lib.hid hO2
      have HV := Lib.hid (vis_none hlr)
      clear hlr hO2
      go_wp2_with (go_at_call 34; refine HM.out.mono ?_; rintro e w3 ⟨rfl, hb3⟩)
      go_ret
      exact ⟨_, _, [], rfl, HV.out, fun k hk => by simp at hk, fun h => absurd rfl h, HBe.out _ (HO2.out.below hb3).bel⟩
    | true =>
      rw [hlr] at HM
      go_wp2_with (go_at_call 34; refine HM.out.mono ?_; rintro e w3 ⟨rfl, hb3⟩; refine Hid.out ?_)
      refine Lib.hid ?_
      have hO3 := hO2.below hb3
      have HVI := Lib.hid (VI.start hlr)
      have hownL := hO3.row.alloc (.cells #[.int .i64 root] 3)
      have HOn : Hid (∀ i u, [Value.int .i64 root][i]? = some u → (w3.alloc (.cells #[.int .i64 root] 3)).cell? ((⟨w3.heap.size, 0, none⟩ : Addr).add i) = some u) := Lib.hid (cell_one_new' w3 _ 3)
      have hbs : W0.heap.size ≤ (w3.alloc (.cells #[.int .i64 root] 3)).heap.size := by have := hO3.bel.size; simp; omega
      have HB3 := Lib.hid hO3.bel
      clear HM e0 e1 hn2 hb3 hO2 hlr hO3
      go_wp2_with (at_builtin; refine wpList_append_own _ rfl _ _ 28 rfl W0.heap.size 3 i0 (.int .i64 0) 1 8 Try.underlying28 hi hz0 hz1 hz2 rfl (by decide) _ _ _ rfl hownL ⟨w3.heap.size, 0, none⟩ 1 1 [.int .i64 root] rfl rfl HOn.out (fun x hx => by simp at hx; subst hx; rfl) (by unfold maxLen; simp) (by simp) hbs ?_; intro v4 w4 hown4 hgrow4 hnil4; refine Hid.out ?_)
      refine Lib.hid ?_
      have hO4 : OR W0 w4 v4 [root] := ⟨by simpa [icells] using hown4, Below.grown (HB3.out.alloc HB3.out.size _) hgrow4 hbs (fun j hj => (hownL.lt j hj).1)⟩
      clear hown4 hgrow4 hnil4 hownL HOn HB3 hbs
      go_wp2
      go_loopw [7, 8] (fun v iv wr => ∃ (O : List Int) (i : Nat), iv = .int .i64 i ∧ i ≤ O.length ∧ VI d l root i O ∧ OR W0 wr v O) (fun _ iv _ => d.length + 1 - (intOf iv).toNat)
      case atStart => exact ⟨[root], 0, rfl, Nat.zero_le _, HVI.out, hO4⟩
      case round =>
        clear hO4 HVI
        obtain ⟨O, i, rfl, hiO, hV, hO⟩ := hrel
        have hlen := hV.len
        obtain ⟨sp, cp, rfl⟩ := row_form hO.row
        by_cases hlt : i < O.length
        · have hre := hV.re O[i] (List.getElem_mem hlt)
          obtain ⟨kx, hkx, hfa, hlk⟩ := reach_at hre
          obtain ⟨g, og, rfl, hg, cg⟩ := row_ints hO.row i hlt
          obtain ⟨b, off, rfl, hbl, hat, hok⟩ := (HC.out _ hO.bel).2 kx hkx
          have HAt := Lib.hid (OAt_any wr _ cap d O[i] (HC.out _ hO.bel).2 hdm)
          rw [atI_some hfa] at HAt
          have hii : (i : Int) < (O.length : Int) := by omega
          have hkxi : (kx : Int) < (d.length : Int) := by omega
          obtain ⟨wo, hwo⟩ : ∃ wo, wo = wr := ⟨_, rfl⟩
          rw [← hwo] at hO hg cg hbl hat hok HAt ⊢
          obtain ⟨o, hoe⟩ : ∃ o, d[kx] = o := ⟨_, rfl⟩
          rw [hoe] at hok hat hlk
          have hld := load_ob hat hok.st
          have hsz := Ob.size hok.st
          have hone := Ob.one (o := o)
          have k1 : o.cs[1]? = some (.int .i64 o.kind) := by rw [Ob.head _ _ (by decide)]; rfl
          have k7 : o.cs[7]? = some (.slice o.lp o.ls.length o.lc) := by rw [Ob.head _ _ (by decide)]; rfl
          have hlm := hok.lm
          obtain ⟨x, hx⟩ : ∃ x, O[i] = x := ⟨_, rfl⟩
          rw [hx] at cg HAt hlk hre
          have HXi : Hid (O[i]? = some x) := Lib.hid (by rw [List.getElem?_eq_getElem hlt, hx])
          obtain ⟨ocs, hocs⟩ : ∃ c, o.cs = c := ⟨_, rfl⟩
          rw [hocs] at hld hsz hone k1 k7
          have HSZ := Lib.hid hsz
          have HIN : Hid ((Try.prog.info? 42).map (·.size) = some ocs.size) := Lib.hid (by rw [hsz]; exact infoOb)
          obtain ⟨W5, hW5, hn5, hb5⟩ := ob_laid wo ocs
          have hzr := ob_zero wo
          have HW5 := Lib.hid hW5
          have c1 : W5.cell? ⟨wo.heap.size, 1, none⟩ = some (.int .i64 o.kind) := heap_cells hn5 k1
          have c7 : W5.cell? ⟨wo.heap.size, 7, none⟩ = some (.slice o.lp o.ls.length o.lc) := heap_cells hn5 k7
          have hz5 : wo.heap.size < W5.heap.size := (Array.getElem?_eq_some_iff.1 hn5).1
          have hO5 := hO.below hb5
          have HLS : Hid (∀ X, Below W0.heap.size W0 X → IntsAt X o.lp o.ls) := Lib.hid (fun X hX => by
            obtain ⟨_, _, _, _, _, hk⟩ := (HC.out _ hX).2 kx hkx
            rw [hoe] at hk; exact hk.ls)
          have HLK := Lib.hid hlk
          have HRE := Lib.hid hre
          have HVI := Lib.hid hV
          have HO5 := Lib.hid hO5
          unfold maxLen at hlm
          clear hok hat hlk hre hsz hx hocs hW5 hn5 hb5 hfa hoe hwo hV hO hO5 wr
          by_cases hkind : o.kind = 1
          · have hkind' : (o.kind != 1) = false := by simp [hkind]
            have HKD := Lib.hid hkind
            clear hkind
            go_wp2_with (first | (go_at_call 11; refine HAt.out.mono ?_; rintro e w' ⟨rfl, hw'⟩; rw [hw']; clear hw' w') | (refine wpList_load_at rfl 42 _ rfl ⟨b, off + kx * 38, none⟩ rfl (.agg ocs) hld ?_) | (refine wpList_store_row rfl 42 _ _ rfl wo.heap.size ocs rfl rfl 42 _ hzr HIN.out (by rw [HSZ.out]; rfl) hone ?_; rw [HW5.out]))
            go_loopw [7, 50] (fun v jv wr => ∃ (O' : List Int) (j : Nat), jv = .int .i64 j ∧ j ≤ o.ls.length ∧ i < O'.length ∧ O'[i]? = some x ∧ VI d l root i O' ∧ (∀ y ∈ o.ls.take j, lowX d l y = true → y ∈ O') ∧ OR W0 wr v O') (fun _ jv _ => o.ls.length - (intOf jv).toNat)
            case atStart => exact ⟨O, 0, rfl, Nat.zero_le _, hlt, HXi.out, HVI.out, by simp, HO5.out⟩
            case round =>
              clear c1 c7 hld hzr cg
              obtain ⟨O', j, rfl, hj, hi', hxi, hV, hcl, hO⟩ := hrel
              have hlen' := hV.len
              obtain ⟨sp', cp', rfl⟩ := row_form hO.row
              by_cases hltj : j < o.ls.length
              · obtain ⟨gl, ol, hlp, hgl, cgl⟩ := HLS.out _ hO.bel j hltj
                have HIn := Lib.hid (In_any wr sp' cp' O' o.ls[j] (row_ints hO.row) (by unfold maxLen; omega))
                have HM := Lib.hid (may_any d _ cap o.ls[j] l wr (HC.out _ hO.bel).2 hdm (HC.out _ hO.bel).1 hf)
                unfold Lab.val at HM
                obtain ⟨e0, e1, hnw⟩ := HC0.out _ hO.bel
                have hjj : (j : Int) < (o.ls.length : Int) := by omega
                have HTk := Lib.hid (List.take_succ_eq_append_getElem hltj)
                have HMem := Lib.hid (List.getElem_mem hltj)
                obtain ⟨y, hy⟩ : ∃ y, o.ls[j] = y := ⟨_, rfl⟩
                rw [hy] at cgl HIn HM HTk HMem
                have HNx : Hid (∀ O'' : List Int, (∀ z ∈ O', z ∈ O'') → (lowX d l y = true → y ∈ O'') → ∀ z ∈ o.ls.take (j + 1), lowX d l z = true → z ∈ O'') := Lib.hid (fun O'' hsub hy' z hz hlz => by
                  rw [HTk.out] at hz
                  rcases mem_snoc hz with hz | rfl
                  · exact hsub z (hcl z hz hlz)
                  · exact hy' hlz)
                have HV := Lib.hid hV
                have HO := Lib.hid hO
                have HXI := Lib.hid hxi
                have hownR := hO.row
                clear hy hV hO hxi hcl
                rw [hlp]
                cases hin : inB O' y with
                | true =>
                  rw [hin] at HIn
                  have HN2 := Lib.hid (HNx.out O' (fun z hz => hz) (fun _ => inB_iff.1 hin))
                  clear hin hownR
                  go_wp2_with (go_at_call 13; refine HIn.out.mono ?_; rintro e w' ⟨rfl, hw'⟩; rw [hw']; clear hw' w')
                  go_roundw
                  case rel => exact ⟨O', j + 1, by go_num, by omega, hi', HXI.out, HV.out, HN2.out, HO.out⟩
                  case measure => simp [intOf]; omega
                | false =>
                  rw [hin] at HIn
                  have HNI : Hid (y ∉ O') := Lib.hid (fun h => by rw [inB_iff.2 h] at hin; cases hin)
                  clear hin
                  cases hlo : lowX d l y with
                  | false =>
                    rw [hlo] at HM
                    have HN2 := Lib.hid (HNx.out O' (fun z hz => hz) (fun h => by rw [hlo] at h; cases h))
                    clear hlo hownR
                    go_wp2_with (first | (go_at_call 13; refine HIn.out.mono ?_; rintro e w' ⟨rfl, hw'⟩; rw [hw']; clear hw' w') | (go_at_call 34; refine HM.out.mono ?_; rintro e w6 ⟨rfl, hb6⟩))
                    go_roundw
                    case rel => exact ⟨O', j + 1, by go_num, by omega, hi', HXI.out, HV.out, HN2.out, HO.out.below hb6⟩
                    case measure => simp [intOf]; omega
                  | true =>
                    rw [hlo] at HM
                    obtain ⟨oy, hoy, hly⟩ := low_lk hlo
                    have HRy := Lib.hid (Reach.step HRE.out HLK.out HKD.out HMem.out hoy hly)
                    have HN2 := Lib.hid (HNx.out (O' ++ [y]) (fun z hz => by simp [hz]) (fun _ => by simp))
                    clear hlo hownR hoy hly
                    go_wp2_with (first | (go_at_call 13; refine HIn.out.mono ?_; rintro e w' ⟨rfl, hw'⟩; rw [hw']; clear hw' w') | (go_at_call 34; refine HM.out.mono ?_; rintro e w6 ⟨rfl, hb6⟩; refine Hid.out ?_))
                    refine Lib.hid ?_
                    have hO6 := HO.out.below hb6
                    have hownL := hO6.row.alloc (.cells #[.int .i64 y] 3)
                    have HOn : Hid (∀ i u, [Value.int .i64 y][i]? = some u → (w6.alloc (.cells #[.int .i64 y] 3)).cell? ((⟨w6.heap.size, 0, none⟩ : Addr).add i) = some u) := Lib.hid (cell_one_new' w6 _ 3)
                    have hbs : W0.heap.size ≤ (w6.alloc (.cells #[.int .i64 y] 3)).heap.size := by have := hO6.bel.size; simp; omega
                    have h63 : O'.length + 1 ≤ maxLen := by unfold maxLen; omega
                    have hby : (O'.length + 1) * 8 ≤ 140737488355328 := by omega
                    have HB6 := Lib.hid hO6.bel
                    clear hO6 hb6 HIn HM e0 e1 cgl
                    go_wp2_with (at_builtin; refine wpList_append_own _ rfl _ _ 28 rfl W0.heap.size 3 i0 (.int .i64 0) 1 8 Try.underlying28 hi hz0 hz1 hz2 rfl (by decide) (.slice sp' O'.length cp') _ _ rfl hownL ⟨w6.heap.size, 0, none⟩ 1 1 [.int .i64 y] rfl rfl HOn.out (fun x hx => by simp at hx; subst hx; rfl) h63 hby hbs ?_; intro v7 w7 hown7 hgrow7 hnil7; refine Hid.out ?_)
                    refine Lib.hid ?_
                    have HO7 : Hid (OR W0 w7 v7 (O' ++ [y])) := Lib.hid ⟨by rw [List.length_append, icells_append]; exact hown7, Below.grown (HB6.out.alloc HB6.out.size _) hgrow7 hbs (fun j hj => (hownL.lt j hj).1)⟩
                    clear hown7 hgrow7 hnil7 hownL HOn hbs
                    go_wp2
                    go_roundw
                    case rel => exact ⟨O' ++ [y], j + 1, by go_num, by omega, by simp; omega, by rw [List.getElem?_append_left hi']; exact HXI.out, HV.out.add (by omega) HNI.out HRy.out, HN2.out, HO7.out⟩
                    case measure => simp [intOf]; omega
              · have hjj : ¬ (j : Int) < (o.ls.length : Int) := by omega
                have HN2 : Hid (VI d l root (i + 1) O') := Lib.hid (hV.next hi' (by
                  obtain ⟨h1, h2⟩ := List.getElem?_eq_some_iff.1 hxi
                  rw [h2, entX_yes HLK.out HKD.out]
                  intro z hz hlz
                  exact hcl z (by rw [List.take_of_length_le (by omega)]; exact hz) hlz))
                have HO := Lib.hid hO
                clear hcl hO hxi hV hltj
                go_wp2
                go_roundw
                case rel => exact ⟨O', i + 1, by go_num, by omega, HN2.out, HO.out⟩
                case measure => simp [intOf]; omega
          · have hkind' : (o.kind != 1) = true := by simp [hkind]
            have HN2 : Hid (VI d l root (i + 1) O) := Lib.hid (HVI.out.next hlt (by
              obtain ⟨h1, h2⟩ := List.getElem?_eq_some_iff.1 HXi.out
              rw [h2, entX_no HLK.out hkind]
              intro z hz; cases hz))
            clear hkind
            go_wp2_with (first | (go_at_call 11; refine HAt.out.mono ?_; rintro e w' ⟨rfl, hw'⟩; rw [hw']; clear hw' w') | (refine wpList_load_at rfl 42 _ rfl ⟨b, off + kx * 38, none⟩ rfl (.agg ocs) hld ?_) | (refine wpList_store_row rfl 42 _ _ rfl wo.heap.size ocs rfl rfl 42 _ hzr HIN.out (by rw [HSZ.out]; rfl) hone ?_; rw [HW5.out]))
            go_roundw
            case rel => exact ⟨O, i + 1, by go_num, by omega, HN2.out, HO5.out⟩
            case measure => simp [intOf]; omega
        · obtain rfl : i = O.length := by omega
          have hkk : ¬ (O.length : Int) < (O.length : Int) := by omega
          have HR := Lib.hid (Rising_any sp cp O wr (by omega) (row_ints hO.row))
          have HOk := Lib.hid hV.fin
          have HBr := Lib.hid hO.bel
          clear hO hV
          go_wp2_with (go_at_call 35; refine HR.out.mono ?_; rintro e w5 ⟨g5, cap5, rfl, hrow5, hb5⟩)
          go_ret
          exact ⟨_, cap5, risL O, rfl, HOk.out, row_ints hrow5, fun _ a ha => by cases ha; exact Nat.le_trans (HBe.out _ HBr.out).size (hrow5.lt g5 rfl).1, HBe.out _ (HBr.out.trans (hb5.mono HBr.out.size))⟩
  · have hf' : freeS l.d l.xs = false := by simpa using hf
    rw [hf'] at HF
    have HV := Lib.hid (vis_bound (d := d) (root := root) hf')
    clear hf hf'
    go_wp2_with (go_at_call 14; refine HF.out.mono ?_; rintro e w2 ⟨rfl, hb2⟩)
    go_ret
    exact ⟨_, _, [], rfl, HV.out, fun k hk => by simp at hk, fun h => absurd rfl h, HBe.out _ (HO0.out.below hb2).bel⟩
end Go.Proofs.Ytonhdkldacghoaa

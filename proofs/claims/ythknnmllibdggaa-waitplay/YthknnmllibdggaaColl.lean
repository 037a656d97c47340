/- What slices.Collect makes of the things of a queue of numbers. -/
import Derived.Test.YthknnmllibdggaaAllI
import Derived.Test.YthknnmllibdggaaThr
namespace Go.Proofs.Ythknnmllibdggaa
open Go.RowKit Go.Sort
attribute [local go_sem] Oper.semAt_some
set_option maxRecDepth 100000 in
set_option maxHeartbeats 2000000 in
theorem AppendSeq_any (w : World) (Bq Q : Nat) (l : List It) (nu : It → Int) (hbq : Boxed w Bq 76 (pv Q)) (hq : QAI w Q l) (hn : l.length < 1000000) (hv : ∀ x ∈ l, x.v = .int .i64 (nu x)) :
    Calls Try.prog 58 #[.slice none 0 0, .func (.func 50) #[] #[.pointer (some ⟨Bq, 0, none⟩)]] w fun e w' => ∃ v, e = .returned v ∧ w'.ownsRow w.heap.size 3 1 v l.length (ivs (l.map nu)) ∧ Below w.heap.size w w' := by
  obtain ⟨i0, hi, hz0, hz1, hz2⟩ := info_parts intInfo
  refine (callsIn_wide (n := 3)).1 ?_
  have h1 : Fence.wide.fn 58 := trivial
  have h3 : Fence.wide.fn 50 := trivial
  have hro : Fence.wide.round = none := rfl
  refine callsIn_of_wp_marks Try.func58 rfl h1 ?_ hro
  simp only [Try.ntmps58, List.size_toArray, List.length_cons, List.length_nil, Nat.reduceAdd, Nat.reduceSub, Array.replicate_succ, Array.replicate_zero, List.push_toArray, List.append_toArray, List.nil_append, List.cons_append]
  gi_wp2_with fail
  obtain ⟨W3, hW3⟩ : ∃ W3, w.alloc (.cells #[.slice none 0 0] 37) = W3 := ⟨_, rfl⟩
  rw [hW3]
  have sz3 : W3.heap.size = w.heap.size + 1 := by rw [← hW3]; simp
  have hB3 : Below w.heap.size w W3 := by rw [← hW3]; exact (Below.refl _ _).alloc (Nat.le_refl _) _
  have hbx : Boxed W3 w.heap.size 37 (.slice none 0 0) := by rw [← hW3]; exact heap_new _ _
  have hbq3 : Boxed W3 Bq 76 (pv Q) := (hB3.block _ hbq.lt).trans hbq
  have hr3 : W3.ownsRow w.heap.size 3 1 (.slice none 0 0) 0 [] := World.ownsRow_nil _ _ _ _
  have hbl := hbq.lt
  have hq3 : QAI W3 Q l := hq.same (fun k hk => hB3.block k (hq.lt hk))
  have hvs : ∀ x ∈ l, ∃ c, x.v = .int .i64 c := fun x hx => ⟨_, hv x hx⟩
  have hlow : ∀ k, k = Bq ∨ qf Q l k → k < W3.heap.size := fun k hk => by
    rcases hk with rfl | hk
    · omega
    · have := hq.lt hk; omega
  have hty : ∀ k, k = Bq ∨ qf Q l k → ∃ c t f, W3.heap[k]? = some (.cells c t f) ∧ t ≠ 3 ∧ t ≠ 37 := fun k hk => by
    rcases hk with rfl | hk
    · exact ⟨_, _, _, hbq3, by decide, by decide⟩
    · obtain ⟨c, t, f, h1, h2⟩ := qf_typed hq3 hk
      rcases h2 with rfl | rfl
      · exact ⟨_, _, _, h1, by decide, by decide⟩
      · exact ⟨_, _, _, h1, by decide, by decide⟩
  have HQ := Lib.hid hq
  clear hW3 hq
  refine wpIn_rangeFunc_ownH hro (by decide) (gf := 50) (lb := #[.pointer (some ⟨Bq, 0, none⟩)]) rfl h3 (enters_of Try.func50 (by kernel_rfl) rfl)
    (allI_stops 2 (by decide) Bq Q l W3 hvs hbq3 hq3) (fun h1 h2 k hk => (h2 k hk).trans (h1 k hk)) (fun W lq o o' hl h0 _ _ k hk => by
      have := hlow k hk
      exact putObj_ne W lq o' (by omega)) (Below.refl _ _) (fun _ => rfl)
    (fun pre W => (∃ v, Boxed W w.heap.size 37 v ∧ W.ownsRow w.heap.size 3 1 v pre.length (ivs (pre.map fun x => nu x.1)) ∧ True) ∧ Below w.heap.size w W ∧ KpQ Bq Q l W3 W)
    (fun c pre W => False)
    (OwnFrom.and (fun x A B row hs hg hr => holdsRow_own w.heap.size w.heap.size 37 3 1 (fun (pre : List (Im l)) => pre.length) (fun pre => ivs (pre.map fun x => nu x.1)) (fun _ _ => True) x A B row hs hg (fun r e => (hr r e).2))
      (OwnFrom.and (ownFrom_below (Nat.le_refl _) (by omega)) (kpq_own (fun k hk => by
        obtain ⟨c, t, f, h1, _⟩ := hty k hk
        exact ⟨c, t, f, h1⟩))))
    (fun c => fun s A B row hs hg hr => hs)
    ⟨⟨_, hbx, hr3, trivial⟩, hB3, fun _ _ => rfl⟩
    (fun x a' W => a' = { tmps := #[.slice none 0 0, .func (.func 50) #[] #[.pointer (some ⟨Bq, 0, none⟩)], .pointer (some ⟨w.heap.size, 0, none⟩), undef, .slice none 0 0, .int .i64 (nu x.1), .func (.func 50) #[] #[.pointer (some ⟨Bq, 0, none⟩)], .int .i64 (nu x.1), undef, undef, undef, undef, undef], defers := [] })
    (fun x a' _ X Y row hs hg hr => hs)
    ?assign ?body ?done ?stop
  case assign =>
    rintro lp pre x W K hI hK
    simp only [encI, hv x.1 x.2]
    gi_wp2
    exact hK _ _ ((KeepsOthers.refl _).from _) (fun _ _ => rfl) hI rfl
  case body =>
    rintro lp pre x a' W hl hr ⟨⟨v, hvb, hrow, _⟩, hBW, hKW⟩ rfl hlt
    obtain ⟨sp, cap, rfl⟩ := row_form hrow
    have cL : ∀ X, Below W.heap.size W X → X.cell? ⟨w.heap.size, 0, none⟩ = some (.slice sp pre.length cap) := fun X hX => (hX.cell (p := ⟨w.heap.size, 0, none⟩) hvb.lt).trans hvb.cell
    obtain ⟨tx, htx⟩ : ∃ tx, nu x.1 = tx := ⟨_, rfl⟩
    rw [htx]
    have HV := Lib.hid hvb
    have HR := Lib.hid hrow
    have HBW := Lib.hid hBW
    have HKW := Lib.hid hKW
    have HTX := Lib.hid htx
    have HLT := Lib.hid hlt
    clear hvb hrow hBW hKW htx hlt
    have hb0 : Below W.heap.size W (W.alloc (.cells #[.int .i64 tx] 3)) := (Below.refl _ _).alloc (Nat.le_refl _) _
    have y9 := cL W (Below.refl _ _)
    have hsz := HBW.out.size
    have HN : Hid (∀ j u, ([.int .i64 tx] : List Value)[j]? = some u → (W.alloc (.cells #[.int .i64 tx] 3)).cell? ((⟨W.heap.size, 0, none⟩ : Addr).add j) = some u) := cell_one_new _ _ _
    have HO : Hid (∀ u ∈ ([.int .i64 tx] : List Value), u.oneCell' = true) := fun u hu => by simp at hu; rcases hu with rfl; rfl
    have HRX := Lib.hid (HR.out.alloc (.cells #[.int .i64 tx] 3))
    have hpl : pre.length + 1 < 1000001 := by have := HLT.out; omega
    have hbX : w.heap.size ≤ (W.alloc (.cells #[.int .i64 tx] 3)).heap.size := by simp; omega
    have HB0 := Lib.hid hb0
    clear hb0 cL
    gi_wp2_with (gi_at_builtin; refine wpListIn_append_own _ rfl _ _ 37 rfl w.heap.size 3 i0 (.int .i64 0) 1 8 (by kernel_rfl) hi hz0 hz1 hz2 rfl (by decide) _ _ _ rfl HRX.out ⟨W.heap.size, 0, none⟩ 1 1 [.int .i64 tx] rfl rfl HN.out HO.out (by unfold maxLen; omega) (by omega) hbX ?_; intro v' w4 hown4 hgrow4 hx4; refine Hid.out ?_)
    refine Lib.hid ?_
    have hB := HB0.out
    obtain ⟨hv4, hv5, hr5, hk5, hb5, hc5⟩ := app_boxed HV.out hB HRX.out hgrow4 hown4 (by decide)
    obtain ⟨g', cap', rfl⟩ := ownsRow_succ hown4
    have y0 := hv4.cell
    have y1 := hv4.frozen
    clear hown4 hgrow4 hx4 hv4 HRX HN HO
    gi_wp2_with fail
    refine ⟨hk5.from _, fun k hk => ?_, ⟨_, hv5, ?_, trivial⟩, HBW.out.trans (hb5 _ (Nat.le_refl _) (Nat.le_refl _) HBW.out.size), fun k hk => ?_⟩
    · obtain ⟨c, t, f, h1, h2, h3⟩ := hty k hk
      exact hc5 k c t f ((HKW.out k hk).trans h1) h2 (fun e => h3 (by
        have h4 : W.heap[k]? = _ := (HKW.out k hk).trans h1
        rw [e, show W.heap[w.heap.size]? = _ from HV.out] at h4
        simp at h4
        exact h4.2.1.symm))
    · rw [List.length_append, List.map_append, show ivs (pre.map (fun x => nu x.1) ++ [x].map (fun x => nu x.1)) = ivs (pre.map fun x => nu x.1) ++ [.int .i64 tx] from by unfold ivs; rw [List.map_append, ← HTX.out]; rfl]
      exact hr5
    · obtain ⟨c, t, f, h1, h2, h3⟩ := hty k hk
      rw [hc5 k c t f ((HKW.out k hk).trans h1) h2 (fun e => h3 (by
        have h4 : W.heap[k]? = _ := (HKW.out k hk).trans h1
        rw [e, show W.heap[w.heap.size]? = _ from HV.out] at h4
        simp at h4
        exact h4.2.1.symm))]
      exact HKW.out k hk
  case done =>
    rintro D zs W hD hzs ⟨⟨v, hv, hrow, _⟩, hBW, _⟩ hK
    have hzl : zs.length = l.length := by have := congrArg List.length hzs; rwa [List.length_map] at this
    have hzm : (zs.map fun x => nu x.1) = l.map nu := by have := congrArg (List.map nu) hzs; rwa [List.map_map] at this
    rw [hzl, hzm] at hrow
    obtain ⟨sp, cap, rfl⟩ := row_form hrow
    have y0 := hv.cell
    have HR := Lib.hid hrow
    have HB := Lib.hid hBW
    have HV := Lib.hid hv
    clear hrow hBW hv hzs
    gi_wp2_with fail
    refine ⟨by simp, .inl ⟨_, _, rfl, run_takeDeferred hK, ?_⟩⟩
    refine ⟨.slice sp l.length cap, ?_, _, rfl, ownsRow_putObj HR.out _ hK rfl, ?_⟩
    · simp [results, Try.results58, go_sem]
    · exact HB.out.trans (belowK_b (w := w) (Nat.le_refl _) W D _ _ (by omega) hK rfl rfl)
  case stop =>
    rintro D c ys W hD hK h hp
    exact h.elim
set_option maxRecDepth 100000 in
set_option maxHeartbeats 2000000 in
theorem AppendSeq_nil (w : World) (Bq : Nat) (hbq : Boxed w Bq 76 np) :
    Calls Try.prog 58 #[.slice none 0 0, .func (.func 50) #[] #[.pointer (some ⟨Bq, 0, none⟩)]] w fun e w' => ∃ v, e = .returned v ∧ w'.ownsRow w.heap.size 3 1 v 0 [] ∧ Below w.heap.size w w' := by
  obtain ⟨i0, hi, hz0, hz1, hz2⟩ := info_parts intInfo
  refine (callsIn_wide (n := 3)).1 ?_
  have h1 : Fence.wide.fn 58 := trivial
  have h3 : Fence.wide.fn 50 := trivial
  have hro : Fence.wide.round = none := rfl
  refine callsIn_of_wp_marks Try.func58 rfl h1 ?_ hro
  simp only [Try.ntmps58, List.size_toArray, List.length_cons, List.length_nil, Nat.reduceAdd, Nat.reduceSub, Array.replicate_succ, Array.replicate_zero, List.push_toArray, List.append_toArray, List.nil_append, List.cons_append]
  gi_wp2_with fail
  obtain ⟨W3, hW3⟩ : ∃ W3, w.alloc (.cells #[.slice none 0 0] 37) = W3 := ⟨_, rfl⟩
  rw [hW3]
  have sz3 : W3.heap.size = w.heap.size + 1 := by rw [← hW3]; simp
  have hB3 : Below w.heap.size w W3 := by rw [← hW3]; exact (Below.refl _ _).alloc (Nat.le_refl _) _
  have hbx : Boxed W3 w.heap.size 37 (.slice none 0 0) := by rw [← hW3]; exact heap_new _ _
  have hbq3 : Boxed W3 Bq 76 np := (hB3.block _ hbq.lt).trans hbq
  have hr3 : W3.ownsRow w.heap.size 3 1 (.slice none 0 0) 0 [] := World.ownsRow_nil _ _ _ _
  have hbl := hbq.lt
  clear hW3
  refine wpIn_rangeFunc_ownH hro (by decide) (gf := 50) (lb := #[.pointer (some ⟨Bq, 0, none⟩)]) rfl h3 (enters_of Try.func50 (by kernel_rfl) rfl)
    (allI_stops_nil 2 Bq W3 hbq3) (fun _ _ => trivial) (fun _ _ _ _ _ _ _ _ => trivial) (Below.refl _ _) (fun _ => rfl)
    (fun pre W => (∃ v, Boxed W w.heap.size 37 v ∧ W.ownsRow w.heap.size 3 1 v 0 [] ∧ True) ∧ Below w.heap.size w W)
    (fun c pre W => False)
    (OwnFrom.and (fun x A B row hs hg hr => holdsRow_own w.heap.size w.heap.size 37 3 1 (fun (_ : List (Im [])) => 0) (fun _ => []) (fun _ _ => True) x A B row hs hg (fun r e => (hr r e).2)) (ownFrom_below (Nat.le_refl _) (by omega)))
    (fun c => fun s A B row hs hg hr => hs)
    ⟨⟨_, hbx, hr3, trivial⟩, hB3⟩
    (fun x a' W => False)
    (fun x a' _ X Y row hs hg hr => hs)
    ?assign ?body ?done ?stop
  case assign =>
    rintro lp pre x W K hI hK
    exact absurd x.2 (by simp)
  case body =>
    rintro lp pre x a' W hl hr hI hA
    exact hA.elim
  case done =>
    rintro D zs W hD hzs ⟨⟨v, hv, hrow, _⟩, hBW⟩ hK
    obtain ⟨sp, cap, rfl⟩ := row_form hrow
    have y0 := hv.cell
    have HR := Lib.hid hrow
    have HB := Lib.hid hBW
    clear hrow hBW hv hzs
    gi_wp2_with fail
    refine ⟨by simp, .inl ⟨_, _, rfl, run_takeDeferred hK, ?_⟩⟩
    refine ⟨.slice sp 0 cap, ?_, _, rfl, ownsRow_putObj HR.out _ hK rfl, ?_⟩
    · simp [results, Try.results58, go_sem]
    · exact HB.out.trans (belowK_b (w := w) (Nat.le_refl _) W D _ _ (by omega) hK rfl rfl)
  case stop =>
    rintro D c ys W hD hK h hp
    exact h.elim
set_option maxRecDepth 100000 in
theorem Collect_any (w : World) (Bq Q : Nat) (l : List It) (nu : It → Int) (hbq : Boxed w Bq 76 (pv Q)) (hq : QAI w Q l) (hn : l.length < 1000000) (hv : ∀ x ∈ l, x.v = .int .i64 (nu x)) :
    Calls Try.prog 46 #[.func (.func 50) #[] #[.pointer (some ⟨Bq, 0, none⟩)]] w fun e w' => ∃ v, e = .returned v ∧ w'.ownsRow w.heap.size 3 1 v l.length (ivs (l.map nu)) ∧ Below w.heap.size w w' := by
  have HA := Lib.hid (AppendSeq_any w Bq Q l nu hbq hq hn hv)
  clear hbq hq hv
  go_enter Try.func46, Try.ntmps46
  go_wp2_with (go_at_call 58; refine HA.out.mono ?_; rintro e w1 ⟨v, rfl, hr, hb⟩)
  go_ret
  exact ⟨v, rfl, hr, hb⟩
set_option maxRecDepth 100000 in
theorem Collect_nil (w : World) (Bq : Nat) (hbq : Boxed w Bq 76 np) :
    Calls Try.prog 46 #[.func (.func 50) #[] #[.pointer (some ⟨Bq, 0, none⟩)]] w fun e w' => ∃ v, e = .returned v ∧ w'.ownsRow w.heap.size 3 1 v 0 [] ∧ Below w.heap.size w w' := by
  have HA := Lib.hid (AppendSeq_nil w Bq hbq)
  clear hbq
  go_enter Try.func46, Try.ntmps46
  go_wp2_with (go_at_call 58; refine HA.out.mono ?_; rintro e w1 ⟨v, rfl, hr, hb⟩)
  go_ret
  exact ⟨v, rfl, hr, hb⟩
end Go.Proofs.Ythknnmllibdggaa

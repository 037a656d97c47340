/- What See of layer 11's reference answers, for every dump that is not too long. -/
import Derived.Test.YtonhdkldacghoaaRVis
import Derived.Test.YtonhdkldacghoaaSeeL
namespace Go.Proofs.Ytonhdkldacghoaa
open Go.RowKit Go.Sort Go.Shelf

/-- The first object of a number, with no links. -/
def oU (d : List Ob) (x : Int) : Ob := ((lk d x).getD default).unl
theorem vis_len {d : List Ob} {l : Lab} {root : Int} {vs : List Int} (h : VisOk d l root vs) : vs.length ≤ d.length := by
  have := nodup_len (a := vs) (b := d.map Ob.id) (h.1.imp (fun hx => Int.ne_of_lt hx)) (fun x hx => by
    obtain ⟨o, ho, _⟩ := ((h.2 x).1 hx).low
    unfold lk at ho
    exact List.mem_map.2 ⟨o, List.mem_of_find?_eq_some ho, by simpa using List.find?_some ho⟩)
  simpa using this
theorem ObOk.unl {w : World} {o : Ob} (h : ObOk w o) : ObOk w o.unl := ⟨h.st, h.L, h.Lm, h.ls, h.lm, h.ms, h.mm, h.C, h.Cm, h.al, h.am, h.idr, h.lsr, h.nils, h.lcap⟩
set_option maxRecDepth 100000 in
set_option maxHeartbeats 2000000 in
theorem RSee_any (d : List Ob) (p : Option Addr) (cap : Nat) (root : Int) (l : Lab) (w : World) (hd : d.length ≤ 100) (h : ObsAt w p d) (hl : CatsAt w l.p l.xs) (hm : l.xs.length ≤ maxLen) :
    Calls Try.prog 20 #[.slice p d.length cap, .int .i64 root, l.val] w fun e w' => ∃ (sp : Option Addr) (cp : Nat) (vs : List Int), e = .returned (.slice sp (vs.map (oU d)).length cp) ∧ VisOk d l root vs ∧ ObsAt w' sp (vs.map (oU d)) ∧ Below w.heap.size w w' := by
  obtain ⟨i0, hi, hz0, hz1, hz2⟩ := info_parts obInfo
  obtain ⟨W0, hW0⟩ : ∃ W0, (w.alloc (.cells #[.int .i64 l.d, .slice l.p l.xs.length l.cap] 25)).alloc (.cells #[] 42) = W0 := ⟨_, rfl⟩
  have hB0 : Below w.heap.size w W0 := by rw [← hW0]; go_grown
  have hs0 : W0.heap.size = w.heap.size + 2 := by rw [← hW0]; simp
  have b0 : W0.cell? ⟨w.heap.size, 0, none⟩ = some (.int .i64 l.d) := by rw [← hW0]; simp [go_sem]
  have b1 : W0.cell? ⟨w.heap.size, 1, none⟩ = some (.slice l.p l.xs.length l.cap) := by rw [← hW0]; simp [go_sem]
  have hrow0 : W0.ownsRow (w.heap.size + 1) 42 38 (.slice (some ⟨w.heap.size + 1, 0, none⟩) 0 0) 0 [] := by
    rw [← hW0]
    have := World.ownsRow_lit (base := w.heap.size + 1) (e := 42) (size := 38) (w.alloc (.cells #[.int .i64 l.d, .slice l.p l.xs.length l.cap] 25)) #[] 0 (by simp) (by decide) rfl
    simpa using this
  have HP := Lib.hid (RVis_any d p cap root l W0 hd (h.below hB0) (hl.below hB0) hm)
  have hn0 : w.heap.size < W0.heap.size := by omega
  have hdm : d.length ≤ maxLen := by unfold maxLen; omega
  have HR0 := Lib.hid hrow0
  have HS := Lib.hid hs0
  clear hs0 hrow0
  unfold Lab.val at HP ⊢
  go_enter Try.func20, Try.ntmps20
  go_wp2_with (go_at_call 18; refine HP.out.mono ?_; rintro e w1 ⟨q, cq, vs, rfl, hvis, hints, hqo, hb1⟩; refine Hid.out ?_)
  refine Lib.hid ?_
  have hB1 : Below w.heap.size w w1 := hB0.trans (hb1.mono hB0.size)
  have hvl := vis_len hvis
  have hrow1 : w1.ownsRow (w.heap.size + 1) 42 38 (.slice (some ⟨w.heap.size + 1, 0, none⟩) 0 0) 0 [] := row_keep HR0.out (fun j hj => hb1.block j (HR0.out.lt j hj).2)
  have HV := Lib.hid hvis
  have HI := Lib.hid hints
  have hz1' : w.heap.size + 1 < w1.heap.size := by have := HS.out; have := hb1.size; omega
  clear hW0 HP b0 b1 hvis hints HR0
  go_wp2
  go_loopw [7, 17] (fun v i wr => ∃ (k : Nat), k ≤ vs.length ∧ i = .int .i64 k ∧ wr.ownsRow (w.heap.size + 1) 42 38 v k (obsC ((vs.take k).map (oU d))) ∧ (∀ j, v.ownBlock = some j → j = w.heap.size + 1 ∨ w1.heap.size ≤ j) ∧ (∀ j, j < w1.heap.size → j ≠ w.heap.size + 1 → wr.heap[j]? = w1.heap[j]?) ∧ w1.heap.size ≤ wr.heap.size ∧ Below (w.heap.size + 1) w1 wr) (fun _ i _ => vs.length - (intOf i).toNat)
  case atStart => exact ⟨0, Nat.zero_le _, rfl, hrow1, fun j hj => .inl (by cases hj; rfl), fun _ _ _ => rfl, Nat.le_refl _, Below.refl _ _⟩
  case round =>
    clear hrow1
    obtain ⟨k, hk, rfl, hrow, hob, hkp, hzk, hB⟩ := hrel
    have hBw : Below w.heap.size w wr := hB1.trans (hB.mono (by omega))
    by_cases hlt2 : k < vs.length
    · obtain ⟨kx, hkx, hfa, hlk, _⟩ := vis_at HV.out (List.getElem_mem hlt2)
      obtain ⟨g, og, rfl, hg, cg⟩ := HI.out k hlt2
      have hgo := hqo (fun e => by rw [e] at hlt2; simp at hlt2) _ rfl
      simp only at hgo
      have hgs := HS.out
      have cg' : wr.cell? ⟨g, og + k, none⟩ = some (.int .i64 vs[k]) := (World.cell?_of_block (a := ⟨g, og + k, none⟩) (hkp g hg (by omega))).trans cg
      have hgw : g < wr.heap.size := by omega
      obtain ⟨b, off, rfl, hbl, hat, hok⟩ := (h.below hBw) kx hkx
      have HAt := Lib.hid (OAt_any wr _ cap d vs[k] (h.below hBw) hdm)
      rw [atI_some hfa] at HAt
      have hkxi : (kx : Int) < (d.length : Int) := by omega
      have hki : (k : Int) < (vs.length : Int) := by omega
      have HT : Hid ((vs.take (k + 1)).map (oU d) = (vs.take k).map (oU d) ++ [d[kx].unl]) := by
        rw [List.take_succ_eq_append_getElem hlt2, List.map_append, List.map_cons, List.map_nil]
        refine Lib.hid ?_
        unfold oU; rw [hlk]; rfl
      obtain ⟨x, hx⟩ : ∃ x, vs[k] = x := ⟨_, rfl⟩
      rw [hx] at cg' HAt
      obtain ⟨o1, ho1⟩ : ∃ o, d[kx] = o := ⟨_, rfl⟩
      rw [ho1] at hat hok HT
      have hld := load_ob hat hok.st
      have hst1 := hok.st
      have hsz := Ob.size hst1
      have hone := Ob.one (o := o1)
      have HE1 := Lib.hid (cs_unl o1)
      have hszu : o1.unl.cs.size = 38 := Ob.size hst1
      have HCU : Hid (o1.unl.cs = o1.unl.cl.toArray) := Lib.hid rfl
      have HCL := Lib.hid (Ob.clen (o := o1.unl) hst1)
      have HON : Hid (∀ u ∈ o1.unl.cl, u.oneCell' = true) := Lib.hid (fun u hu => by
        have := Ob.one (o := o1.unl)
        rw [Array.all_eq_true] at this
        obtain ⟨i, hi', he⟩ := List.getElem_of_mem hu
        have h2 := this i (by simpa [Ob.cs] using hi')
        simp only [Ob.cs, List.getElem_toArray] at h2
        rw [he] at h2; exact h2)
      have k4 : o1.cs[4]? = some (.int .i64 o1.links) := by rw [Ob.head _ _ (by decide)]; rfl
      obtain ⟨cs1, hcs1⟩ : ∃ c, o1.cs = c := ⟨_, rfl⟩
      rw [hcs1] at hsz hone HE1 k4 hld
      obtain ⟨csu, hcsu⟩ : ∃ c, o1.unl.cs = c := ⟨_, rfl⟩
      rw [hcsu] at HE1 hszu HCU
      have HI1 : Hid ((Try.prog.info? 42).map (·.size) = some cs1.size) := Lib.hid (by rw [hsz]; exact infoOb)
      have HI2 : Hid ((Try.prog.info? 42).map (·.size) = some csu.size) := Lib.hid (by rw [hszu]; exact infoOb)
      have HSZ := Lib.hid hsz
      have HSU := Lib.hid hszu
      obtain ⟨W3, hW3, hn3, hb3⟩ := ob_laid wr cs1
      have hzr := ob_zero wr
      have HW3 := Lib.hid hW3
      have c4 := heap_cells hn3 k4
      have f4 := frozen_of_row W3 wr.heap.size 4 cs1 42 hn3
      have hz3 : wr.heap.size < W3.heap.size := (Array.getElem?_eq_some_iff.1 hn3).1
      have HN3 := Lib.hid hn3
      have HB3 := Lib.hid hb3
      have HR := Lib.hid hrow
      have HOB := Lib.hid hob
      have HKP := Lib.hid hkp
      have HB := Lib.hid hB
      clear hsz hszu hcs1 hcsu hW3 hn3 hb3 hst1 k4 hat hok hrow hob hkp hx ho1 hlk hfa cg hqo hgo hgs hB hBw h
      go_upto_region 7 with (first
        | (go_at_call 11; refine HAt.out.mono ?_; rintro e w' ⟨rfl, hw'⟩; rw [hw']; clear hw' w')
        | (refine wpList_load_at rfl 42 _ rfl ⟨b, off + kx * 38, none⟩ rfl (.agg cs1) hld ?_)
        | (refine wpList_store_row rfl 42 _ _ rfl wr.heap.size cs1 rfl rfl 42 _ hzr HI1.out (by rw [HSZ.out]; rfl) hone ?_; rw [HW3.out]))
      refine gen_world (P := fun W => W.heap[wr.heap.size]? = some (.cells csu 42 (0, 0)) ∧ Below wr.heap.size wr W) (Q := fun W => Code.wp _ _ _ _ W) ⟨by rw [heap_setCell HN3.out, HE1.out], HB3.out.setCell (p := ⟨wr.heap.size, 4, none⟩) (by simp) _⟩ ?_
      rintro W4 ⟨h4, hb4⟩
      have hz4 : wr.heap.size < W4.heap.size := (Array.getElem?_eq_some_iff.1 h4).1
      have hR4 : W4.ownsRow (w.heap.size + 1) 42 38 u7 k (obsC ((vs.take k).map (oU d))) := row_keep HR.out (fun j hj => hb4.block j (HR.out.lt j hj).2)
      have hownL := hR4.alloc (.cells csu 42)
      have HO : Hid (∀ i u, o1.unl.cl[i]? = some u → (W4.alloc (.cells csu 42)).cell? ((⟨W4.heap.size, 0, none⟩ : Addr).add i) = some u) := Lib.hid (fun i u hu => by
        rw [addr_plus, Nat.zero_add]
        exact heap_cells (heap_new W4 _) (by rw [HCU.out]; simpa using hu))
      have h63 : k + 1 ≤ maxLen := by unfold maxLen; omega
      have hby : (k + 1) * 408 ≤ 140737488355328 := by omega
      have hbs : w.heap.size + 1 ≤ (W4.alloc (.cells csu 42)).heap.size := by simp; omega
      have HBU := Lib.hid (built_ob HSU.out)
      have HB4 := Lib.hid hb4
      clear hR4 c4 f4 hb4 hld
      go_wp2_with (first
        | (refine wpList_load_row rfl 42 _ rfl wr.heap.size rfl 42 _ (0, 0) _ h4 Try.underlying42 rfl HI2.out ?_)
        | (refine Great.wpList_buildSliceTo rfl 22 42 1 _ rfl W4.heap.size rfl _ rfl Try.underlying22 csu (by simp only [List.map_toArray, List.map_cons, List.map_nil]; exact HBU.out) ?_)
        | (at_builtin; refine wpList_append_own_at _ rfl _ _ 22 rfl (w.heap.size + 1) 42 i0 (.agg #[.int .i64 0, .int .i64 0, .int .i64 0, .int .i64 0, .int .i64 0, .int .i64 0, .slice none 0 0, .slice none 0 0, .string ⟨#[]⟩, .slice none 0 0, .int .i64 0, .slice none 0 0, .int .i64 0, .int .i64 0, .int .u64 0, .int .u64 0, .int .u64 0, .int .u64 0, .int .u64 0, .int .u64 0, .int .u64 0, .int .u64 0, .int .u64 0, .int .u64 0, .int .u64 0, .int .u64 0, .int .u64 0, .int .u64 0, .int .u64 0, .int .u64 0, .int .u64 0, .int .u64 0, .int .i64 0, .int .i64 0, .int .i64 0, .slice none 0 0, .string ⟨#[]⟩, .string ⟨#[]⟩]) 38 408 Try.underlying22 hi hz0 hz1 hz2 rfl (by decide) u7 _ _ rfl hownL ⟨W4.heap.size, 0, none⟩ 1 1 o1.unl.cl rfl HCL.out HO.out HON.out h63 hby hbs ?_; intro v6 w6 hown6 hgrow6 hnil6 hat6; refine Hid.out ?_))
      refine Lib.hid ?_
      have hbA : Below W4.heap.size W4 (W4.alloc (.cells csu 42)) := by go_grown
      have hbB : Below wr.heap.size wr (W4.alloc (.cells csu 42)) := HB4.out.trans (hbA.mono HB4.out.size)
      have hB6 : Below (w.heap.size + 1) w1 w6 := Below.grown (HB.out.trans (hbB.mono (by omega))) hgrow6 hbs (fun j hj => (hownL.lt j hj).1)
      have HR6 : Hid (w6.ownsRow (w.heap.size + 1) 42 38 v6 (k + 1) (obsC ((vs.take (k + 1)).map (oU d)))) := Lib.hid (by rw [HT.out, obsC_append]; simpa [obsC] using hown6)
      have HOB6 : Hid (∀ j, v6.ownBlock = some j → j = w.heap.size + 1 ∨ w1.heap.size ≤ j) := Lib.hid (fun j hj => by
        rcases hat6 with e | e
        · rw [e] at hj; exact HOB.out j hj
        · rw [e] at hj; cases hj; right; simp; omega)
      have HKP6 : Hid (∀ j, j < w1.heap.size → j ≠ w.heap.size + 1 → w6.heap[j]? = w1.heap[j]?) := Lib.hid (fun j hj hne => by
        have h1 : j < wr.heap.size := by omega
        have h2 := hbB.size
        have h3 := hgrow6.block j (by omega) (fun e => by
          rcases HOB.out j e.symm with h | h
          · exact hne h
          · omega)
        rw [h3, hbB.block j h1, HKP.out j hj hne])
      have hz6 : w1.heap.size ≤ w6.heap.size := by have h2 := hbB.size; have h3 := hgrow6.size; omega
      clear hown6 hgrow6 hnil6 hownL hat6
      go_wp2
      go_roundw
      case rel => exact ⟨k + 1, by omega, by go_num, HR6.out, HOB6.out, HKP6.out, hz6, hB6⟩
      case measure => simp [intOf]; omega
    · have HR := Lib.hid hrow
      clear hrow hkp hob
      have hkk : ¬ (k : Int) < (vs.length : Int) := by omega
      go_wp2
      go_ret
      have hke : k = vs.length := by omega
      have hr := HR.out
      rw [hke, List.take_length] at hr
      obtain ⟨sp, cp, rfl⟩ := row_form hr
      have hln : (vs.map (oU d)).length = vs.length := by simp
      refine ⟨sp, cp, vs, (by first | rfl | (rw [hln]; rfl)), HV.out, ?_, hBw⟩
      refine obs_row (B := w.heap.size + 1) (c := cp) (by rw [hln]; exact hr) (fun o ho => ?_)
      obtain ⟨x, hx, rfl⟩ := List.mem_map.1 ho
      obtain ⟨kx, hkx, _, hlk, _⟩ := vis_at HV.out hx
      obtain ⟨_, _, _, _, _, hok⟩ := (h.below hBw) kx hkx
      have : oU d x = d[kx].unl := by unfold oU; rw [hlk]; rfl
      rw [this]; exact hok.unl
end Go.Proofs.Ytonhdkldacghoaa

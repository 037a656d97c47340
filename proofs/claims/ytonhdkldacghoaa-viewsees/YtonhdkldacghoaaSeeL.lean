/- What See of package view answers, for every dump that is not too long: the walk. -/
import Derived.Test.YtonhdkldacghoaaSeeM
namespace Go.Proofs.Ytonhdkldacghoaa
open Go.RowKit Go.Sort Go.Shelf

theorem gen_world {P Q : World → Prop} {W0 : World} (h : P W0) (k : ∀ W, P W → Q W) : Q W0 := k W0 h
/-- What See answers. -/
structure SeeOut (d : List Ob) (l : Lab) (root : Int) (w w' : World) (v : Value) (os : List Ob) (zs : List Nat) : Prop where
  con : os.map Ob.con = zs.map (seeZ d)
  lt : ∀ z ∈ zs, z < d.length
  lk : ∀ z ∈ zs, lk d (idAt d z) = d[z]?
  vis : VisOk d l root (zs.map (idAt d))
  len : zs.length ≤ 1000
  row : w'.ownsRow w.heap.size 42 38 v os.length (obsC os)
  new : ∀ o ∈ os, ObNew w.heap.size w' o
  ap : ∀ o ∈ os, ObAp v.ownBlock o
  bel : Below w.heap.size w w'
theorem len_con {d : List Ob} {os : List Ob} {zs : List Nat} (h : os.map Ob.con = zs.map (seeZ d)) : os.length = zs.length := by
  have := congrArg List.length h
  simpa using this
set_option maxRecDepth 100000 in
set_option maxHeartbeats 2000000 in
theorem See_any (d : List Ob) (p : Option Addr) (cap : Nat) (root : Int) (l : Lab) (w : World) (hd : Few d) (hF : ∀ o ∈ d, o.Fits) (h : ObsAt w p d) (hl : CatsAt w l.p l.xs) (hm : l.xs.length ≤ maxLen) (hr : i64 root) :
    Calls Try.prog 16 #[.slice p d.length cap, .int .i64 root, l.val] w fun e w' => ∃ (v : Value) (os : List Ob) (zs : List Nat), e = .returned v ∧ SeeOut d l root w w' v os zs := by
  obtain ⟨i0, hi, hz0, hz1, hz2⟩ := info_parts obInfo
  obtain ⟨W0, hW0⟩ : ∃ W0, w.alloc (.cells #[.int .i64 l.d, .slice l.p l.xs.length l.cap] 25) = W0 := ⟨_, rfl⟩
  have hB0 : Below w.heap.size w W0 := by rw [← hW0]; go_grown
  have hs0 : W0.heap.size = w.heap.size + 1 := by rw [← hW0]; simp
  have b0 : W0.cell? ⟨w.heap.size, 0, none⟩ = some (.int .i64 l.d) := by rw [← hW0]; simp [go_sem]
  have b1 : W0.cell? ⟨w.heap.size, 1, none⟩ = some (.slice l.p l.xs.length l.cap) := by rw [← hW0]; simp [go_sem]
  have HP := Lib.hid (found_any d p cap root l W0 hd (h.below hB0) (hl.below hB0) hm hr)
  have hn0 : w.heap.size < W0.heap.size := by omega
  have HS := Lib.hid hs0
  clear hs0
  unfold Lab.val at HP ⊢
  go_enter Try.func16, Try.ntmps16
  go_wp2_with (go_at_call 27; refine HP.out.mono ?_; rintro e w1 ⟨q, cq, zs, rfl, hints, hlt, hlk, hvis, hb1⟩; refine Hid.out ?_)
  refine Lib.hid ?_
  have hB1 : Below w.heap.size w w1 := hB0.trans (hb1.mono hB0.size)
  have hzl : zs.length ≤ 1000 := by
    have h1 : (zs.map (idAt d)).length ≤ (d.map (·.id)).length := by
      refine nodup_len (hvis.1.imp (fun hx => Int.ne_of_lt hx)) (fun x hx => ?_)
      obtain ⟨k, hk, rfl⟩ := List.mem_map.1 hx
      rw [idAt_lt (hlt k hk)]
      exact List.mem_map.2 ⟨_, List.getElem_mem _, rfl⟩
    rw [List.length_map, List.length_map] at h1
    have := hd.1; omega
  clear hW0 HP b0 b1
  have HV := Lib.hid hvis
  have HI := Lib.hid hints
  have HLK := Lib.hid hlk
  clear hvis hints hlk
  go_wp2
  go_loopw [7, 16] (fun v i wr => ∃ (k : Nat) (os : List Ob), k ≤ zs.length ∧ i = .int .i64 k ∧ SI d w.heap.size w1 wr (zs.take k) v os) (fun _ i _ => zs.length - (intOf i).toNat)
  case atStart => exact ⟨0, [], Nat.zero_le _, rfl, ⟨rfl, ⟨rfl, .inl ⟨rfl, rfl⟩⟩, fun o ho => (by cases ho), fun o ho => (by cases ho), Below.refl _ _⟩⟩
  case round =>
    obtain ⟨k, os, hk, rfl, hS⟩ := hrel
    have hB := hS.bel
    by_cases hlt2 : k < zs.length
    · obtain ⟨g, og, rfl, hg, cg⟩ := HI.out k (by simpa using hlt2)
      simp only [List.getElem_map] at cg
      have hzk := hlt zs[k] (List.getElem_mem _)
      obtain ⟨b, off, rfl, hbl, hat, hok⟩ := h zs[k] hzk
      have hBw : Below w.heap.size w wr := hB1.trans (hB.mono hB1.size)
      have cg' : wr.cell? ⟨g, og + k, none⟩ = some (.int .i64 ((zs[k] : Nat) : Int)) := (hB.cell (p := ⟨g, og + k, none⟩) hg).trans cg
      have hzi : ((zs[k] : Nat) : Int) < (d.length : Int) := by omega
      have hld := load_ob (hat.below hBw hbl) hok.st
      have HCp := Lib.hid (copied_any d[zs[k]] wr (hok.below hBw) (hF _ (List.getElem_mem _)))
      have HT : Hid ((zs.take (k + 1)).map (seeZ d) = (zs.take k).map (seeZ d) ++ [d[zs[k]].unl.con]) := by
        rw [List.take_succ_eq_append_getElem hlt2, List.map_append, List.map_cons, List.map_nil, seeZ_lt hzk]; exact Lib.hid rfl
      obtain ⟨z, hz⟩ : ∃ z, zs[k] = z := ⟨_, rfl⟩
      simp only [hz] at cg' hzi HT hld HCp
      obtain ⟨o0, ho0⟩ : ∃ o0, d[z] = o0 := ⟨_, rfl⟩
      rw [ho0] at hld HCp HT
      obtain ⟨cs0, hcs0⟩ : ∃ c, o0.cs = c := ⟨_, rfl⟩
      rw [hcs0] at hld HCp
      have hbw : b < wr.heap.size := by have := hB.size; have := hB1.size; omega
      have hgw : g < wr.heap.size := by have := hB.size; omega
      have hki : (k : Int) < (zs.length : Int) := by omega
      have hlen : os.length = k := by have := len_con hS.con; rw [List.length_take] at this; omega
      have HSI := Lib.hid hS
      have HB := Lib.hid hB
      have HBW := Lib.hid hBw
      have HLN := Lib.hid hlen
      clear hat hok cg h hz ho0 hcs0 hB hS hBw hlen
      go_wp2_with (first
        | (refine wpList_load_at rfl 42 _ rfl ⟨b, off + z * 38, none⟩ rfl (.agg cs0) hld ?_)
        | (go_at_call 33; refine HCp.out.mono ?_; rintro e w2 ⟨o1, rfl, hcon, hok1, hov1, ⟨hw1, hw2⟩, hb2⟩; refine Hid.out ?_))
      refine Lib.hid ?_
      have hst1 := hok1.st
      have hsz := Ob.size hst1
      have hone := Ob.one (o := o1)
      have HE1 := Lib.hid (cs_unl o1)
      have hszu : o1.unl.cs.size = 38 := Ob.size hst1
      have HCU : Hid (o1.unl.cs = o1.unl.cl.toArray) := Lib.hid rfl
      have HCL := Lib.hid (Ob.clen (o := o1.unl) hst1)
      have HON : Hid (∀ u ∈ o1.unl.cl, u.oneCell' = true) := Lib.hid (fun u hu => by
        have := Ob.one (o := o1.unl)
        rw [Array.all_eq_true] at this
        obtain ⟨i, hi', he⟩ := List.getElem_of_mem hu
        have h2 := this i (by simpa [Ob.cs] using hi')
        simp only [Ob.cs, List.getElem_toArray] at h2
        rw [he] at h2; exact h2)
      have k4 : o1.cs[4]? = some (.int .i64 o1.links) := by rw [Ob.head _ _ (by decide)]; rfl
      have HNew : Hid (ObNew wr.heap.size w2 o1) := Lib.hid ⟨hok1, hov1, hw1, hw2⟩
      have HCon := Lib.hid hcon
      have HB2 := Lib.hid hb2
      obtain ⟨cs1, hcs1⟩ : ∃ c, o1.cs = c := ⟨_, rfl⟩
      rw [hcs1] at hsz hone HE1 k4 ⊢
      obtain ⟨csu, hcsu⟩ : ∃ c, o1.unl.cs = c := ⟨_, rfl⟩
      rw [hcsu] at HE1 hszu HCU
      have HI1 : Hid ((Try.prog.info? 42).map (·.size) = some cs1.size) := Lib.hid (by rw [hsz]; exact infoOb)
      have HI2 : Hid ((Try.prog.info? 42).map (·.size) = some csu.size) := Lib.hid (by rw [hszu]; exact infoOb)
      have HSZ := Lib.hid hsz
      have HSU := Lib.hid hszu
      obtain ⟨W3, hW3, hn3, hb3⟩ := ob_laid w2 cs1
      have hzr := ob_zero w2
      have HW3 := Lib.hid hW3
      have c4 := heap_cells hn3 k4
      have f4 := frozen_of_row W3 w2.heap.size 4 cs1 42 hn3
      have hz3 : w2.heap.size < W3.heap.size := (Array.getElem?_eq_some_iff.1 hn3).1
      have HN3 := Lib.hid hn3
      have HB3 := Lib.hid hb3
      clear hsz hszu hcs1 hcsu hW3 hn3 hb3 hb2 hcon hok1 hov1 hw1 hw2 HCp hld hst1 k4 cg'
      go_upto_region 7 with (first
        | (refine wpList_store_row rfl 42 _ _ rfl w2.heap.size cs1 rfl rfl 42 _ hzr HI1.out (by rw [HSZ.out]; rfl) hone ?_; rw [HW3.out]))
      refine gen_world (P := fun W => W.heap[w2.heap.size]? = some (.cells csu 42 (0, 0)) ∧ Below w2.heap.size w2 W) (Q := fun W => Code.wp _ _ _ _ W) ⟨by rw [heap_setCell HN3.out, HE1.out], HB3.out.setCell (p := ⟨w2.heap.size, 4, none⟩) (by simp) _⟩ ?_
      rintro W4 ⟨h4, hb4⟩
      have hz4 : w2.heap.size < W4.heap.size := (Array.getElem?_eq_some_iff.1 h4).1
      have hBr4 : Below wr.heap.size wr W4 := HB2.out.trans (hb4.mono HB2.out.size)
      have hR4 : W4.ownsRow w1.heap.size 42 38 u7 os.length (obsC os) := row_keep HSI.out.row (fun j hj => hBr4.block j (HSI.out.row.lt j hj).2)
      rw [HLN.out] at hR4
      have hownL := hR4.alloc (.cells csu 42)
      have HO : Hid (∀ i u, o1.unl.cl[i]? = some u → (W4.alloc (.cells csu 42)).cell? ((⟨W4.heap.size, 0, none⟩ : Addr).add i) = some u) := Lib.hid (fun i u hu => by
        rw [addr_plus, Nat.zero_add]
        exact heap_cells (heap_new W4 _) (by rw [HCU.out]; simpa using hu))
      have h63 : k + 1 ≤ maxLen := by unfold maxLen; omega
      have hby : (k + 1) * 408 ≤ 140737488355328 := by omega
      have hBw4 : Below w1.heap.size w1 W4 := HB.out.trans (hBr4.mono HB.out.size)
      have hbs : w1.heap.size ≤ (W4.alloc (.cells csu 42)).heap.size := by have := hBw4.size; simp; omega
      have HBU := Lib.hid (built_ob HSU.out)
      have HBR4 := Lib.hid hBr4
      have HB4 := Lib.hid hb4
      have HBW4 := Lib.hid hBw4
      clear hR4 c4 f4 hb4 hBr4 hBw4
      go_wp2_with (first
        | (refine wpList_load_row rfl 42 _ rfl w2.heap.size rfl 42 _ (0, 0) _ h4 Try.underlying42 rfl HI2.out ?_)
        | (refine Great.wpList_buildSliceTo rfl 22 42 1 _ rfl W4.heap.size rfl _ rfl Try.underlying22 csu (by simp only [List.map_toArray, List.map_cons, List.map_nil]; exact HBU.out) ?_)
        | (at_builtin; refine wpList_append_own_at _ rfl _ _ 22 rfl w1.heap.size 42 i0 (.agg #[.int .i64 0, .int .i64 0, .int .i64 0, .int .i64 0, .int .i64 0, .int .i64 0, .slice none 0 0, .slice none 0 0, .string ⟨#[]⟩, .slice none 0 0, .int .i64 0, .slice none 0 0, .int .i64 0, .int .i64 0, .int .u64 0, .int .u64 0, .int .u64 0, .int .u64 0, .int .u64 0, .int .u64 0, .int .u64 0, .int .u64 0, .int .u64 0, .int .u64 0, .int .u64 0, .int .u64 0, .int .u64 0, .int .u64 0, .int .u64 0, .int .u64 0, .int .u64 0, .int .u64 0, .int .i64 0, .int .i64 0, .int .i64 0, .slice none 0 0, .string ⟨#[]⟩, .string ⟨#[]⟩]) 38 408 Try.underlying22 hi hz0 hz1 hz2 rfl (by decide) u7 _ _ rfl hownL ⟨W4.heap.size, 0, none⟩ 1 1 o1.unl.cl rfl HCL.out HO.out HON.out h63 hby hbs ?_; intro v6 w6 hown6 hgrow6 hnil6 hat6; refine Hid.out ?_))
      refine Lib.hid ?_
      have hbA : Below W4.heap.size W4 (W4.alloc (.cells csu 42)) := by go_grown
      have hB6 : Below w1.heap.size w1 w6 := Below.grown (HBW4.out.alloc HBW4.out.size _) hgrow6 hbs (fun j hj => (hownL.lt j hj).1)
      have HS6 : Hid (SI d w.heap.size w1 w6 (zs.take (k + 1)) v6 (os ++ [o1.unl])) := Lib.hid (by
        have hzw : w.heap.size ≤ wr.heap.size := HBW.out.size
        have hrl : ∀ j, u7.ownBlock = some j → j < wr.heap.size := fun j hj => (HSI.out.row.lt j hj).2
        have hnewA : ∀ o ∈ os ++ [o1.unl], ObNew w.heap.size (W4.alloc (.cells csu 42)) o ∧ ObAp u7.ownBlock o := fun o ho => by
          rcases List.mem_append.1 ho with ho | ho
          · exact ⟨((HSI.out.new o ho).below HBR4.out).below hbA, HSI.out.ap o ho⟩
          · simp only [List.mem_singleton] at ho
            subst ho
            have hn := HNew.out.unl
            refine ⟨(ObNew.below ⟨hn.ok, hn.over.mono hzw, hn.wL, hn.wl⟩ HB4.out).below hbA, ?_⟩
            cases hob : u7.ownBlock with
            | none => exact ObAp.none _
            | some j => exact hn.over.ap (hrl j hob)
        refine ⟨?_, ?_, fun o ho => (hnewA o ho).1.grown (hnewA o ho).2 hgrow6, fun o ho => ?_, hB6⟩
        · rw [HT.out, List.map_append, HSI.out.con]
          congr 1
          simp only [List.map_cons, List.map_nil]
          rw [con_unl HCon.out]
        · rw [List.length_append, HLN.out, obsC_append]
          simpa [obsC] using hown6
        · rcases hat6 with e | e
          · rw [e]; exact (hnewA o ho).2
          · rw [e]; exact (hnewA o ho).1.over.ap_new (Nat.le_refl _))
      clear hown6 hgrow6 hnil6 hownL hat6
      go_wp2
      go_roundw
      case rel => exact ⟨k + 1, _, by omega, by go_num, HS6.out⟩
      case measure => simp [intOf]; omega
    · have HSI := Lib.hid hS
      clear hS hB
      go_wp2
      go_ret
      have hke : k = zs.length := by omega
      have hS := HSI.out
      rw [hke, List.take_length] at hS
      exact ⟨_, os, zs, rfl, ⟨hS.con, hlt, HLK.out, HV.out, hzl, row_mono hS.row hB1.size, hS.new, hS.ap, hB1.trans (hS.bel.mono hB1.size)⟩⟩
end Go.Proofs.Ytonhdkldacghoaa

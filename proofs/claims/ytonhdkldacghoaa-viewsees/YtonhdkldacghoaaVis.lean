/- What Visible of package view answers, for every dump that is not too long. -/
import Derived.Test.YtonhdkldacghoaaFound
import Derived.Test.YtonhdkldacghoaaSameI
namespace Go.Proofs.Ytonhdkldacghoaa
open Go.RowKit Go.Sort Go.Shelf

theorem nodup_len : ∀ {a b : List Int}, a.Nodup → (∀ x ∈ a, x ∈ b) → a.length ≤ b.length
  | [], _, _, _ => Nat.zero_le _
  | x :: a, b, hn, hs => by
    have hx := hs x (List.mem_cons_self ..)
    have hn' := List.nodup_cons.1 hn
    have := nodup_len (a := a) (b := b.erase x) hn'.2 (fun y hy => (List.mem_erase_of_ne (fun (e : y = x) => hn'.1 (by rw [← e]; exact hy))).2 (hs y (List.mem_cons_of_mem _ hy)))
    rw [List.length_erase_of_mem hx] at this
    have hp := List.length_pos_of_mem hx
    simp only [List.length_cons]; omega
theorem row_mono {w : World} {b b' e size n : Nat} {v : Value} {xs : List Value} (h : w.ownsRow b e size v n xs) (hb : b' ≤ b) : w.ownsRow b' e size v n xs := by
  refine ⟨h.1, ?_⟩
  rcases h.2 with h | ⟨g, cap, cur, h1, h2, h3⟩
  · exact .inl h
  · exact .inr ⟨g, cap, cur, h1, Nat.le_trans hb h2, h3⟩
set_option maxRecDepth 100000 in
set_option maxHeartbeats 2000000 in
theorem Visible_any (d : List Ob) (p : Option Addr) (cap : Nat) (root : Int) (l : Lab) (w : World) (hd : Few d) (h : ObsAt w p d) (hl : CatsAt w l.p l.xs) (hm : l.xs.length ≤ maxLen) (hr : i64 root) :
    Calls Try.prog 10 #[.slice p d.length cap, .int .i64 root, l.val] w fun e w' => ∃ (v : Value) (vs : List Int), e = .returned v ∧ vs.length ≤ 1000 ∧ VisOk d l root vs ∧ w'.ownsRow w.heap.size 3 1 v vs.length (icells vs) ∧ Below w.heap.size w w' := by
  obtain ⟨i0, hi, hz0, hz1, hz2⟩ := info_parts info3
  obtain ⟨W0, hW0⟩ : ∃ W0, w.alloc (.cells #[.int .i64 l.d, .slice l.p l.xs.length l.cap] 25) = W0 := ⟨_, rfl⟩
  have hB0 : Below w.heap.size w W0 := by rw [← hW0]; go_grown
  have hs0 : W0.heap.size = w.heap.size + 1 := by rw [← hW0]; simp
  have b0 : W0.cell? ⟨w.heap.size, 0, none⟩ = some (.int .i64 l.d) := by rw [← hW0]; simp [go_sem]
  have b1 : W0.cell? ⟨w.heap.size, 1, none⟩ = some (.slice l.p l.xs.length l.cap) := by rw [← hW0]; simp [go_sem]
  have HP := Lib.hid (found_any d p cap root l W0 hd (h.below hB0) (hl.below hB0) hm hr)
  have hn0 : w.heap.size < W0.heap.size := by omega
  have HS := Lib.hid hs0
  clear hs0
  unfold Lab.val at HP ⊢
  go_enter Try.func10, Try.ntmps10
  go_wp2_with (go_at_call 27; refine HP.out.mono ?_; rintro e w1 ⟨q, cq, zs, rfl, hints, hlt, _, hvis, hb1⟩; refine Hid.out ?_)
  refine Lib.hid ?_
  have hB1 : Below w.heap.size w w1 := hB0.trans (hb1.mono hB0.size)
  have hzl : zs.length ≤ 1000 := by
    have h1 : (zs.map (idAt d)).length ≤ (d.map (·.id)).length := by
      refine nodup_len (hvis.1.imp (fun hx => Int.ne_of_lt hx)) (fun x hx => ?_)
      obtain ⟨k, hk, rfl⟩ := List.mem_map.1 hx
      rw [idAt_lt (hlt k hk)]
      exact List.mem_map.2 ⟨_, List.getElem_mem _, rfl⟩
    rw [List.length_map, List.length_map] at h1
    have := hd.1; omega
  clear hW0 HP b0 b1
  have HV := Lib.hid hvis
  have HI := Lib.hid hints
  clear hvis hints
  go_wp2
  go_loopw [7, 15] (fun v i wr => ∃ k : Nat, k ≤ zs.length ∧ i = .int .i64 k ∧ wr.ownsRow w1.heap.size 3 1 v k (icells ((zs.take k).map (idAt d))) ∧ Below w1.heap.size w1 wr) (fun _ i _ => zs.length - (intOf i).toNat)
  case atStart => exact ⟨0, Nat.zero_le _, rfl, ⟨rfl, .inl ⟨rfl, rfl⟩⟩, Below.refl _ _⟩
  case round =>
    obtain ⟨k, hk, rfl, hrow, hB⟩ := hrel
    by_cases hlt2 : k < zs.length
    · obtain ⟨g, og, rfl, hg, cg⟩ := HI.out k (by simpa using hlt2)
      simp only [List.getElem_map] at cg
      have hzk := hlt zs[k] (List.getElem_mem _)
      obtain ⟨b, off, rfl, hbl, hat, _⟩ := h zs[k] hzk
      have c0 : wr.cell? ⟨b, off + zs[k] * 38, none⟩ = some (.int .i64 d[zs[k]].id) := (hB.cell (p := ⟨b, off + zs[k] * 38, none⟩) (by have := hB1.size; simp; omega)).trans ((hB1.cell (p := ⟨b, off + zs[k] * 38, none⟩) hbl).trans (hat 0 _ (by rw [Ob.head _ _ (by decide)]; rfl)))
      have cg' : wr.cell? ⟨g, og + k, none⟩ = some (.int .i64 ((zs[k] : Nat) : Int)) := (hB.cell (p := ⟨g, og + k, none⟩) hg).trans cg
      have hzi : ((zs[k] : Nat) : Int) < (d.length : Int) := by omega
      have HT : Hid ((zs.take (k + 1)).map (idAt d) = (zs.take k).map (idAt d) ++ [d[zs[k]].id]) := by
        rw [List.take_succ_eq_append_getElem hlt2, List.map_append, List.map_cons, List.map_nil, idAt_lt hzk]; exact Lib.hid rfl
      obtain ⟨z, hz⟩ : ∃ z, zs[k] = z := ⟨_, rfl⟩
      simp only [hz] at c0 cg' hzi HT
      obtain ⟨iz, hiz⟩ : ∃ i, d[z].id = i := ⟨_, rfl⟩
      rw [hiz] at c0 HT
      have hbw : b < wr.heap.size := by have := hB.size; have := hB1.size; omega
      have hgw : g < wr.heap.size := by have := hB.size; omega
      have hki : (k : Int) < (zs.length : Int) := by omega
      have hownL := hrow.alloc (.cells #[.int .i64 iz] 3)
      have HO : Hid (∀ i u, [Value.int .i64 iz][i]? = some u → (wr.alloc (.cells #[.int .i64 iz] 3)).cell? ((⟨wr.heap.size, 0, none⟩ : Addr).add i) = some u) := Lib.hid (cell_one_new' wr _ 3)
      have h63 : k + 1 ≤ maxLen := by unfold maxLen; omega
      have hby : (k + 1) * 8 ≤ 140737488355328 := by omega
      have hbs : w1.heap.size ≤ (wr.alloc (.cells #[.int .i64 iz] 3)).heap.size := by have := hB.size; simp; omega
      have HB := Lib.hid hB
      clear hrow hat cg h hz hiz hB
      go_wp2_with (at_builtin; refine wpList_append_own _ rfl _ _ 28 rfl w1.heap.size 3 i0 (.int .i64 0) 1 8 Try.underlying28 hi hz0 hz1 hz2 rfl (by decide) u7 _ _ rfl hownL ⟨wr.heap.size, 0, none⟩ 1 1 [.int .i64 iz] rfl rfl HO.out (fun x hx => by simp at hx; subst hx; rfl) h63 hby hbs ?_; intro v6 w6 hown6 hgrow6 hnil6; refine Hid.out ?_)
      refine Lib.hid ?_
      have hB6 : Below w1.heap.size w1 w6 := Below.grown (HB.out.alloc HB.out.size _) hgrow6 hbs (fun j hj => (hownL.lt j hj).1)
      have HR6 : Hid (w6.ownsRow w1.heap.size 3 1 v6 (k + 1) (icells ((zs.take (k + 1)).map (idAt d)))) := Lib.hid (by rw [HT.out, icells_append]; exact hown6)
      clear hown6 hgrow6 hnil6 hownL
      go_wp2
      go_roundw
      case rel => exact ⟨k + 1, by omega, by go_num, HR6.out, hB6⟩
      case measure => simp [intOf]; omega
    · have HR := Lib.hid hrow
      have HB := Lib.hid hB
      clear hrow hB
      go_wp2
      go_ret
      have hke : k = zs.length := by omega
      refine ⟨_, zs.map (idAt d), rfl, by simpa using hzl, HV.out, ?_, hB1.trans (HB.out.mono hB1.size)⟩
      have := HR.out
      rw [hke, List.take_length] at this
      rw [List.length_map]
      exact row_mono this hB1.size
end Go.Proofs.Ytonhdkldacghoaa

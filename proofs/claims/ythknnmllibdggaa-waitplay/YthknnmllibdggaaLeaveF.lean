/- What leave leaves, put together out of its steps. -/
import Derived.Test.YthknnmllibdggaaEnterF
namespace Go.Proofs.Ythknnmllibdggaa
open Go.RowKit Go.Sort
theorem atP_mid {a b : List Wt} {x : Wt} : atP x.seg x.off (a ++ x :: b) = atP x.seg x.off a ++ x :: atP x.seg x.off b := by
  rw [show a ++ x :: b = a ++ ([x] ++ b) from rfl, atP_app, atP_app, atP_one, if_pos ⟨rfl, rfl⟩]; rfl
theorem inS_mid {a b : List Wt} {x : Wt} : inS x.seg (a ++ x :: b) = inS x.seg a ++ x :: inS x.seg b := by
  rw [show a ++ x :: b = a ++ ([x] ++ b) from rfl, inS_app, inS_app, inS_one, if_pos rfl]; rfl
theorem atP_out {a b : List Wt} {x : Wt} {s o : Int} (h : ¬ (x.seg = s ∧ x.off = o)) : atP s o (a ++ x :: b) = atP s o (a ++ b) := by
  rw [show a ++ x :: b = a ++ ([x] ++ b) from rfl, atP_app, atP_app, atP_app, atP_one, if_neg h]; rfl
theorem inS_out {a b : List Wt} {x : Wt} {s : Int} (h : ¬ x.seg = s) : inS s (a ++ x :: b) = inS s (a ++ b) := by
  rw [show a ++ x :: b = a ++ ([x] ++ b) from rfl, inS_app, inS_app, inS_app, inS_one, if_neg h]; rfl
theorem mem_drop {a b : List Wt} {x y : Wt} (h : y ∈ a ++ b) : y ∈ a ++ x :: b := by
  rcases List.mem_append.1 h with h | h
  · exact List.mem_append_left _ h
  · exact List.mem_append_right _ (List.mem_cons_of_mem _ h)
theorem find_drop {a b : List Wt} {x : Wt} {t : Int} (h : x.th ≠ t) : (a ++ x :: b).find? (fun y => y.th == t) = (a ++ b).find? (fun y => y.th == t) := by
  rw [List.find?_append, List.find?_append, List.find?_cons, show (x.th == t) = false from by simpa using h]
set_option maxRecDepth 10000 in
theorem leave_fin {w W1 W2 W3 : World} {R : Rm} {a b : List Wt} {x : Wt} {n1 n2 n3 : Nat} {fp' fs' : Lit → Option Nat} (h : RmAt w R) (hall : R.all = a ++ x :: b)
    (hm1 : MAt W1 72 R.m1 n1 fp') (hn1 : n1 ≤ R.N) (e1 : itP (atP x.seg x.off a) ++ itP (atP x.seg x.off b) = [] → fp' (kp x.seg x.off) = none) (e2 : itP (atP x.seg x.off a) ++ itP (atP x.seg x.off b) ≠ [] → fp' (kp x.seg x.off) = some (R.pq x.seg x.off)) (e3 : ∀ k, k ≠ kp x.seg x.off → fp' k = R.fp k)
    (hq1 : itP (atP x.seg x.off a) ++ itP (atP x.seg x.off b) ≠ [] → QAW W1 (R.pq x.seg x.off) (itP (atP x.seg x.off a) ++ itP (atP x.seg x.off b))) (hF1 : Fm w W1 (fun k => k = R.m1 ∨ qf (R.pq x.seg x.off) (itP (atP x.seg x.off a) ++ itP (atP x.seg x.off b)) k))
    (hm2 : MAt W2 3 R.m2 n2 fs') (hn2 : n2 ≤ R.N) (d1 : itS (inS x.seg a) ++ itS (inS x.seg b) = [] → fs' (ky x.seg) = none) (d2 : itS (inS x.seg a) ++ itS (inS x.seg b) ≠ [] → fs' (ky x.seg) = some (R.sq x.seg)) (d3 : ∀ k, k ≠ ky x.seg → fs' k = R.fs k)
    (hq2 : itS (inS x.seg a) ++ itS (inS x.seg b) ≠ [] → QAW W2 (R.sq x.seg) (itS (inS x.seg a) ++ itS (inS x.seg b))) (hF2 : Fm W1 W2 (fun k => k = R.m2 ∨ qf (R.sq x.seg) (itS (inS x.seg a) ++ itS (inS x.seg b)) k))
    (hm3 : MAt W3 3 R.m0 n3 (updF R.fw (ky x.th) none)) (hn3 : n3 = R.all.length - 1) (hF3 : Fm W2 W3 (fun k => k = R.m0)) :
    ∃ R', RmAt W3 R' ∧ R'.rb = R.rb ∧ R'.all = a ++ b ∧ R'.al = R.al ∧ R'.N = R.N ∧ R'.own = R.own ∧ Fm w W3 (fun k => R.own k ≠ none) := by
  have hx : x ∈ R.all := by rw [hall]; simp
  have hneP : atP x.seg x.off R.all ≠ [] := by rw [hall, atP_mid]; simp
  have hneS : inS x.seg R.all ≠ [] := by rw [hall, inS_mid]; simp
  have hsub : ∀ y, y ∈ a ++ b → y ∈ R.all := fun y hy => by rw [hall]; exact mem_drop hy
  have hgx := h.good x hx
  have hnd : ((a ++ x :: b).map (·.th)).Nodup := hall ▸ h.nd
  have hxth : ∀ y ∈ a ++ b, y.th ≠ x.th := by
    intro y hy e
    rw [List.map_append, List.map_cons, List.nodup_append] at hnd
    rcases List.mem_append.1 hy with h1 | h1
    · exact hnd.2.2 y.th (List.mem_map_of_mem (f := (·.th)) h1) x.th (by simp) e
    · exact (List.nodup_cons.1 hnd.2.1).1 (by show x.th ∈ _; rw [← e]; exact List.mem_map_of_mem (f := (·.th)) h1)
  have pP : itP (atP x.seg x.off a) ++ itP (atP x.seg x.off b) = itP (atP x.seg x.off (a ++ b)) := by rw [atP_app, itP_app]
  have pS : itS (inS x.seg a) ++ itS (inS x.seg b) = itS (inS x.seg (a ++ b)) := by rw [inS_app, itS_app]
  rw [pP] at e1 e2 hq1 hF1
  rw [pS] at d1 d2 hq2 hF2
  have iPn : ∀ l : List Wt, itP l = [] ↔ l = [] := fun l => by unfold itP; simp
  have iSn : ∀ l : List Wt, itS l = [] ↔ l = [] := fun l => by unfold itS; simp
  have G1 : Fm w W1 (TF R.own (fun g => g = .m 1 ∨ g = .pq x.seg x.off ∨ ∃ y ∈ atP x.seg x.off (a ++ b), g = .ip y.th)) := hF1.mono (fun k _ hk => by
    rcases hk with rfl | hk
    · exact ⟨_, h.om1, .inl rfl⟩
    · rcases qfP.1 hk with rfl | ⟨y, hy, rfl⟩
      · exact ⟨_, h.op _ _ hneP, .inr (.inl rfl)⟩
      · exact ⟨_, (h.ow y (hsub y (mem_atP.1 hy).1)).2.1, .inr (.inr ⟨y, hy, rfl⟩)⟩)
  have G2 : Fm W1 W2 (TF R.own (fun g => g = .m 2 ∨ g = .sq x.seg ∨ ∃ y ∈ inS x.seg (a ++ b), g = .is y.th)) := hF2.mono (fun k _ hk => by
    rcases hk with rfl | hk
    · exact ⟨_, h.om2, .inl rfl⟩
    · rcases qfS.1 hk with rfl | ⟨y, hy, rfl⟩
      · exact ⟨_, h.os _ hneS, .inr (.inl rfl)⟩
      · exact ⟨_, (h.ow y (hsub y (mem_inS.1 hy).1)).2.2, .inr (.inr ⟨y, hy, rfl⟩)⟩)
  have G3 : Fm W2 W3 (TF R.own (fun g => g = .m 0)) := hF3.mono (fun k _ hk => ⟨_, by rw [hk]; exact h.om0, rfl⟩)
  have G13 := G2.transT G3
  have G03 := G1.transT G13
  have xx : ∀ k g, R.own k = some g → R.own k = some g := fun _ _ e => e
  refine ⟨{ R with fw := updF R.fw (ky x.th) none, fp := fp', fs := fs', all := a ++ b }, ⟨?_, ?_, ?_, ?_, ?_, ?_, ?_, ?_, h.fa, ?_, h.lenA, ?_, ?_, ?_, ?_, ?_, ?_, h.goodA, h.orb, h.om0, h.om1, h.om2, h.om3, ?_, ?_, ?_, h.oa, h.oi, ?_⟩, rfl, rfl, rfl, rfl, rfl, ?_⟩
  · exact (h.kBlk G03 xx (by simp)).trans h.blk
  · show MAt W3 _ R.m0 (a ++ b).length _
    have : (a ++ b).length = n3 := by rw [hn3, hall]; simp
    rw [this]; exact hm3
  · exact ⟨n1, hn1, hm1.kT G13 h.om1 (by simp)⟩
  · exact ⟨n2, hn2, hm2.kT G3 h.om2 (by simp)⟩
  · obtain ⟨n, h3, h4⟩ := h.ma
    exact ⟨n, h3, h4.kT G03 h.om3 (by simp)⟩
  · intro t
    show updF R.fw (ky x.th) none (ky t) = ((a ++ b).find? _).map _
    unfold updF
    by_cases e : t = x.th
    · subst e
      rw [if_pos rfl, find_none hxth]; rfl
    · rw [if_neg (by simpa using e), h.fw t, hall, find_drop (fun e' => e e'.symm)]
  · intro s o hs ho
    show fp' (kp s o) = if atP s o (a ++ b) = [] then none else some (R.pq s o)
    by_cases e : x.seg = s ∧ x.off = o
    · obtain ⟨rfl, rfl⟩ := e
      by_cases hn : atP x.seg x.off (a ++ b) = []
      · rw [if_pos hn, e1 ((iPn _).2 hn)]
      · rw [if_neg hn, e2 (fun h' => hn ((iPn _).1 h'))]
    · rw [e3 _ (fun e' => e (by have := kp_inj hs ho hgx.2.1 hgx.2.2 e'; exact ⟨this.1.symm, this.2.symm⟩)), h.fp s o hs ho, hall, atP_out e]
  · intro s
    show fs' (ky s) = if inS s (a ++ b) = [] then none else some (R.sq s)
    by_cases e : x.seg = s
    · obtain rfl := e
      by_cases hn : inS x.seg (a ++ b) = []
      · rw [if_pos hn, d1 ((iSn _).2 hn)]
      · rw [if_neg hn, d2 (fun h' => hn ((iSn _).1 h'))]
    · rw [d3 _ (by simpa using fun e' => e e'.symm), h.fs s, hall, inS_out e]
  · show (a ++ b).length ≤ R.N
    have := h.len
    rw [hall] at this
    simp at this ⊢; omega
  · intro y hy
    exact h.kW G03 xx (hsub y hy) (by simp)
  · intro s o
    show atP s o (a ++ b) ≠ [] → QAW W3 (R.pq s o) (itP (atP s o (a ++ b)))
    intro hne
    by_cases e : x.seg = s ∧ x.off = o
    · obtain ⟨rfl, rfl⟩ := e
      have hq := hq1 (fun h' => hne ((iPn _).1 h'))
      refine hq.same (fun k hk => ?_)
      have hl := hq.lt hk
      rcases qfP.1 hk with rfl | ⟨y, hy, rfl⟩
      · exact keepT G13 (h.op _ _ hneP) hl (by simp)
      · exact keepT G13 (h.ow y (hsub y (mem_atP.1 hy).1)).2.1 hl (by simp)
    · have hne' : atP s o R.all ≠ [] := by rw [hall, atP_out e]; exact hne
      have := h.kP G03 xx hne' (by simp; intro h1 h2; exact e ⟨h1.symm, h2.symm⟩) (fun y hy => by
        simp
        intro z hz e'
        have := th_inj h (mem_atP.1 hy).1 (hsub z (mem_atP.1 hz).1) e'
        rw [this] at hy
        exact e ⟨(mem_atP.1 hz).2.1.symm.trans (mem_atP.1 hy).2.1, (mem_atP.1 hz).2.2.symm.trans (mem_atP.1 hy).2.2⟩)
      rw [hall, atP_out e] at this
      exact this
  · intro s
    show inS s (a ++ b) ≠ [] → QAW W3 (R.sq s) (itS (inS s (a ++ b)))
    intro hne
    by_cases e : x.seg = s
    · obtain rfl := e
      have hq := hq2 (fun h' => hne ((iSn _).1 h'))
      refine hq.same (fun k hk => ?_)
      have hl := hq.lt hk
      rcases qfS.1 hk with rfl | ⟨y, hy, rfl⟩
      · exact keepT G3 (h.os _ hneS) hl (by simp)
      · exact keepT G3 (h.ow y (hsub y (mem_inS.1 hy).1)).2.2 hl (by simp)
    · have hne' : inS s R.all ≠ [] := by rw [hall, inS_out e]; exact hne
      have := h.kS G03 xx hne' (by simp; intro h1; exact e h1.symm) (fun y hy => by
        simp
        intro z hz e'
        have := th_inj h (mem_inS.1 hy).1 (hsub z (mem_inS.1 hz).1) e'
        rw [this] at hy
        exact e ((mem_inS.1 hz).2.symm.trans (mem_inS.1 hy).2))
      rw [hall, inS_out e] at this
      exact this
  · intro t hne
    exact h.kA G03 xx hne (by simp) (by simp)
  · show ((a ++ b).map _).Nodup
    refine hnd.sublist ?_
    simp [List.map_append]
  · exact fun y hy => h.good y (hsub y hy)
  · exact fun y hy => h.ow y (hsub y hy)
  · intro s o
    show atP s o (a ++ b) ≠ [] → R.own (R.pq s o) = _
    intro hne
    refine h.op s o (fun e => hne ?_)
    rw [hall] at e
    rw [List.eq_nil_iff_forall_not_mem] at e ⊢
    intro y hy
    exact e y (mem_atP.2 ⟨mem_drop (mem_atP.1 hy).1, (mem_atP.1 hy).2⟩)
  · intro s
    show inS s (a ++ b) ≠ [] → R.own (R.sq s) = _
    intro hne
    refine h.os s (fun e => hne ?_)
    rw [hall] at e
    rw [List.eq_nil_iff_forall_not_mem] at e ⊢
    intro y hy
    exact e y (mem_inS.2 ⟨mem_drop (mem_inS.1 hy).1, (mem_inS.1 hy).2⟩)
  · intro k hk
    have := h.lt k hk
    have := G03.size
    omega
  · exact G03.mono (fun k _ ⟨g, h1, _⟩ => by rw [h1]; simp)
end Go.Proofs.Ythknnmllibdggaa

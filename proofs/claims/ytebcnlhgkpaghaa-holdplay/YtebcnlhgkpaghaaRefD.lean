/- What Drop of the reference does. -/
import Derived.Test.YtebcnlhgkpaghaaRefL
import Derived.Test.YtebcnlhgkpaghaaMonoD
import Derived.Test.YtebcnlhgkpaghaaRefM0
/- What is needed of lists for Drop of the reference. -/
namespace Go.Proofs.Ytebcnlhgkpaghaa
open Go.RowKit Go.Sort
theorem fold_acc {f : Abs → Int → List Int → Option (Abs × List Int)} (hf : ∀ S i a b, f S i (a ++ b) = (f S i b).map fun p => (p.1, a ++ p.2)) : ∀ (l : List Int) (S : Abs) (a b : List Int), foldS f l S (a ++ b) = (foldS f l S b).map fun p => (p.1, a ++ p.2)
  | [], S, a, b => rfl
  | x :: l, S, a, b => by
    unfold foldS
    rw [hf S x a b]
    cases f S x b with
    | none => rfl
    | some p => exact fold_acc hf l p.1 a p.2
theorem loos_acc : ∀ (n : Nat) (S : Abs) (i : Int) (a b : List Int), loosS n S i (a ++ b) = (loosS n S i b).map fun p => (p.1, a ++ p.2)
  | 0, _, _, _, _ => rfl
  | n + 1, S, i, a, b => by
    unfold loosS
    cases hS : S i with
    | none => rfl
    | some o =>
      simp only
      by_cases hl : 1 < o.links
      · rw [if_pos hl, if_pos hl]; rfl
      · rw [if_neg hl, if_neg hl, List.append_assoc]
        exact fold_acc (loos_acc n) _ _ _ _
/-- One step of the row. -/
theorem fold_step {n : Nat} {y : Int} {r : List Int} {S S' : Abs} {acc g' : List Int} (h : foldS (loosS n) (y :: r) S acc = some (S', g')) : ∃ S1 gy, loosS n S y [] = some (S1, gy) ∧ foldS (loosS n) r S1 (acc ++ gy) = some (S', g') := by
  unfold foldS at h
  have e := loos_acc n S y acc []
  rw [List.append_nil] at e
  rw [e] at h
  cases hl : loosS n S y [] with
  | none => rw [hl] at h; cases h
  | some p =>
    rw [hl] at h
    exact ⟨p.1, p.2, rfl, h⟩
/-- Only containers have entries. -/
def Gd (S : Abs) : Prop := ∀ k o, S k = some o → o.ents ≠ [] → o.kind = 1
theorem Gd.les {S S' : Abs} (h : Gd S) (hl : Les S S') : Gd S' := fun k o ho hne => by
  obtain ⟨o1, h1, h2, _, _⟩ := hl k o ho
  rw [h2] at hne ⊢
  exact h k o1 h1 hne
theorem pend_cons {L : List Th} (hnd : (L.map (·.id)).Nodup) {D : List Int} {k : Nat} (hk : k < L.length) (hx : L[k].id ∉ D) (y : Int) : (pend L (L[k].id :: D)).count y = L[k].ents.count y + (pend L D).count y := by
  rw [pend_count, pend_count]
  have key : ∀ (M : List Th) (x : Int), x ∉ D → (M.map (·.id)).Nodup → ((M.filter fun t => (x :: D).contains t.id).map fun t => t.ents.count y).sum = ((M.filter fun t => t.id == x).map fun t => t.ents.count y).sum + ((M.filter fun t => D.contains t.id).map fun t => t.ents.count y).sum := by
    intro M x hxD
    induction M with
    | nil => intro _; rfl
    | cons t M ih =>
      intro hn
      rw [List.map_cons, List.nodup_cons] at hn
      have ih' := ih hn.2
      simp only [List.filter_cons]
      by_cases e : t.id = x
      · have h1 : (x :: D).contains t.id = true := by simp [e]
        have h2 : D.contains t.id = false := by rw [e]; simpa using hxD
        rw [if_pos h1, if_pos (by simp [e]), h2]
        simp only [List.map_cons, List.sum_cons, Bool.false_eq_true, if_false]
        omega
      · have h1 : (x :: D).contains t.id = D.contains t.id := by simp [e]
        rw [h1, if_neg (show ¬ (t.id == x) = true by simpa using e)]
        cases hD : D.contains t.id
        · simp only [Bool.false_eq_true, if_false]; exact ih'
        · simp only [if_true, List.map_cons, List.sum_cons]; omega
  rw [key L L[k].id hx hnd]
  congr 1
  have one : ∀ (M : List Th) (k : Nat) (hk : k < M.length), (M.map (·.id)).Nodup → M.filter (fun t => t.id == M[k].id) = [M[k]] := by
    intro M
    induction M with
    | nil => intro k hk; cases hk
    | cons t M ih =>
      intro k hk hn
      rw [List.map_cons, List.nodup_cons] at hn
      cases k with
      | zero =>
        simp only [List.getElem_cons_zero, List.filter_cons, beq_self_eq_true, if_true]
        rw [List.filter_eq_nil_iff.2]
        intro u hu
        have : u.id ≠ t.id := fun e => hn.1 (List.mem_map.2 ⟨u, hu, e⟩)
        simpa using this
      | succ k =>
        have hk' : k < M.length := by simpa using hk
        simp only [List.getElem_cons_succ]
        have hne : ¬ (t.id == M[k].id) = true := by
          have : t.id ≠ M[k].id := fun e => hn.1 (List.mem_map.2 ⟨M[k], List.getElem_mem hk', e.symm⟩)
          simpa using this
        rw [List.filter_cons, if_neg hne]
        exact ih k hk' hn.2
  rw [one L k hk hnd]
  simp
theorem id_eq {L : List Th} (hnd : (L.map (·.id)).Nodup) {t u : Th} (ht : t ∈ L) (hu : u ∈ L) (e : t.id = u.id) : t = u := by
  obtain ⟨i, hi, rfl⟩ := List.getElem_of_mem ht
  obtain ⟨j, hj, rfl⟩ := List.getElem_of_mem hu
  have := id_inj hnd hi hj e
  subst this; rfl
theorem psum_perm {f : Th → Nat} {A B : List Th} : (A.map (·.id)).Nodup → (B.map (·.id)).Nodup → (∀ u ∈ A, ∃ t ∈ B, t.id = u.id ∧ f t = f u) → (∀ t ∈ B, ∃ u ∈ A, u.id = t.id) → (A.map f).sum = (B.map f).sum := by
  induction A generalizing B with
  | nil =>
    intro _ _ _ h2
    cases B with
    | nil => rfl
    | cons t B => obtain ⟨u, hu, _⟩ := h2 t (by simp); cases hu
  | cons a A ih =>
    intro hA hB h1 h2
    obtain ⟨t, ht, e1, e2⟩ := h1 a (by simp)
    obtain ⟨B1, B2, rfl⟩ := List.append_of_mem ht
    rw [List.map_cons, List.nodup_cons] at hA
    have hperm : (B1 ++ t :: B2).Perm (t :: (B1 ++ B2)) := List.perm_middle
    have hB' : ((t :: (B1 ++ B2)).map (·.id)).Nodup := ((hperm.map _).nodup_iff).1 hB
    rw [List.map_cons, List.nodup_cons] at hB'
    have := ih hA.2 hB'.2 (fun u hu => ?_) (fun v hv => ?_)
    · rw [((hperm.map f).sum_nat), List.map_cons, List.map_cons, List.sum_cons, List.sum_cons, this, e2]
    · obtain ⟨v, hv, e3, e4⟩ := h1 u (by simp [hu])
      refine ⟨v, ?_, e3, e4⟩
      rcases List.mem_cons.1 (hperm.mem_iff.1 hv) with e | hv'
      · subst e
        exact absurd (List.mem_map.2 ⟨u, hu, by rw [← e3, e1]⟩) hA.1
      · exact hv'
    · obtain ⟨u, hu, e3⟩ := h2 v (hperm.mem_iff.2 (by simp [hv]))
      rcases List.mem_cons.1 hu with e | hu'
      · subst e
        exact absurd (List.mem_map.2 ⟨v, hv, by rw [← e3, ← e1]⟩) hB'.1
      · exact ⟨u, hu', e3⟩
theorem pend_same {A B : List Th} {D : List Int} (hA : (A.map (·.id)).Nodup) (hB : (B.map (·.id)).Nodup) (h1 : ∀ u ∈ A, u.id ∈ D → ∃ t ∈ B, t.id = u.id ∧ t.ents = u.ents) (h2 : ∀ t ∈ B, ∃ u ∈ A, u.id = t.id) (y : Int) : (pend B D).count y = (pend A D).count y := by
  rw [pend_count, pend_count]
  refine (psum_perm (hA.sublist (List.Sublist.map _ List.filter_sublist)) (hB.sublist (List.Sublist.map _ List.filter_sublist)) (fun u hu => ?_) (fun t ht => ?_)).symm
  · obtain ⟨hu1, hu2⟩ := List.mem_filter.1 hu
    obtain ⟨t, ht, e1, e2⟩ := h1 u hu1 (by simpa using hu2)
    exact ⟨t, List.mem_filter.2 ⟨ht, by rw [e1]; exact hu2⟩, e1, by rw [e2]⟩
  · obtain ⟨ht1, ht2⟩ := List.mem_filter.1 ht
    obtain ⟨u, hu, e⟩ := h2 t ht1
    exact ⟨u, List.mem_filter.2 ⟨hu, by rw [e]; exact ht2⟩, e⟩
/-- How many entries the thing x has, as memory tells. -/
def mesL (x : Int) (L : List Th) : Nat := (L.map fun t => if t.id = x then t.ents.length else 0).sum
def mesW (w : World) (rb : Nat) (x : Int) : Nat := match w.cell? ⟨rb, 1, none⟩ with
  | some (.slice (some a) n _) => ((List.range n).map fun j => match w.cell? ⟨a.block, j * 6, none⟩, w.cell? ⟨a.block, j * 6 + 5, none⟩ with
    | some (.int _ y), some (.slice _ m _) => if y = x then m else 0
    | _, _ => 0).sum
  | _ => 0
theorem mes_eq {w : World} {rb g cap : Nat} {cs : Array Value} {root : Int} {L : List Th} {F : Nat → Prop} (h : RS w rb g cap cs root L F) (x : Int) : mesW w rb x = mesL x L := by
  unfold mesW mesL
  rw [h.hd.2]
  simp only
  have : L.map (fun t => if t.id = x then t.ents.length else 0) = (List.range L.length).map fun j => match w.cell? ⟨g, j * 6, none⟩, w.cell? ⟨g, j * 6 + 5, none⟩ with
    | some (.int _ y), some (.slice _ m _) => if y = x then m else 0
    | _, _ => 0 := by
    apply List.ext_getElem (by simp)
    intro j h1 h2
    have hj : j < L.length := by simpa using h1
    obtain ⟨c0, _, _, _, _, c5⟩ := h.six hj
    simp only [List.getElem_map, List.getElem_range, c0, c5]
  rw [this]
theorem mes_one {L : List Th} (hnd : (L.map (·.id)).Nodup) {k : Nat} (hk : k < L.length) : mesL L[k].id L = L[k].ents.length := by
  unfold mesL
  have key : ∀ (M : List Th) (k : Nat) (hk : k < M.length), (M.map (·.id)).Nodup → (M.map fun t => if t.id = M[k].id then t.ents.length else 0).sum = M[k].ents.length := by
    intro M
    induction M with
    | nil => intro k hk; cases hk
    | cons t M ih =>
      intro k hk hn
      rw [List.map_cons, List.nodup_cons] at hn
      cases k with
      | zero =>
        simp only [List.getElem_cons_zero, List.map_cons, List.sum_cons, if_true]
        have : (M.map fun u => if u.id = t.id then u.ents.length else 0).sum = 0 := by
          have h0 : M.map (fun u => if u.id = t.id then u.ents.length else 0) = M.map fun _ => 0 := List.map_congr_left (fun u hu => if_neg (fun e => hn.1 (List.mem_map.2 ⟨u, hu, e⟩)))
          rw [h0]
          clear h0 hn ih
          induction M with
          | nil => rfl
          | cons _ M ih => simpa using ih
        omega
      | succ k =>
        have hk' : k < M.length := by simpa using hk
        simp only [List.getElem_cons_succ, List.map_cons, List.sum_cons]
        have hne : t.id ≠ M[k].id := fun e => hn.1 (List.mem_map.2 ⟨M[k], List.getElem_mem hk', e.symm⟩)
        rw [if_neg hne, ih k hk' hn.2]; omega
  exact key L k hk hnd
end Go.Proofs.Ytebcnlhgkpaghaa
/- What Drop of the reference does. -/
namespace Go.Proofs.Ytebcnlhgkpaghaa
open Go.RowKit Go.Sort
theorem appI_at {X : World} {B : Nat} {v : Value} {l l' : List Int} {q : Option Addr} {c : Nat} (hown : X.ownsRow B 3 1 v l.length (ivs l)) (hs : SrcI X q l') (hl : l.length + l'.length < 1000000) (hB : B ≤ X.heap.size) (ty : TypeId) :
    ∃ v' X', (Builtin.append_ #[41, 41] ty #[v, .slice q l'.length c]).run Try.prog X = .ok v' X' ∧ X'.ownsRow B 3 1 v' (l ++ l').length (ivs (l ++ l')) ∧ X.grownBy X' v.ownBlock ∧ (v'.ownBlock = v.ownBlock ∨ v'.ownBlock = some X.heap.size) := by
  obtain ⟨i0, hi, hz0, hz1, hz2⟩ := info_parts intInfo
  have hT : Try.prog.underlying 41 = some (.slice 3) := by kernel_rfl
  rcases hs with ⟨rfl, rfl⟩ | ⟨a, rfl, hc⟩
  · rw [List.append_nil]
    exact ⟨_, X, run_append_owned_none (P := Try.prog) X B 41 ty 3 i0 1 hT hi _ _ _ hown, hown, ⟨rfl, rfl, rfl, Nat.le_refl _, fun _ _ _ => rfl⟩, .inl rfl⟩
  · obtain ⟨v', w', hr, ho', hgw, _, hat⟩ := run_append_own_at (P := Try.prog) X B 41 ty 3 i0 (.int .i64 0) 1 8 hT hi hz0 hz1 hz2 rfl (by decide) v l.length (ivs l) hown a l'.length c (ivs l') (ivs_len _) hc (ivs_one _) (by unfold maxLen; omega) (by omega) hB
    exact ⟨v', w', hr, by rw [List.length_append, ivs_app]; exact ho', hgw, hat⟩
theorem wpList_appI {X : World} {ops : Array Oper} {rest : List Oper} {o : Oper} {a : Act} {Q : Exit → Act → World → Prop} (hgd : o.guard = none) (s x : Operand)
    (ho : o.op = .call { callee := .builtin .append, args := #[s, x], argTypes := #[41, 41] }) (B : Nat) (v : Value) (l l' : List Int) (q : Option Addr) (c : Nat) (hs : a.eval s = v) (hown : X.ownsRow B 3 1 v l.length (ivs l)) (hx : a.eval x = .slice q l'.length c) (hsrc : SrcI X q l') (hl : l.length + l'.length < 1000000) (hB : B ≤ X.heap.size)
    (h : ∀ v' w', w'.ownsRow B 3 1 v' (l ++ l').length (ivs (l ++ l')) → X.grownBy w' v.ownBlock → (v'.ownBlock = v.ownBlock ∨ v'.ownBlock = some X.heap.size) → wpList Try.prog ops Q rest (a.put o.dst v') w') : wpList Try.prog ops Q (o :: rest) a X := by
  obtain ⟨v', X', hr, ho', hg, hat⟩ := appI_at (c := c) hown hsrc hl hB o.type
  refine wpList_plain hgd fun K hK' => ?_
  unfold Oper.wp
  rw [exec_app ho hs hx hr]
  exact hK' _ _ (h v' X' ho' hg hat)
theorem without_take {x : Int} {l : List Int} {k : Nat} (hk : k < l.length) : without x (l.take (k + 1)) = if l[k] = x then without x (l.take k) else without x (l.take k) ++ [l[k]] := by
  unfold without
  rw [List.take_succ_eq_append_getElem hk, List.filter_append]
  by_cases e : l[k] = x
  · rw [if_pos e]; simp [e]
  · rw [if_neg e]; simp [e]
theorem without_len (x : Int) (l : List Int) : (without x l).length ≤ l.length := List.length_filter_le _ _
/-- A thing with other entries, wherever they lie. -/
abbrev cutT (t : Th) (p : Option Addr) (c : Nat) (x : Int) : Th := { t with lp := p, lc := c, ents := without x t.ents }
/-- What a dropping leaves. -/
def Dropt (w w' : World) (rb g : Nat) (root : Int) (F : Nat → Prop) (S' : Abs) (L1 : List Th) (D : List Int) : Prop := ∃ g2 cap2 cs2 L', RS w' rb g2 cap2 cs2 root L' F ∧ RelD S' L' D ∧ (∀ t ∈ L', t.ents.Nodup) ∧ (∀ u ∈ L1, u.id ∈ D → ∃ t ∈ L', t.id = u.id ∧ t.ents = u.ents) ∧ (∀ t ∈ L', ∃ u ∈ L1, u.id = t.id) ∧ Fm w w' (fun k => k = rb ∨ k = g) (fun k => k = rb ∨ k = g2)
def DropOk (rb : Nat) (root : Int) (n : Nat) : Prop := ∀ (F : Nat → Prop) (w : World) (g cap : Nat) (cs : Array Value) (L : List Th) (S : Abs) (K D P : List Int) (i x : Int) (kx : Nat) (S' : Abs) (g' : List Int), RS w rb g cap cs root L F → (hk : kx < L.length) → L[kx].id = i → L[kx].kind = 1 → x ∈ L[kx].ents →
  (∀ p c, RelD S (L.set kx (cutT L[kx] p c x)) D) → (∀ t ∈ L, t.ents.Nodup) → Bal S K root (x :: P) → (∀ p c y, P.count y = (pend (L.set kx (cutT L[kx] p c x)) D).count y) → K.length ≤ n → K.length ≤ 4096 → Gd S → loosS n S x [] = some (S', g') →
  Calls Try.prog 21 #[.pointer (some ⟨rb, 0, none⟩), .int .i64 i, .int .i64 x] w fun e w' => ∃ p c, e = .returned (.tuple #[.slice p g'.length c, .int .i64 0]) ∧ IntsAt w' p g' ∧ Dropt w w' rb g root F S' (L.set kx (cutT L[kx] none 0 x)) D
theorem RS.weaken {w : World} {rb g cap : Nat} {cs : Array Value} {root : Int} {L : List Th} {F G : Nat → Prop} (h : RS w rb g cap cs root L F) (hg : ∀ k, G k → F k) : RS w rb g cap cs root L G := by
  refine ⟨h.tab, h.blk, h.sz, h.le, h.cel, h.cat, fun t ht => ?_, fun e => h.frb (hg _ e), fun e => h.frg (hg _ e), h.nd, h.lim, h.cpl, fun k hk => h.fl k (hg k hk)⟩
  obtain ⟨o1, o2⟩ := h.out t ht
  exact ⟨fun hn a ha hb => o1 hn a ha (by rcases hb with e | e | e; exact .inl e; exact .inr (.inl e); exact .inr (.inr (hg _ e))), fun hn a ha hb => o2 hn a ha (by rcases hb with e | e | e; exact .inl e; exact .inr (.inl e); exact .inr (.inr (hg _ e)))⟩
/-- How far the loop of Drop is. -/
structure LI (w wr : World) (rb g : Nat) (root : Int) (F : Nat → Prop) (n : Nat) (x : Int) (D P : List Int) (S' : Abs) (g' : List Int) (L1 : List Th) (r : Value) (rem acc : List Int) (Sc : Abs) (Kc : List Int) (Lc : List Th) (gc cc : Nat) (cs : Array Value) (ga ca k : Nat) : Prop where
  hk : k < Lc.length
  id : Lc[k].id = x
  en : Lc[k].ents = rem
  rv : r = .slice (some ⟨ga, 0, none⟩) acc.length ca
  row : wr.ownsRow w.heap.size 3 1 r acc.length (ivs acc)
  rs : RS wr rb gc cc cs root Lc (fun j => F j ∨ j = ga)
  rel : RelD Sc Lc (x :: D)
  fo : foldS (loosS n) rem Sc acc = some (S', g')
  bal : Bal Sc Kc root (rem ++ P)
  kn : Kc.length ≤ n
  k4 : acc.length + Kc.length ≤ 4097
  k5 : Kc.length ≤ 4096
  gd : Gd Sc
  nd : ∀ t ∈ Lc, t.ents.Nodup
  pe : ∀ y, P.count y = (pend Lc D).count y
  d1 : ∀ u ∈ L1, u.id ∈ D → ∃ t ∈ Lc, t.id = u.id ∧ t.ents = u.ents
  d2 : ∀ t ∈ Lc, ∃ u ∈ L1, u.id = t.id
  fm : Fm w wr (fun j => j = rb ∨ j = g) (fun j => j = rb ∨ j = gc)
  xd : x ∉ D
theorem LI.mes {w wr : World} {rb g : Nat} {root : Int} {F : Nat → Prop} {n : Nat} {x : Int} {D P : List Int} {S' : Abs} {g' : List Int} {L1 : List Th} {r : Value} {rem acc : List Int} {Sc : Abs} {Kc : List Int} {Lc : List Th} {gc cc : Nat} {cs : Array Value} {ga ca k : Nat} (h : LI w wr rb g root F n x D P S' g' L1 r rem acc Sc Kc Lc gc cc cs ga ca k) : mesW wr rb x = rem.length := by
  have := mes_one h.rs.nd h.hk
  rw [h.id, h.en] at this
  rw [mes_eq h.rs, this]
theorem without_head {y : Int} {r : List Int} (h : (y :: r).Nodup) : without y (y :: r) = r := by
  rw [List.nodup_cons] at h
  unfold without
  rw [List.filter_cons_of_neg (by simp)]
  exact List.filter_eq_self.2 (fun z hz => by have : z ≠ y := fun e => h.1 (e ▸ hz); simp [this])
/-- What the call within the loop asks. -/
theorem LI.ask {w wr : World} {rb g : Nat} {root : Int} {F : Nat → Prop} {n : Nat} {x : Int} {D P : List Int} {S' : Abs} {g' : List Int} {L1 : List Th} {r : Value} {y : Int} {rem acc : List Int} {Sc : Abs} {Kc : List Int} {Lc : List Th} {gc cc : Nat} {cs : Array Value} {ga ca k : Nat} (IH : DropOk rb root n) (h : LI w wr rb g root F n x D P S' g' L1 r (y :: rem) acc Sc Kc Lc gc cc cs ga ca k) :
    ∃ S1 gy, loosS n Sc y [] = some (S1, gy) ∧ foldS (loosS n) rem S1 (acc ++ gy) = some (S', g') ∧ (∃ K1, Bal S1 K1 root (rem ++ P) ∧ Kc.Perm (K1 ++ gy)) ∧ Gd S1 ∧
    Calls Try.prog 21 #[.pointer (some ⟨rb, 0, none⟩), .int .i64 x, .int .i64 y] wr fun e w' => ∃ p c, e = .returned (.tuple #[.slice p gy.length c, .int .i64 0]) ∧ IntsAt w' p gy ∧ Dropt wr w' rb gc root (fun j => F j ∨ j = ga) S1 (Lc.set k (cutT (Lc[k]'h.hk) none 0 y)) (x :: D) := by
  obtain ⟨S1, gy, h1, h2⟩ := fold_step h.fo
  have hk := h.hk
  obtain ⟨S2, g2, e1, ⟨K1, g3, e2, hb, hp⟩, hles⟩ := loos_total root n Sc Kc y [] (rem ++ P) h.bal h.kn
  rw [h1] at e1
  cases e1
  rw [List.nil_append] at e2
  subst e2
  refine ⟨S1, gy, h1, h2, ⟨K1, hb, hp⟩, h.gd.les hles, ?_⟩
  have hye : y ∈ Lc[k].ents := by rw [h.en]; simp
  have hndk := h.nd _ (List.getElem_mem hk)
  have hcutE : ∀ p c, (cutT Lc[k] p c y).ents = rem := fun p c => by
    show without y Lc[k].ents = rem
    rw [h.en] at hndk ⊢; exact without_head hndk
  have hdead := h.rel.dead _ (List.getElem_mem hk) (by rw [h.id]; simp)
  have hids : ∀ p c, ((Lc.set k (cutT Lc[k] p c y)).map (·.id)).Nodup := fun p c => by rw [ids_set (t := cutT Lc[k] p c y) hk rfl]; exact h.rs.nd
  refine IH _ wr gc cc cs Lc Sc Kc (x :: D) (rem ++ P) x y k S1 gy h.rs hk h.id (hdead.2 (by rw [h.en]; simp)) hye (fun p c => ?_) h.nd h.bal (fun p c z => ?_) h.kn h.k5 h.gd h1
  · exact h.rel.set h.rs.nd hk rfl (fun _ _ => rfl) ⟨fun e => absurd (by show Lc[k].id ∈ _; rw [h.id]; simp) e, fun _ => ⟨hdead.1, fun _ => hdead.2 (by rw [h.en]; simp)⟩⟩
  · have hk' : k < (Lc.set k (cutT Lc[k] p c y)).length := by simpa using hk
    have hgk : (Lc.set k (cutT Lc[k] p c y))[k] = cutT Lc[k] p c y := by simp
    have hpc := pend_cons (hids p c) hk' (D := D) (by rw [hgk]; show Lc[k].id ∉ D; rw [h.id]; exact h.xd) z
    rw [hgk, hcutE, show (cutT Lc[k] p c y).id = x from h.id] at hpc
    rw [hpc, List.count_append, h.pe z]
    congr 1
    refine (pend_same h.rs.nd (hids p c) (fun u hu hD => ?_) (fun t ht => ?_) z).symm
    · obtain ⟨j, hj, rfl⟩ := List.getElem_of_mem hu
      have hjk : j ≠ k := fun e => by subst e; rw [h.id] at hD; exact h.xd hD
      exact ⟨Lc[j], List.mem_iff_getElem.2 ⟨j, by simpa using hj, by rw [List.getElem_set_ne (fun e => hjk e.symm)]⟩, rfl, rfl⟩
    · rcases mem_set' ht with rfl | ⟨j, hj, _, rfl⟩
      · exact ⟨Lc[k], List.getElem_mem hk, rfl⟩
      · exact ⟨Lc[j], List.getElem_mem hj, rfl⟩
section
variable {w wr w1 w2 : World} {rb g : Nat} {root : Int} {F : Nat → Prop} {n : Nat} {x : Int} {D P : List Int} {S' S1 : Abs} {g' : List Int} {L1 : List Th} {r v2 : Value} {y : Int} {rem acc gy : List Int} {Sc : Abs} {Kc K1 : List Int} {Lc : List Th} {gc cc : Nat} {cs : Array Value} {ga ca k : Nat}
theorem LI.row1 (h : LI w wr rb g root F n x D P S' g' L1 r (y :: rem) acc Sc Kc Lc gc cc cs ga ca k) {S1 : Abs} {M : List Th} {D' : List Int} (hd : Dropt wr w1 rb gc root (fun j => F j ∨ j = ga) S1 M D') : w1.ownsRow w.heap.size 3 1 r acc.length (ivs acc) := by
  obtain ⟨g2, cap2, cs2, L', _, _, _, _, _, hf⟩ := hd
  refine row_same h.row (fun j hj => ?_)
  rw [h.rv] at hj
  simp [Value.ownBlock] at hj
  subst hj
  have hlt := (h.row.lt ga (by rw [h.rv]; rfl)).2
  refine hf.same ga hlt (fun e => ?_)
  rcases e with e | e
  · exact h.rs.frb (.inr e.symm)
  · exact h.rs.frg (.inr e.symm)
theorem LI.next (h : LI w wr rb g root F n x D P S' g' L1 r (y :: rem) acc Sc Kc Lc gc cc cs ga ca k) (hfo : foldS (loosS n) rem S1 (acc ++ gy) = some (S', g')) (hb : Bal S1 K1 root (rem ++ P)) (hp : Kc.Perm (K1 ++ gy)) (hgd : Gd S1)
    (hd : Dropt wr w1 rb gc root (fun j => F j ∨ j = ga) S1 (Lc.set k (cutT (Lc[k]'h.hk) none 0 y)) (x :: D)) (hrow : w2.ownsRow w.heap.size 3 1 v2 (acc ++ gy).length (ivs (acc ++ gy))) (hg : w1.grownBy w2 r.ownBlock) (hat : v2.ownBlock = r.ownBlock ∨ v2.ownBlock = some w1.heap.size) :
    ∃ Lc' gc' cc' cs' ga' ca' k', LI w w2 rb g root F n x D P S' g' L1 v2 rem (acc ++ gy) S1 K1 Lc' gc' cc' cs' ga' ca' k' := by
  have hk := h.hk
  obtain ⟨g2, cap2, cs2, L', hrs, hrel, hnd, hd1, hd2, hf⟩ := hd
  have hndk := h.nd _ (List.getElem_mem hk)
  have hcutE : (cutT Lc[k] none 0 y).ents = rem := by
    show without y Lc[k].ents = rem
    rw [h.en] at hndk ⊢; exact without_head hndk
  obtain ⟨t, ht, e1, e2⟩ := hd1 (cutT Lc[k] none 0 y) (List.mem_iff_getElem.2 ⟨k, by simpa using hk, by simp⟩) (by show Lc[k].id ∈ _; rw [h.id]; simp)
  obtain ⟨k', hk', rfl⟩ := List.getElem_of_mem ht
  have hrb : r.ownBlock = some ga := by rw [h.rv]; rfl
  obtain ⟨ga', ca', hv2⟩ : ∃ ga' ca', v2 = .slice (some ⟨ga', 0, none⟩) (acc ++ gy).length ca' := by
    rcases hrow.2 with ⟨e, _⟩ | ⟨g3, c3, cur, e, _⟩
    · rw [e] at hat
      rcases hat with e | e
      · rw [hrb] at e; simp [Value.ownBlock] at e
      · simp [Value.ownBlock] at e
    · exact ⟨g3, c3, e⟩
  have hga' : ga' = ga ∨ w1.heap.size ≤ ga' := by
    rw [hv2, hrb] at hat
    simp [Value.ownBlock] at hat
    rcases hat with e | e
    · exact .inl e
    · exact .inr (by omega)
  have hgaw : w.heap.size ≤ ga := (h.row.lt ga hrb).1
  have hsame : ∀ j, j < w1.heap.size → j ≠ ga → w2.heap[j]? = w1.heap[j]? := fun j hj hn => hg.block j hj (fun e => by rw [hrb] at e; simp at e; exact hn e)
  have hlt2 := (hrow.lt ga' (by rw [hv2]; rfl)).2
  have hz := hg.size
  refine ⟨L', g2, cap2, cs2, ga', ca', k', ⟨hk', e1.trans h.id, e2.trans hcutE, hv2, hrow, ?_, hrel, hfo, hb, ?_, ?_, ?_, hgd, hnd, fun z => ?_, fun u hu hD => ?_, fun t ht => ?_, ?_, h.xd⟩⟩
  · exact hrs.keep (fun j hj hn => hsame j hj (fun e => hn (.inr e))) hz (fun j hj => by
      rcases hj with e | e
      · exact .inl (.inl e)
      · rcases hga' with e2 | e2
        · exact .inl (.inr (e.trans e2))
        · exact .inr (by omega)) (fun j hj => by
      rcases hj with e | e
      · exact Nat.lt_of_lt_of_le (hrs.fl j (.inl e)) hz
      · omega)
  · have h1 := hp.length_eq; have h2 := h.kn; rw [List.length_append] at h1; omega
  · have h1 := hp.length_eq; have h2 := h.k4; rw [List.length_append] at h1 ⊢; omega
  · have h1 := hp.length_eq; have h2 := h.k5; rw [List.length_append] at h1; omega
  · have hids : ((Lc.set k (cutT Lc[k] none 0 y)).map (·.id)).Nodup := by rw [ids_set (t := cutT Lc[k] none 0 y) hk rfl]; exact h.rs.nd
    rw [h.pe z]
    have p1 := pend_same (D := D) h.rs.nd hids (fun u hu hD => by
      obtain ⟨j, hj, rfl⟩ := List.getElem_of_mem hu
      have hjk : j ≠ k := fun e => by subst e; rw [h.id] at hD; exact h.xd hD
      exact ⟨Lc[j], List.mem_iff_getElem.2 ⟨j, by simpa using hj, by rw [List.getElem_set_ne (fun e => hjk e.symm)]⟩, rfl, rfl⟩) (fun t ht => by
      rcases mem_set' ht with rfl | ⟨j, hj, _, rfl⟩
      · exact ⟨Lc[k], List.getElem_mem hk, rfl⟩
      · exact ⟨Lc[j], List.getElem_mem hj, rfl⟩) z
    have p2 := pend_same (D := D) hids hrs.nd (fun u hu hD => hd1 u hu (by simp [hD])) hd2 z
    rw [p2, p1]
  · obtain ⟨t, ht, a1, a2⟩ := h.d1 u hu hD
    obtain ⟨j, hj, rfl⟩ := List.getElem_of_mem ht
    have hjk : j ≠ k := fun e => by subst e; rw [h.id] at a1; rw [← a1] at hD; exact h.xd hD
    obtain ⟨t2, ht2, b1, b2⟩ := hd1 Lc[j] (List.mem_iff_getElem.2 ⟨j, by simpa using hj, by rw [List.getElem_set_ne (fun e => hjk e.symm)]⟩) (by rw [a1]; simp [hD])
    exact ⟨t2, ht2, b1.trans a1, b2.trans a2⟩
  · obtain ⟨u, hu, a1⟩ := hd2 t ht
    rcases mem_set' hu with rfl | ⟨j, hj, _, rfl⟩
    · obtain ⟨u2, hu2, b1⟩ := h.d2 _ (List.getElem_mem hk)
      exact ⟨u2, hu2, b1.trans a1⟩
    · obtain ⟨u2, hu2, b1⟩ := h.d2 _ (List.getElem_mem hj)
      exact ⟨u2, hu2, b1.trans a1⟩
  · have hft := h.fm.tr hf
    refine ⟨hg.os.trans hft.os, hg.tape.trans hft.tape, hg.output.trans hft.output, Nat.le_trans hft.size hz, fun j hj hn => ?_, fun j hj => ?_⟩
    · exact (hsame j (Nat.lt_of_lt_of_le hj hft.size) (by omega)).trans (hft.same j hj hn)
    · rcases hft.new j hj with e | e
      · exact .inl e
      · exact .inr e
end
end Go.Proofs.Ytebcnlhgkpaghaa
/- The table without one thing. -/
namespace Go.Proofs.Ytebcnlhgkpaghaa
open Go.RowKit Go.Sort
/-- A row of things that the call has made, and that is there. -/
def OT (B : Nat) (l : List Th) (v : Value) (X : World) : Prop := X.ownsRow B 60 6 v l.length (thsC l) ∧ v.ownBlock.isSome = true
theorem OT.below {B : Nat} {l : List Th} {v : Value} {X X' : World} (h : OT B l v X) (hb : Below X.heap.size X X') : OT B l v X' := ⟨row_same h.1 (fun k hk => hb.block k (h.1.lt k hk).2), h.2⟩
theorem own_weak {X : World} {B e sz n : Nat} {v : Value} {l : List Value} (h : X.ownsRow B e sz v n l) : X.ownsRow 0 e sz v n l := row_mono h (Nat.zero_le _)
theorem otfresh {X : World} {B : Nat} {v : Value} {l : List Th} {q : Option Addr} {c : Nat} (hv : ET B v X) (hs : SrcT X q l) (hl : l.length < 1000000) (ty : TypeId) :
    ∃ v' X', (Builtin.append_ #[61, 61] ty #[v, .slice q l.length c]).run Try.prog X = .ok v' X' ∧ OT B l v' X' ∧ Below X.heap.size X X' := by
  obtain ⟨v', X', hr, ho, hb⟩ := appT_fresh (c := c) hv hs hl ty
  obtain ⟨g0, rfl, hB, hg⟩ := hv
  have hown : X.ownsRow 0 60 6 (.slice (some ⟨g0, 0, none⟩) 0 0) ([] : List Th).length (thsC []) := ⟨rfl, .inr ⟨g0, 0, #[], rfl, Nat.zero_le _, hg, Nat.le_refl _, by unfold maxLen; omega, rfl, rfl⟩⟩
  obtain ⟨v2, X2, hr2, _, _, hat⟩ := appT_at (l' := l) (c := c) hown hs (by simpa using hl) ty
  have e := hr.symm.trans hr2
  simp only [Result.ok.injEq] at e
  refine ⟨v', X', hr, ⟨ho, ?_⟩, hb⟩
  rw [e.1]
  rcases hat with e2 | e2 <;> rw [e2] <;> rfl
theorem otapp {X : World} {B : Nat} {v : Value} {l l' : List Th} {q : Option Addr} {c : Nat} (h : OT B l v X) (hs : SrcT X q l') (hl : l.length + l'.length < 1000000) (hB : B ≤ X.heap.size) (ty : TypeId) :
    ∃ v' X', (Builtin.append_ #[61, 61] ty #[v, .slice q l'.length c]).run Try.prog X = .ok v' X' ∧ OT B (l ++ l') v' X' ∧ X.grownBy X' v.ownBlock := by
  obtain ⟨v', X', hr, ho, hg⟩ := appT (c := c) h.1 hs hl hB ty
  obtain ⟨v2, X2, hr2, _, _, hat⟩ := appT_at (c := c) (own_weak h.1) hs hl ty
  have e := hr.symm.trans hr2
  simp only [Result.ok.injEq] at e
  refine ⟨v', X', hr, ⟨ho, ?_⟩, hg⟩
  rw [e.1]
  rcases hat with e2 | e2
  · rw [e2]; exact h.2
  · rw [e2]; rfl
theorem erase_eq {L : List Th} {k : Nat} : L.take k ++ L.drop (k + 1) = L.eraseIdx k := (List.eraseIdx_eq_take_drop_succ L k).symm
section
variable {W X : World} {rb g cap : Nat} {cs : Array Value} {root : Int} {L : List Th} {F : Nat → Prop}
theorem RS.srcTake (h : RS W rb g cap cs root L F) (hb : Below W.heap.size W X) (k : Nat) : SrcT X (some ⟨g, 0, none⟩) (L.take k) := by
  refine .inr ⟨_, rfl, fun j u hu => ?_⟩
  have hX := h.below hb
  have hj : (thsC L)[j]? = some u := by
    have e := thsC_app (L.take k) (L.drop k)
    rw [List.take_append_drop] at e
    rw [e, List.getElem?_append_left (List.getElem?_eq_some_iff.1 hu).1]; exact hu
  have := hX.cel j u hj
  rw [addr_plus]
  simp [World.cell?, hX.blk, this]
theorem RS.srcDrop (h : RS W rb g cap cs root L F) (hb : Below W.heap.size W X) (k : Nat) (hk : k ≤ L.length) : SrcT X (some ⟨g, k * 6, none⟩) (L.drop k) := by
  refine .inr ⟨_, rfl, fun j u hu => ?_⟩
  have hX := h.below hb
  have hl : (thsC (L.take k)).length = k * 6 := by rw [thsC_len]; simp; omega
  have hj : (thsC L)[k * 6 + j]? = some u := by
    have e := thsC_app (L.take k) (L.drop k)
    rw [List.take_append_drop] at e
    rw [e, List.getElem?_append_right (by omega), hl, Nat.add_sub_cancel_left]; exact hu
  have := hX.cel _ u hj
  rw [addr_plus]
  simp [World.cell?, hX.blk, this]
theorem RS.shrink (h : RS W rb g cap cs root L F) (hb : Below W.heap.size W X) {v : Value} {k : Nat} (hO : OT W.heap.size (L.eraseIdx k) v X) :
    ∃ g' c' cs', v = .slice (some ⟨g', 0, none⟩) (L.eraseIdx k).length c' ∧ RS (X.setCell ⟨rb, 1, none⟩ v) rb g' c' cs' root (L.eraseIdx k) F ∧ Fm W (X.setCell ⟨rb, 1, none⟩ v) (fun k => k = rb ∨ k = g) (fun k => k = rb ∨ k = g') := by
  have hX := h.below hb
  have hsub := List.eraseIdx_sublist L k
  rcases hO.1.2 with ⟨e, _⟩ | ⟨g2, c2, cur, rfl, hg2, hbk, h2, h3, h4, h5⟩
  · have := hO.2; rw [e] at this; cases this
  · have hne : rb ≠ g2 := fun e => by have := h.rl.1; omega
    refine ⟨g2, c2, cur, rfl, h.put hb (W' := X.setCell ⟨rb, 1, none⟩ (.slice (some ⟨g2, 0, none⟩) (L.eraseIdx k).length c2)) (L' := L.eraseIdx k) ?_ ?_ h4 h2 (fun j u hu => ?_) (h.nd.sublist (hsub.map _)) ⟨Nat.le_trans hsub.length_le h.lim.1, fun u hu => h.lim.2 u (hsub.subset hu)⟩ h3 ⟨rfl, rfl, rfl⟩ (by simp) (fun j hj h1 _ _ => heap_ne _ _ _ h1) (.inr hg2) (fun u hu => h.old hb (.inr hg2) (hsub.subset hu))⟩
    · rw [heap_setCell_same X rb 1 _ _ _ hX.tab]; simp
    · rw [heap_ne _ _ _ (fun e => hne e.symm)]; exact hbk
    · have hj : j < (L.eraseIdx k).length * 6 := by have := (List.getElem?_eq_some_iff.1 hu).1; rw [thsC_len] at this; exact this
      rw [← h5, List.getElem?_take_of_lt hj, Array.getElem?_toList] at hu
      exact hu
end
end Go.Proofs.Ytebcnlhgkpaghaa
namespace Go.Proofs.Ytebcnlhgkpaghaa
open Go.RowKit Go.Sort
set_option maxRecDepth 100000 in
set_option maxHeartbeats 8000000 in
theorem rDrop_step {rb : Nat} {root : Int} {n : Nat} (IH : DropOk rb root n) : DropOk rb root (n + 1) := by
  intro F w g cap cs L S K D P i x kx S' g' h hk ei hk1 hx hrel hnd hbal hP hKn hK4 hgd hlo
  have HB := Lib.hid (rbox_some h i kx hk ei)
  rw [if_pos hk1] at HB
  have hI := (h.cat _ (List.getElem_mem hk)).2
  have hl := (h.lim.2 _ (List.getElem_mem hk)).2
  have HIn := Lib.hid (In_any w L[kx].lp L[kx].lc L[kx].ents x hI hl)
  rw [inB_iff.2 hx] at HIn
  obtain ⟨h0, h1⟩ := h.hd
  obtain ⟨_, _, _, _, _, c5⟩ := h.six hk
  have hLn := h.lim.1
  have hki : (kx : Int) < (L.length : Int) := by omega
  obtain ⟨o, ho⟩ := hbal.has
  have HH := Lib.hid h
  have HREL := Lib.hid hrel
  have HND := Lib.hid hnd
  have HBAL := Lib.hid hbal
  have HP := Lib.hid hP
  have HLO := Lib.hid hlo
  have HGD := Lib.hid hgd
  have HO := Lib.hid ho
  have HIH := Lib.hid IH
  have HC := Lib.hid hI
  obtain ⟨l, hll⟩ : ∃ l, L[kx].ents = l := ⟨_, rfl⟩
  rw [hll] at HIn c5 HC hl
  have HLL := Lib.hid hll
  generalize hlp : L[kx].lp = lp at HIn c5 HC
  generalize hlc : L[kx].lc = lc at HIn c5
  have hT0 : Hid (∀ W : World, Below w.heap.size w W → W.cell? ⟨rb, 1, none⟩ = some (.slice (some ⟨g, 0, none⟩) L.length cap) ∧ W.cell? ⟨g, kx * 6 + 5, none⟩ = some (.slice lp l.length lc) ∧ W.frozen? ⟨g, kx * 6 + 5, none⟩ = false) := fun W hb => by
    have hW := h.below hb
    have := (hW.six hk).2.2.2.2.2
    rw [hll, hlp, hlc] at this
    exact ⟨hW.hd.2, this, by simp [World.frozen?, hW.blk]⟩
  obtain ⟨W1, hW1⟩ : ∃ W1, w.alloc (.cells #[] 3) = W1 := ⟨_, rfl⟩
  have hb1 : Below w.heap.size w W1 := by rw [← hW1]; exact (Below.refl _ _).alloc (Nat.le_refl _) _
  have hr1 : W1.ownsRow w.heap.size 3 1 (.slice (some ⟨w.heap.size, 0, none⟩) 0 0) 0 (ivs []) := by rw [← hW1]; exact World.ownsRow_lit (base := w.heap.size) (e := 3) (size := 1) w #[] 0 (Nat.le_refl _) (by decide) rfl
  obtain ⟨t0, t1, t2⟩ := hT0.out W1 hb1
  have HR1 := Lib.hid hr1
  have HB1 := Lib.hid hb1
  clear h hrel hnd hbal hP hlo hgd IH hI hll hlp hlc hr1 hb1 hx ho
  go_enter Try.func21, Try.ntmps21
  go_wp2_with (first | (go_at_call 50; with_reducible refine Calls.mono HB.out ?_; rintro e w' ⟨rfl, hw'⟩; rw [hw']; clear hw' w') | (go_at_call 54; with_reducible refine Calls.mono HIn.out ?_; rintro e w' ⟨rfl, hw'⟩; rw [hw']; clear hw' w'))
  go_loopw [10, 48] (fun r y wr => ∃ k : Nat, y = .int .i64 k ∧ k ≤ l.length ∧ wr.ownsRow w.heap.size 3 1 r (without x (l.take k)).length (ivs (without x (l.take k))) ∧ Below w.heap.size w wr) (fun _ y _ => (l.length - (RowKit.intOf y).toNat))
  case atStart => exact ⟨0, rfl, Nat.zero_le _, HR1.out, HB1.out⟩
  case round =>
    obtain ⟨k, rfl, hkl, hrow, hB⟩ := hrel
    obtain ⟨sp, cp, rfl⟩ := row_form hrow
    by_cases hlt : k < l.length
    · have hkk : (k : Int) < (l.length : Int) := by omega
      obtain ⟨b, off, rfl, hbl, hcl⟩ := (HC.out.below hB) k hlt
      have HW := Lib.hid (without_take (x := x) hlt)
      have hwl := without_len x (l.take k)
      have hwk : (l.take k).length ≤ k := by simp; omega
      by_cases e : l[k] = x
      · have eb : (l[k] != x) = false := by simp [e]
        have HW2 : Hid (without x (l.take (k + 1)) = without x (l.take k)) := by simp only [Hid]; rw [HW.out, if_pos e]
        have HR := Lib.hid hrow
        clear hrow
        go_wp2_with fail
        go_roundw
        case rel => exact ⟨k + 1, by go_num, by omega, by rw [HW2.out]; exact HR.out, hB⟩
        case measure => simp [RowKit.intOf]; omega
      · have eb : (l[k] != x) = true := by simpa using e
        have HW2 : Hid (without x (l.take (k + 1)) = without x (l.take k) ++ [l[k]]) := by simp only [Hid]; rw [HW.out, if_neg e]
        obtain ⟨W2, hW2⟩ : ∃ W2, wr.alloc (.cells #[.int .i64 l[k]] 3) = W2 := ⟨_, rfl⟩
        have hb2 : Below wr.heap.size wr W2 := by rw [← hW2]; exact (Below.refl _ _).alloc (Nat.le_refl _) _
        have hone : One1 wr.heap.size l[k] (.slice (some ⟨wr.heap.size, 0, none⟩) 1 1) W2 := ⟨wr.heap.size, rfl, Nat.le_refl _, by rw [← hW2]; exact heap_new _ _⟩
        have hown2 := row_same (w' := W2) hrow (fun k hk => hb2.block k (hrow.lt k hk).2)
        have hB2 := hB.trans (hb2.mono hB.size)
        have HO2 := Lib.hid hown2
        have HN2 := Lib.hid hone
        have HB2 := Lib.hid hB2
        have hz2 := hB2.size
        clear hrow hb2 hone hown2 hB2
        go_wp2_with (at_builtin; refine Hid.out ?_)
        refine Lib.hid ?_
        obtain ⟨q, hq, hsq⟩ := HN2.out.src
        refine wpList_appI rfl _ _ rfl w.heap.size (.slice sp (without x (l.take k)).length cp) (without x (l.take k)) [l[k]] q 1 rfl HO2.out hq hsq (by simp; omega) hz2 ?_
        intro v3 w3 hr3 hg3 _
        have hB3 : Below w.heap.size w w3 := Below.grown HB2.out hg3 hz2 (fun k hk => (HO2.out.lt k hk).1)
        have HR3 := Lib.hid hr3
        clear hr3 hg3 hq hsq
        go_wp2_with fail
        go_roundw
        case rel => exact ⟨k + 1, by go_num, by omega, by rw [HW2.out]; exact HR3.out, hB3⟩
        case measure => simp [RowKit.intOf]; omega
    · have hkk : ¬ (k : Int) < (l.length : Int) := by omega
      obtain rfl : k = l.length := by omega
      rw [List.take_length] at hrow
      obtain ⟨t3, t4, t5⟩ := hT0.out wr hB
      have hnew : ∀ a, sp = some a → w.heap.size ≤ a.block := fun a ha => by subst ha; exact (hrow.lt a.block rfl).1
      have hwl := without_len x l
      obtain ⟨r1, r2⟩ := HH.out.setE hB hk sp cp (without x l) (row_ints hrow) hnew (by omega)
      have hcut : ({ L[kx] with lp := sp, lc := cp, ents := without x l } : Th) = cutT L[kx] sp cp x := by
        show ({ L[kx] with lp := sp, lc := cp, ents := without x l } : Th) = { L[kx] with lp := sp, lc := cp, ents := without x L[kx].ents }
        rw [HLL.out]
      rw [hcut] at r1
      have hrelL := HREL.out sp cp
      have hPL := HP.out sp cp
      have hne1 : ∀ t ∈ L.set kx (cutT L[kx] sp cp x), t.ents.Nodup := fun t ht => by
        rcases mem_set' ht with rfl | ⟨j, hj, _, rfl⟩
        · exact (HND.out _ (List.getElem_mem hk)).filter _
        · exact HND.out _ (List.getElem_mem hj)
      have h01 : ∀ u ∈ L.set kx (cutT L[kx] none 0 x), ∃ t ∈ L.set kx (cutT L[kx] sp cp x), t.id = u.id ∧ t.ents = u.ents := fun u hu => by
        rcases mem_set' hu with rfl | ⟨j, hj, hne, rfl⟩
        · exact ⟨cutT L[kx] sp cp x, List.mem_iff_getElem.2 ⟨kx, by simpa using hk, by simp⟩, rfl, rfl⟩
        · exact ⟨L[j], List.mem_iff_getElem.2 ⟨j, by simpa using hj, by rw [List.getElem_set_ne (fun e => hne e.symm)]⟩, rfl, rfl⟩
      have h10 : ∀ u ∈ L.set kx (cutT L[kx] sp cp x), ∃ t ∈ L.set kx (cutT L[kx] none 0 x), t.id = u.id := fun u hu => by
        rcases mem_set' hu with rfl | ⟨j, hj, hne, rfl⟩
        · exact ⟨cutT L[kx] none 0 x, List.mem_iff_getElem.2 ⟨kx, by simpa using hk, by simp⟩, rfl⟩
        · exact ⟨L[j], List.mem_iff_getElem.2 ⟨j, by simpa using hj, by rw [List.getElem_set_ne (fun e => hne e.symm)]⟩, rfl⟩
      have hlk := lk_in hrelL r1.nd hne1 HBAL.out hPL HO.out
      have H01 := Lib.hid h01
      have H10 := Lib.hid h10
      generalize L.set kx (cutT L[kx] sp cp x) = L1 at r1 hrelL hPL hne1 hlk H01 H10
      have HLk := Lib.hid (rLinks_any r1 x)
      have hlk0 : 0 ≤ lkL root L1 x := by unfold lkL; split <;> omega
      have HR1' := Lib.hid r1
      have HR2' := Lib.hid r2
      have HRL := Lib.hid hrelL
      have HPL := Lib.hid hPL
      have HNE := Lib.hid hne1
      clear r1 r2 hrelL hPL hne1 h01 h10 hrow hcut hnew
      by_cases hl1 : 1 < o.links
      · have hlp : 0 < lkL root L1 x := by omega
        obtain ⟨eS, eg⟩ : S' = updS S x (decO o) ∧ g' = [] := by
          have := HLO.out
          unfold loosS at this
          rw [HO.out] at this
          simp only [if_pos hl1] at this
          cases this
          exact ⟨rfl, rfl⟩
        have HES := Lib.hid eS
        subst eg
        clear eS
        go_wp2_with (go_at_call 55; with_reducible refine Calls.mono HLk.out ?_; rintro e w' ⟨rfl, hw'⟩; rw [hw']; clear hw' w')
        go_ret2
        refine ⟨none, 0, rfl, (fun j hj => by simp at hj), g, cap, _, L1, HR1'.out, ?_, HNE.out, fun u hu _ => H01.out u hu, H10.out, HR2'.out⟩
        rw [HES.out]
        exact HRL.out.upM HO.out (fun t ht => ht)
      · have hlz : lkL root L1 x = 0 := by omega
        rw [hlz] at HLk
        have hfo : foldS (loosS n) o.ents (delS S x) [x] = some (S', g') := by
          have := HLO.out
          unfold loosS at this
          rw [HO.out] at this
          simp only [if_neg hl1] at this
          exact this
        obtain ⟨k2, hk2, e2, m2⟩ := HRL.out.pos HO.out
        have hxD : x ∉ D := fun e => by
          have := (HRL.out.dead _ (List.getElem_mem hk2) (by rw [e2]; exact e)).1
          rw [e2, HO.out] at this; cases this
        have hxK : x ∈ K := (HBAL.out.mem x).2 (by rw [HO.out]; rfl)
        have hKe : (K.erase x).length + 1 = K.length := by
          have := List.length_erase_of_mem hxK
          have := List.length_pos_of_mem hxK
          omega
        obtain ⟨W3, hW3⟩ : ∃ W3, wr.setCell ⟨g, kx * 6 + 5, none⟩ (.slice sp (without x l).length cp) = W3 := ⟨_, rfl⟩
        rw [hW3] at HR1' HR2' HLk
        obtain ⟨W4, hW4⟩ : ∃ W4, W3.alloc (.cells #[.int .i64 x] 3) = W4 := ⟨_, rfl⟩
        have b4 : Below W3.heap.size W3 W4 := by rw [← hW4]; exact (Below.refl _ _).alloc (Nat.le_refl _) _
        have z4 : W4.heap.size = W3.heap.size + 1 := by rw [← hW4]; simp
        have w3z : w.heap.size ≤ W3.heap.size := HR2'.out.size
        have row4 : W4.ownsRow w.heap.size 3 1 (.slice (some ⟨W3.heap.size, 0, none⟩) 1 1) 1 (ivs [x]) := by rw [← hW4]; exact World.ownsRow_lit (base := w.heap.size) (e := 3) (size := 1) W3 #[.int .i64 x] 1 w3z (by decide) rfl
        have L0 : LI w W4 rb g root F n x D P S' g' L1 (.slice (some ⟨W3.heap.size, 0, none⟩) 1 1) o.ents [x] (delS S x) (K.erase x) L1 g cap (cs.setIfInBounds (kx * 6 + 5) (.slice sp (without x l).length cp)) W3.heap.size 1 k2 := by
          refine ⟨hk2, e2, m2.2.2.2.2.symm, rfl, row4, ?_, HRL.out.kill (fun t ht et hte => ?_), hfo, HBAL.out.del HO.out hl1, by omega, by simp; omega, by omega, HGD.out.les (Les.del S x), HNE.out, HPL.out, fun u hu _ => ⟨u, hu, rfl, rfl⟩, fun t ht => ⟨t, ht, rfl⟩, HR2'.out.tr (Fm.stay b4), hxD⟩
          · exact HR1'.out.keep (fun j hj _ => b4.block j hj) b4.size (fun j hj => by
              rcases hj with e | e
              · exact .inl e
              · exact .inr (by omega)) (fun j hj => by
              rcases hj with e | e
              · have := HR1'.out.fl j e; omega
              · omega)
          · have : t = L1[k2] := id_eq HR1'.out.nd ht (List.getElem_mem hk2) (et.trans e2.symm)
            subst this
            rw [← m2.1]
            exact HGD.out x o HO.out (by rw [m2.2.2.2.2]; exact hte)
        have HL0 := Lib.hid L0
        clear hfo e2 m2 hk2 b4 row4 L0 t0 t1 t2 c5 h0 h1
        go_wp2_with (go_at_call 55; with_reducible refine Calls.mono HLk.out ?_; rintro e w' ⟨rfl, hw'⟩; rw [hw']; clear hw' w')
        go_loopw [13] (fun r wr => ∃ rem acc Sc Kc Lc gc cc cs ga ca k, LI w wr rb g root F n x D P S' g' L1 r rem acc Sc Kc Lc gc cc cs ga ca k) (fun _ wr => mesW wr rb x)
        case atStart => exact ⟨_, _, _, _, _, _, _, _, _, _, _, HL0.out⟩
        case round =>
          obtain ⟨rem, acc, Sc, Kc, Lc, gc, cc, cs4, ga, ca, k, hLI⟩ := hrel
          have hrv := hLI.rv
          subst hrv
          have HAt := Lib.hid (rAt_any hLI.rs x)
          rw [atL_yes 0 hLI.hk hLI.rs.nd hLI.id, Nat.zero_add] at HAt
          have a1 := hLI.rs.hd.2
          have z5 := (hLI.rs.six hLI.hk).2.2.2.2.2
          have zI := (hLI.rs.cat _ (List.getElem_mem hLI.hk)).2
          rw [hLI.en] at z5 zI
          have hLcn := hLI.rs.lim.1
          have hkL := hLI.hk
          have hkLi : (k : Int) < (Lc.length : Int) := by omega
          generalize (Lc[k]'hLI.hk).lp = lpk at z5 zI
          generalize (Lc[k]'hLI.hk).lc = lck at z5
          cases rem with
          | cons y rem =>
            obtain ⟨S1, gy, _, hfo, ⟨K1, hb1, hp1⟩, hgd1, hcall⟩ := hLI.ask HIH.out
            have HCall := Lib.hid hcall
            obtain ⟨bI, oI, hbI, hbIl, hcI⟩ := zI 0 (by simp)
            subst hbI
            simp only [List.getElem_cons_zero, Nat.add_zero] at hcI
            have hremi : ((rem.length + 1 : Nat) : Int) ≠ 0 := by omega
            have hremi2 : (0 : Int) < ((rem.length + 1 : Nat) : Int) := by omega
            have hk4 := hLI.k4
            have hp1l := hp1.length_eq
            rw [List.length_append] at hp1l
            have HL := Lib.hid hLI
            have HM : Hid (mesW wr rb x = rem.length + 1) := hLI.mes
            have HFO := Lib.hid hfo
            have HB1x := Lib.hid hb1
            have HP1 := Lib.hid hp1
            have HG1 := Lib.hid hgd1
            clear hcall hfo hb1 hp1 hgd1 zI
            go_wp2_with (first | (go_at_call 51; with_reducible refine Calls.mono HAt.out ?_; rintro e w' ⟨rfl, hw'⟩; rw [hw']; clear hw' w') | (go_at_call 21; with_reducible refine Calls.mono HCall.out ?_; rintro e w5 ⟨p5, c5, rfl, hI5, hd5⟩; refine Hid.out ?_))
            refine Lib.hid ?_
            have row1 := HL.out.row1 hd5
            have hwz : w.heap.size ≤ w5.heap.size := by
              have := (row1.lt ga rfl).1
              have := (row1.lt ga rfl).2
              omega
            have HRow1 := Lib.hid row1
            have HD5 := Lib.hid hd5
            have HI5 := Lib.hid hI5
            clear row1 hd5 hI5 a1 z5 hcI
            go_wp2_with (at_builtin; refine Hid.out ?_)
            refine Lib.hid ?_
            refine wpList_appI rfl _ _ rfl w.heap.size (.slice (some ⟨ga, 0, none⟩) acc.length ca) acc gy p5 c5 rfl HRow1.out rfl (SrcI.of HI5.out) (by omega) hwz ?_
            intro v6 w6 hr6 hg6 hat6
            obtain ⟨Lc', gc', cc', cs', ga', ca', k', hLI'⟩ := HL.out.next HFO.out HB1x.out HP1.out HG1.out HD5.out hr6 hg6 hat6
            have HL2 := Lib.hid hLI'
            clear hr6 hg6 hat6 hLI'
            go_wp2_with fail
            go_roundw
            case rel => exact ⟨_, _, _, _, _, _, _, _, _, _, _, HL2.out⟩
            case measure => rw [HM.out, HL2.out.mes]; omega
          | nil =>
            obtain ⟨eS, eg⟩ : Sc = S' ∧ acc = g' := by
              have := hLI.fo
              unfold foldS at this
              cases this
              exact ⟨rfl, rfl⟩
            subst eS
            subst eg
            have HL := Lib.hid hLI
            clear hLI zI
            go_upto_region 22 with (first | (go_at_call 51; with_reducible refine Calls.mono HAt.out ?_; rintro e w' ⟨rfl, hw'⟩; rw [hw']; clear hw' w'))
            have H5 := Lib.hid HL.out.rs
            have hgcl := HL.out.rs.le
            have cW : ∀ X, Below wr.heap.size wr X → X.cell? ⟨rb, 1, none⟩ = some (.slice (some ⟨gc, 0, none⟩) Lc.length cc) := fun X hX => (H5.out.below hX).hd.2
            have hsd : ∀ X, Below wr.heap.size wr X → SrcT X (if cc = k + 1 then some ⟨gc, 0, none⟩ else some ⟨gc, (k + 1) * 6, none⟩) (Lc.drop (k + 1)) := fun X hX => by
              by_cases e : cc = k + 1
              · rw [if_pos e, show Lc.drop (k + 1) = [] from List.drop_of_length_le (by omega)]
                exact .inr ⟨_, rfl, fun j u hu => by simp [thsC] at hu⟩
              · rw [if_neg e]; exact H5.out.srcDrop hX (k + 1) (by omega)
            have hcck : ¬ cc < k := by omega
            have hcck2 : k ≤ cc := by omega
            have hk0i : (0 : Int) ≤ (k : Int) + 1 := by omega
            have hk1i : (k : Int) + 1 ≤ (Lc.length : Int) := by omega
            have hwk : IntKind.i64.wrap ((k : Int) + 1) = (k : Int) + 1 := by
              have : ∀ z : Int, 0 ≤ z → z < 5000 → IntKind.i64.wrap z = z := fun z h1 h2 => by
                simp [IntKind.wrap, IntKind.bits, IntKind.signed]; omega
              exact this _ (by omega) (by omega)
            refine wp_region_monoC 6 19 16 (fun X => Below wr.heap.size wr X) (fun bq kq uq Xq => match kq with | 109 => uq = .pointer (some ⟨rb, 0, none⟩) | 110 => (bq = false → ET wr.heap.size (uq) Xq) | 111 => uq = .pointer (some ⟨rb, 0, none⟩) | 112 => uq = .pointer (some ⟨rb, 0, none⟩) | 113 => uq = .pointer (some ⟨rb, 1, none⟩) | 114 => uq = .slice (some ⟨gc, 0, none⟩) Lc.length cc | 115 => uq = .int .i64 k | 116 => uq = .slice (some ⟨gc, 0, none⟩) k cc | 117 => (bq = false → OT wr.heap.size (Lc.take k) (uq) Xq) | 118 => uq = .pointer (some ⟨rb, 0, none⟩) | 119 => uq = .pointer (some ⟨rb, 0, none⟩) | 120 => uq = .pointer (some ⟨rb, 1, none⟩) | 121 => uq = .slice (some ⟨gc, 0, none⟩) Lc.length cc | 122 => uq = .int .i64 k | 123 => uq = .int .i64 ((k : Int) + 1) | 124 => uq = .slice (if cc = k + 1 then some ⟨gc, 0, none⟩ else some ⟨gc, (k + 1) * 6, none⟩) (Lc.length - (k + 1)) (cc - (k + 1)) | 125 => OT wr.heap.size (Lc.eraseIdx k) (uq) Xq | 126 => uq = .pointer (some ⟨rb, 0, none⟩) | 127 => uq = .pointer (some ⟨rb, 1, none⟩) | _ => True) (by kernel_rfl) (by kernel_rfl) (by kernel_rfl) (by kernel_rfl) (by simp) (by kernel_rfl) (by decide) (fun _ _ h k => h.trans (k.mono h.size)) ((Below.refl _ _).drew) ?_ ?_ ?_
            · intro bq kq v W W' h hb
              revert h
              try dsimp only
              split
              · intro h; exact h
              · intro h; exact fun eb => (fun h => ET.below h hb) (h eb)
              · intro h; exact h
              · intro h; exact h
              · intro h; exact h
              · intro h; exact h
              · intro h; exact h
              · intro h; exact h
              · intro h; exact fun eb => (fun h => OT.below h hb) (h eb)
              · intro h; exact h
              · intro h; exact h
              · intro h; exact h
              · intro h; exact h
              · intro h; exact h
              · intro h; exact h
              · intro h; exact h
              · intro h; exact OT.below h hb
              · intro h; exact h
              · intro h; exact h
              · intro h; trivial
            · intro a' X b hB hs hk i o d ho hd hbc hG
              match i, ho with
              | 0, ho =>
                obtain rfl : _ = o := Option.some.inj ho
                obtain rfl : 109 = d := Option.some.inj hd
                have g0 : a'.eval (.tmp 0) = .pointer (some ⟨rb, 0, none⟩) := hk 0 (by kernel_rfl)
                obtain ⟨ev, hev⟩ : ∃ ev, a'.eval = ev := ⟨_, rfl⟩
                rw [hev] at g0 ⊢
                clear hev hG hk hbc
                have e1 := cW X hB
                exact .inr ⟨rfl, .inl ⟨.pointer (some ⟨rb, 0, none⟩), X, by clear hs; go_simp, .inl ⟨by decide, Below.refl _ _, rfl⟩⟩⟩
              | 1, ho =>
                obtain rfl : _ = o := Option.some.inj ho
                obtain rfl : 110 = d := Option.some.inj hd
                obtain ⟨ev, hev⟩ : ∃ ev, a'.eval = ev := ⟨_, rfl⟩
                rw [hev]
                clear hev hG hk hbc
                have hr : (execOp ev { dst := some 110, op := .buildSlice 61 0 #[], type := 61, pos := "ref.go:169", after := #[], guard := none }).run Try.prog X = .ok (.value (.slice (some ⟨X.heap.size, 0, none⟩) 0 0)) (X.alloc (.cells #[] 60)) := by clear hs; go_simp
                exact .inr ⟨rfl, .inl ⟨_, _, hr, .inl ⟨by decide, (Below.refl _ _).alloc (Nat.le_refl _) _, fun _ => ⟨X.heap.size, rfl, hB.size, heap_new _ _⟩⟩⟩⟩
              | 2, ho =>
                obtain rfl : _ = o := Option.some.inj ho
                obtain rfl : 111 = d := Option.some.inj hd
                have g0 : a'.eval (.tmp 0) = .pointer (some ⟨rb, 0, none⟩) := hk 0 (by kernel_rfl)
                obtain ⟨ev, hev⟩ : ∃ ev, a'.eval = ev := ⟨_, rfl⟩
                rw [hev] at g0 ⊢
                clear hev hG hk hbc
                have e1 := cW X hB
                exact .inr ⟨rfl, .inl ⟨.pointer (some ⟨rb, 0, none⟩), X, by clear hs; go_simp, .inl ⟨by decide, Below.refl _ _, rfl⟩⟩⟩
              | 3, ho =>
                obtain rfl : _ = o := Option.some.inj ho
                obtain rfl : 112 = d := Option.some.inj hd
                have g111 : a'.eval (.tmp 111) = .pointer (some ⟨rb, 0, none⟩) := hG ⟨2, .data⟩ (by simp) rfl 111 rfl
                obtain ⟨ev, hev⟩ : ∃ ev, a'.eval = ev := ⟨_, rfl⟩
                rw [hev] at g111 ⊢
                clear hev hG hk hbc
                have e1 := cW X hB
                exact .inr ⟨rfl, .inl ⟨.pointer (some ⟨rb, 0, none⟩), X, by clear hs; go_simp, .inl ⟨by decide, Below.refl _ _, rfl⟩⟩⟩
              | 4, ho =>
                obtain rfl : _ = o := Option.some.inj ho
                obtain rfl : 113 = d := Option.some.inj hd
                have g112 : a'.eval (.tmp 112) = .pointer (some ⟨rb, 0, none⟩) := hG ⟨3, .data⟩ (by simp) rfl 112 rfl
                obtain ⟨ev, hev⟩ : ∃ ev, a'.eval = ev := ⟨_, rfl⟩
                rw [hev] at g112 ⊢
                clear hev hG hk hbc
                have e1 := cW X hB
                exact .inr ⟨rfl, .inl ⟨.pointer (some ⟨rb, 1, none⟩), X, by clear hs; go_simp, .inl ⟨by decide, Below.refl _ _, rfl⟩⟩⟩
              | 5, ho =>
                obtain rfl : _ = o := Option.some.inj ho
                obtain rfl : 114 = d := Option.some.inj hd
                have g113 : a'.eval (.tmp 113) = .pointer (some ⟨rb, 1, none⟩) := hG ⟨4, .data⟩ (by simp) rfl 113 rfl
                obtain ⟨ev, hev⟩ : ∃ ev, a'.eval = ev := ⟨_, rfl⟩
                rw [hev] at g113 ⊢
                clear hev hG hk hbc
                have e1 := cW X hB
                exact .inr ⟨rfl, .inl ⟨.slice (some ⟨gc, 0, none⟩) Lc.length cc, X, by clear hs; go_simp, .inl ⟨by decide, Below.refl _ _, rfl⟩⟩⟩
              | 6, ho =>
                obtain rfl : _ = o := Option.some.inj ho
                obtain rfl : 115 = d := Option.some.inj hd
                have g17 : a'.eval (.tmp 17) = .int .i64 k := hk 17 (by kernel_rfl)
                obtain ⟨ev, hev⟩ : ∃ ev, a'.eval = ev := ⟨_, rfl⟩
                rw [hev] at g17 ⊢
                clear hev hG hk hbc
                have e1 := cW X hB
                exact .inr ⟨rfl, .inl ⟨.int .i64 k, X, by clear hs; go_simp, .inl ⟨by decide, Below.refl _ _, rfl⟩⟩⟩
              | 7, ho =>
                obtain rfl : _ = o := Option.some.inj ho
                obtain rfl : 116 = d := Option.some.inj hd
                have g114 : a'.eval (.tmp 114) = .slice (some ⟨gc, 0, none⟩) Lc.length cc := hG ⟨5, .data⟩ (by simp) rfl 114 rfl
                have g115 : a'.eval (.tmp 115) = .int .i64 k := hG ⟨6, .data⟩ (by simp) rfl 115 rfl
                obtain ⟨ev, hev⟩ : ∃ ev, a'.eval = ev := ⟨_, rfl⟩
                rw [hev] at g114 g115 ⊢
                clear hev hG hk hbc
                have e1 := cW X hB
                refine .inr ⟨rfl, .inl ⟨.slice (some ⟨gc, 0, none⟩) k cc, X, ?_, .inl ⟨by decide, Below.refl _ _, rfl⟩⟩⟩
                clear hs
                go_simp
                try (intro hh; exact absurd hh hcck)
              | 8, ho =>
                obtain rfl : _ = o := Option.some.inj ho
                obtain rfl : 117 = d := Option.some.inj hd
                obtain rfl : b = false := hbc (.inr (by kernel_rfl))
                have g110 : (false = false → ET wr.heap.size (a'.eval (.tmp 110)) X) := hG ⟨1, .data⟩ (by simp) rfl 110 rfl
                have g116 : a'.eval (.tmp 116) = .slice (some ⟨gc, 0, none⟩) k cc := hG ⟨7, .data⟩ (by simp) rfl 116 rfl
                obtain ⟨ev, hev⟩ : ∃ ev, a'.eval = ev := ⟨_, rfl⟩
                rw [hev] at g110 g116 ⊢
                clear hev hG hk hbc
                have hlt : (Lc.take k).length = k := by simp; omega
                obtain ⟨v', X', hr, ho, hb⟩ := otfresh (c := cc) (g110 rfl) (H5.out.srcTake hB k) (by omega) 61
                rw [hlt] at hr
                exact .inr ⟨rfl, .inl ⟨v', X', exec_app rfl rfl g116 hr, .inl ⟨by decide, hb, fun _ => ho⟩⟩⟩
              | 9, ho =>
                obtain rfl : _ = o := Option.some.inj ho
                obtain rfl : 118 = d := Option.some.inj hd
                have g0 : a'.eval (.tmp 0) = .pointer (some ⟨rb, 0, none⟩) := hk 0 (by kernel_rfl)
                obtain ⟨ev, hev⟩ : ∃ ev, a'.eval = ev := ⟨_, rfl⟩
                rw [hev] at g0 ⊢
                clear hev hG hk hbc
                have e1 := cW X hB
                exact .inr ⟨rfl, .inl ⟨.pointer (some ⟨rb, 0, none⟩), X, by clear hs; go_simp, .inl ⟨by decide, Below.refl _ _, rfl⟩⟩⟩
              | 10, ho =>
                obtain rfl : _ = o := Option.some.inj ho
                obtain rfl : 119 = d := Option.some.inj hd
                have g118 : a'.eval (.tmp 118) = .pointer (some ⟨rb, 0, none⟩) := hG ⟨9, .data⟩ (by simp) rfl 118 rfl
                obtain ⟨ev, hev⟩ : ∃ ev, a'.eval = ev := ⟨_, rfl⟩
                rw [hev] at g118 ⊢
                clear hev hG hk hbc
                have e1 := cW X hB
                exact .inr ⟨rfl, .inl ⟨.pointer (some ⟨rb, 0, none⟩), X, by clear hs; go_simp, .inl ⟨by decide, Below.refl _ _, rfl⟩⟩⟩
              | 11, ho =>
                obtain rfl : _ = o := Option.some.inj ho
                obtain rfl : 120 = d := Option.some.inj hd
                have g119 : a'.eval (.tmp 119) = .pointer (some ⟨rb, 0, none⟩) := hG ⟨10, .data⟩ (by simp) rfl 119 rfl
                obtain ⟨ev, hev⟩ : ∃ ev, a'.eval = ev := ⟨_, rfl⟩
                rw [hev] at g119 ⊢
                clear hev hG hk hbc
                have e1 := cW X hB
                exact .inr ⟨rfl, .inl ⟨.pointer (some ⟨rb, 1, none⟩), X, by clear hs; go_simp, .inl ⟨by decide, Below.refl _ _, rfl⟩⟩⟩
              | 12, ho =>
                obtain rfl : _ = o := Option.some.inj ho
                obtain rfl : 121 = d := Option.some.inj hd
                have g120 : a'.eval (.tmp 120) = .pointer (some ⟨rb, 1, none⟩) := hG ⟨11, .data⟩ (by simp) rfl 120 rfl
                obtain ⟨ev, hev⟩ : ∃ ev, a'.eval = ev := ⟨_, rfl⟩
                rw [hev] at g120 ⊢
                clear hev hG hk hbc
                have e1 := cW X hB
                exact .inr ⟨rfl, .inl ⟨.slice (some ⟨gc, 0, none⟩) Lc.length cc, X, by clear hs; go_simp, .inl ⟨by decide, Below.refl _ _, rfl⟩⟩⟩
              | 13, ho =>
                obtain rfl : _ = o := Option.some.inj ho
                obtain rfl : 122 = d := Option.some.inj hd
                have g17 : a'.eval (.tmp 17) = .int .i64 k := hk 17 (by kernel_rfl)
                obtain ⟨ev, hev⟩ : ∃ ev, a'.eval = ev := ⟨_, rfl⟩
                rw [hev] at g17 ⊢
                clear hev hG hk hbc
                have e1 := cW X hB
                exact .inr ⟨rfl, .inl ⟨.int .i64 k, X, by clear hs; go_simp, .inl ⟨by decide, Below.refl _ _, rfl⟩⟩⟩
              | 14, ho =>
                obtain rfl : _ = o := Option.some.inj ho
                obtain rfl : 123 = d := Option.some.inj hd
                have g122 : a'.eval (.tmp 122) = .int .i64 k := hG ⟨13, .data⟩ (by simp) rfl 122 rfl
                have k0 : a'.eval (.const (.int .i64 1)) = (.int .i64 1) := rfl
                obtain ⟨ev, hev⟩ : ∃ ev, a'.eval = ev := ⟨_, rfl⟩
                rw [hev] at g122 k0 ⊢
                clear hev hG hk hbc
                refine .inr ⟨rfl, .inl ⟨.int .i64 ((k : Int) + 1), X, ?_, .inl ⟨by decide, Below.refl _ _, rfl⟩⟩⟩
                clear hs
                go_simp
                try exact hwk
              | 15, ho =>
                obtain rfl : _ = o := Option.some.inj ho
                obtain rfl : 124 = d := Option.some.inj hd
                have g121 : a'.eval (.tmp 121) = .slice (some ⟨gc, 0, none⟩) Lc.length cc := hG ⟨12, .data⟩ (by simp) rfl 121 rfl
                have g123 : a'.eval (.tmp 123) = .int .i64 ((k : Int) + 1) := hG ⟨14, .data⟩ (by simp) rfl 123 rfl
                obtain ⟨ev, hev⟩ : ∃ ev, a'.eval = ev := ⟨_, rfl⟩
                rw [hev] at g121 g123 ⊢
                clear hev hG hk hbc
                refine .inr ⟨rfl, .inl ⟨.slice (if cc = k + 1 then some ⟨gc, 0, none⟩ else some ⟨gc, (k + 1) * 6, none⟩) (Lc.length - (k + 1)) (cc - (k + 1)), X, ?_, .inl ⟨by decide, Below.refl _ _, rfl⟩⟩⟩
                clear hs
                go_simp
                try rw [if_pos (And.intro hk0i hk1i)]
              | 16, ho =>
                obtain rfl : _ = o := Option.some.inj ho
                obtain rfl : 125 = d := Option.some.inj hd
                obtain rfl : b = false := hbc (.inl rfl)
                have g117 : (false = false → OT wr.heap.size (Lc.take k) (a'.eval (.tmp 117)) X) := hG ⟨8, .data⟩ (by simp) rfl 117 rfl
                have g124 : a'.eval (.tmp 124) = .slice (if cc = k + 1 then some ⟨gc, 0, none⟩ else some ⟨gc, (k + 1) * 6, none⟩) (Lc.length - (k + 1)) (cc - (k + 1)) := hG ⟨15, .data⟩ (by simp) rfl 124 rfl
                obtain ⟨ev, hev⟩ : ∃ ev, a'.eval = ev := ⟨_, rfl⟩
                rw [hev] at g117 g124 ⊢
                clear hev hG hk hbc
                have hld : (Lc.drop (k + 1)).length = Lc.length - (k + 1) := by simp
                have hlt : (Lc.take k).length = k := by simp; omega
                obtain ⟨v', X', hr, ho, hgw⟩ := otapp (c := cc - (k + 1)) (g117 rfl) (hsd X hB) (by rw [hlt, hld]; omega) hB.size 61
                rw [hld] at hr
                rw [erase_eq] at ho
                exact .inr ⟨rfl, .inl ⟨v', X', exec_app rfl rfl g124 hr, .inr ⟨rfl, Below.grown hB hgw hB.size (fun j hj => ((g117 rfl).1.lt j hj).1), ho, fun kq u hne h => by revert h; (try dsimp only); split <;> first | (intro h; exact h) | (intro h e; cases e) | exact absurd rfl hne⟩⟩⟩
              | 17, ho =>
                obtain rfl : _ = o := Option.some.inj ho
                obtain rfl : 126 = d := Option.some.inj hd
                have g109 : a'.eval (.tmp 109) = .pointer (some ⟨rb, 0, none⟩) := hG ⟨0, .data⟩ (by simp) rfl 109 rfl
                obtain ⟨ev, hev⟩ : ∃ ev, a'.eval = ev := ⟨_, rfl⟩
                rw [hev] at g109 ⊢
                clear hev hG hk hbc
                have e1 := cW X hB
                exact .inr ⟨rfl, .inl ⟨.pointer (some ⟨rb, 0, none⟩), X, by clear hs; go_simp, .inl ⟨by decide, Below.refl _ _, rfl⟩⟩⟩
              | 18, ho =>
                obtain rfl : _ = o := Option.some.inj ho
                obtain rfl : 127 = d := Option.some.inj hd
                have g126 : a'.eval (.tmp 126) = .pointer (some ⟨rb, 0, none⟩) := hG ⟨17, .data⟩ (by simp) rfl 126 rfl
                obtain ⟨ev, hev⟩ : ∃ ev, a'.eval = ev := ⟨_, rfl⟩
                rw [hev] at g126 ⊢
                clear hev hG hk hbc
                have e1 := cW X hB
                exact .inr ⟨rfl, .inl ⟨.pointer (some ⟨rb, 1, none⟩), X, by clear hs; go_simp, .inl ⟨by decide, Below.refl _ _, rfl⟩⟩⟩
              | j + 19, ho => simp at ho
            · intro a' X hB hs hdf hk hG
              obtain ⟨tm, df⟩ := a'
              obtain rfl : df = [] := hdf
              have e0 : tm.getD 0 undef = .pointer (some ⟨rb, 0, none⟩) := hk 0 (by kernel_rfl)
              have e1 : tm.getD 1 undef = .int .i64 i := hk 1 (by kernel_rfl)
              have e2 : tm.getD 2 undef = .int .i64 x := hk 2 (by kernel_rfl)
              have e3 : tm.getD 3 undef = undef := hk 3 (by kernel_rfl)
              have e4 : tm.getD 4 undef = undef := hk 4 (by kernel_rfl)
              have e5 : tm.getD 5 undef = undef := hk 5 (by kernel_rfl)
              have e6 : tm.getD 6 undef = .slice none 0 0 := hk 6 (by kernel_rfl)
              have e7 : tm.getD 7 undef = .int .i64 0 := hk 7 (by kernel_rfl)
              have e8 : tm.getD 8 undef = .int .i64 kx := hk 8 (by kernel_rfl)
              have e9 : tm.getD 9 undef = .int .i64 0 := hk 9 (by kernel_rfl)
              have e10 : tm.getD 10 undef = .slice sp (without x l).length cp := hk 10 (by kernel_rfl)
              have e11 : tm.getD 11 undef = undef := hk 11 (by kernel_rfl)
              have e12 : tm.getD 12 undef = u12 := hk 12 (by kernel_rfl)
              have e13 : tm.getD 13 undef = .slice (some ⟨ga, 0, none⟩) acc.length ca := hk 13 (by kernel_rfl)
              have e14 : tm.getD 14 undef = .int .i64 k := hk 14 (by kernel_rfl)
              have e15 : tm.getD 15 undef = u15 := hk 15 (by kernel_rfl)
              have e16 : tm.getD 16 undef = u16 := hk 16 (by kernel_rfl)
              have e17 : tm.getD 17 undef = .int .i64 k := hk 17 (by kernel_rfl)
              have e18 : tm.getD 18 undef = .tuple #[.int .i64 kx, .int .i64 0] := hk 18 (by kernel_rfl)
              have e19 : tm.getD 19 undef = .pointer (some ⟨rb, 0, none⟩) := hk 19 (by kernel_rfl)
              have e20 : tm.getD 20 undef = .int .i64 i := hk 20 (by kernel_rfl)
              have e21 : tm.getD 21 undef = .tuple #[.int .i64 kx, .int .i64 0] := hk 21 (by kernel_rfl)
              have e22 : tm.getD 22 undef = .int .i64 kx := hk 22 (by kernel_rfl)
              have e23 : tm.getD 23 undef = .int .i64 0 := hk 23 (by kernel_rfl)
              have e24 : tm.getD 24 undef = .int .i64 0 := hk 24 (by kernel_rfl)
              have e25 : tm.getD 25 undef = .bool false := hk 25 (by kernel_rfl)
              have e26 : tm.getD 26 undef = undef := hk 26 (by kernel_rfl)
              have e27 : tm.getD 27 undef = .pointer (some ⟨rb, 0, none⟩) := hk 27 (by kernel_rfl)
              have e28 : tm.getD 28 undef = .pointer (some ⟨rb, 0, none⟩) := hk 28 (by kernel_rfl)
              have e29 : tm.getD 29 undef = .pointer (some ⟨rb, 1, none⟩) := hk 29 (by kernel_rfl)
              have e30 : tm.getD 30 undef = .slice (some ⟨g, 0, none⟩) L.length cap := hk 30 (by kernel_rfl)
              have e31 : tm.getD 31 undef = .int .i64 kx := hk 31 (by kernel_rfl)
              have e32 : tm.getD 32 undef = .pointer (some { block := g, off := kx * 6 }) := hk 32 (by kernel_rfl)
              have e33 : tm.getD 33 undef = .pointer (some { block := g, off := kx * 6 + 5 }) := hk 33 (by kernel_rfl)
              have e34 : tm.getD 34 undef = .slice lp l.length lc := hk 34 (by kernel_rfl)
              have e35 : tm.getD 35 undef = .int .i64 x := hk 35 (by kernel_rfl)
              have e36 : tm.getD 36 undef = .bool true := hk 36 (by kernel_rfl)
              have e37 : tm.getD 37 undef = .bool false := hk 37 (by kernel_rfl)
              have e38 : tm.getD 38 undef = .slice (some ⟨w.heap.size, 0, none⟩) 0 0 := hk 38 (by kernel_rfl)
              have e39 : tm.getD 39 undef = .pointer (some ⟨rb, 0, none⟩) := hk 39 (by kernel_rfl)
              have e40 : tm.getD 40 undef = .pointer (some ⟨rb, 0, none⟩) := hk 40 (by kernel_rfl)
              have e41 : tm.getD 41 undef = .pointer (some ⟨rb, 1, none⟩) := hk 41 (by kernel_rfl)
              have e42 : tm.getD 42 undef = .slice (some ⟨g, 0, none⟩) L.length cap := hk 42 (by kernel_rfl)
              have e43 : tm.getD 43 undef = .int .i64 kx := hk 43 (by kernel_rfl)
              have e44 : tm.getD 44 undef = .pointer (some { block := g, off := kx * 6 }) := hk 44 (by kernel_rfl)
              have e45 : tm.getD 45 undef = .pointer (some { block := g, off := kx * 6 + 5 }) := hk 45 (by kernel_rfl)
              have e46 : tm.getD 46 undef = .slice lp l.length lc := hk 46 (by kernel_rfl)
              have e47 : tm.getD 47 undef = .int .i64 l.length := hk 47 (by kernel_rfl)
              have e48 : tm.getD 48 undef = .int .i64 l.length := hk 48 (by kernel_rfl)
              have e49 : tm.getD 49 undef = .bool false := hk 49 (by kernel_rfl)
              have e50 : tm.getD 50 undef = u50 := hk 50 (by kernel_rfl)
              have e51 : tm.getD 51 undef = u51 := hk 51 (by kernel_rfl)
              have e52 : tm.getD 52 undef = u52 := hk 52 (by kernel_rfl)
              have e53 : tm.getD 53 undef = u53 := hk 53 (by kernel_rfl)
              have e54 : tm.getD 54 undef = u54 := hk 54 (by kernel_rfl)
              have e55 : tm.getD 55 undef = u55 := hk 55 (by kernel_rfl)
              have e56 : tm.getD 56 undef = u56 := hk 56 (by kernel_rfl)
              have e57 : tm.getD 57 undef = u57 := hk 57 (by kernel_rfl)
              have e58 : tm.getD 58 undef = u58 := hk 58 (by kernel_rfl)
              have e59 : tm.getD 59 undef = u59 := hk 59 (by kernel_rfl)
              have e60 : tm.getD 60 undef = .pointer (some ⟨rb, 0, none⟩) := hk 60 (by kernel_rfl)
              have e61 : tm.getD 61 undef = .pointer (some ⟨rb, 0, none⟩) := hk 61 (by kernel_rfl)
              have e62 : tm.getD 62 undef = .pointer (some ⟨rb, 1, none⟩) := hk 62 (by kernel_rfl)
              have e63 : tm.getD 63 undef = .slice (some ⟨g, 0, none⟩) L.length cap := hk 63 (by kernel_rfl)
              have e64 : tm.getD 64 undef = .int .i64 kx := hk 64 (by kernel_rfl)
              have e65 : tm.getD 65 undef = .slice sp (without x l).length cp := hk 65 (by kernel_rfl)
              have e66 : tm.getD 66 undef = .pointer (some { block := g, off := kx * 6 }) := hk 66 (by kernel_rfl)
              have e67 : tm.getD 67 undef = .pointer (some { block := g, off := kx * 6 + 5 }) := hk 67 (by kernel_rfl)
              have e68 : tm.getD 68 undef = .pointer (some ⟨rb, 0, none⟩) := hk 68 (by kernel_rfl)
              have e69 : tm.getD 69 undef = .int .i64 x := hk 69 (by kernel_rfl)
              have e70 : tm.getD 70 undef = .int .i64 0 := hk 70 (by kernel_rfl)
              have e71 : tm.getD 71 undef = .bool false := hk 71 (by kernel_rfl)
              have e72 : tm.getD 72 undef = .int .i64 x := hk 72 (by kernel_rfl)
              have e73 : tm.getD 73 undef = .slice (some ⟨W3.heap.size, 0, none⟩) 1 1 := hk 73 (by kernel_rfl)
              have e74 : tm.getD 74 undef = .pointer (some ⟨rb, 0, none⟩) := hk 74 (by kernel_rfl)
              have e75 : tm.getD 75 undef = .int .i64 x := hk 75 (by kernel_rfl)
              have e76 : tm.getD 76 undef = .int .i64 k := hk 76 (by kernel_rfl)
              have e77 : tm.getD 77 undef = .pointer (some ⟨rb, 0, none⟩) := hk 77 (by kernel_rfl)
              have e78 : tm.getD 78 undef = .pointer (some ⟨rb, 0, none⟩) := hk 78 (by kernel_rfl)
              have e79 : tm.getD 79 undef = .pointer (some ⟨rb, 1, none⟩) := hk 79 (by kernel_rfl)
              have e80 : tm.getD 80 undef = .slice (some ⟨gc, 0, none⟩) Lc.length cc := hk 80 (by kernel_rfl)
              have e81 : tm.getD 81 undef = .int .i64 k := hk 81 (by kernel_rfl)
              have e82 : tm.getD 82 undef = .pointer (some { block := gc, off := k * 6 }) := hk 82 (by kernel_rfl)
              have e83 : tm.getD 83 undef = .pointer (some { block := gc, off := k * 6 + 5 }) := hk 83 (by kernel_rfl)
              have e84 : tm.getD 84 undef = .slice lpk 0 lck := hk 84 (by kernel_rfl)
              have e85 : tm.getD 85 undef = .int .i64 0 := hk 85 (by kernel_rfl)
              have e86 : tm.getD 86 undef = .bool true := hk 86 (by kernel_rfl)
              have e87 : tm.getD 87 undef = u87 := hk 87 (by kernel_rfl)
              have e88 : tm.getD 88 undef = u88 := hk 88 (by kernel_rfl)
              have e89 : tm.getD 89 undef = u89 := hk 89 (by kernel_rfl)
              have e90 : tm.getD 90 undef = u90 := hk 90 (by kernel_rfl)
              have e91 : tm.getD 91 undef = u91 := hk 91 (by kernel_rfl)
              have e92 : tm.getD 92 undef = u92 := hk 92 (by kernel_rfl)
              have e93 : tm.getD 93 undef = u93 := hk 93 (by kernel_rfl)
              have e94 : tm.getD 94 undef = u94 := hk 94 (by kernel_rfl)
              have e95 : tm.getD 95 undef = u95 := hk 95 (by kernel_rfl)
              have e96 : tm.getD 96 undef = u96 := hk 96 (by kernel_rfl)
              have e97 : tm.getD 97 undef = u97 := hk 97 (by kernel_rfl)
              have e98 : tm.getD 98 undef = u98 := hk 98 (by kernel_rfl)
              have e99 : tm.getD 99 undef = u99 := hk 99 (by kernel_rfl)
              have e100 : tm.getD 100 undef = u100 := hk 100 (by kernel_rfl)
              have e101 : tm.getD 101 undef = u101 := hk 101 (by kernel_rfl)
              have e102 : tm.getD 102 undef = u102 := hk 102 (by kernel_rfl)
              have e103 : tm.getD 103 undef = u103 := hk 103 (by kernel_rfl)
              have e104 : tm.getD 104 undef = u104 := hk 104 (by kernel_rfl)
              have e105 : tm.getD 105 undef = u105 := hk 105 (by kernel_rfl)
              have e106 : tm.getD 106 undef = .pointer (some ⟨rb, 0, none⟩) := hk 106 (by kernel_rfl)
              have e107 : tm.getD 107 undef = .int .i64 x := hk 107 (by kernel_rfl)
              have e108 : tm.getD 108 undef = .int .i64 k := hk 108 (by kernel_rfl)
              have e128 : tm.getD 128 undef = undef := hk 128 (by kernel_rfl)
              have g109 : (tm.getD 109 undef) = .pointer (some ⟨rb, 0, none⟩) := hG 0 109 (by decide) rfl
              have g110 : (true = false → ET wr.heap.size ((tm.getD 110 undef)) X) := hG 1 110 (by decide) rfl
              have g111 : (tm.getD 111 undef) = .pointer (some ⟨rb, 0, none⟩) := hG 2 111 (by decide) rfl
              have g112 : (tm.getD 112 undef) = .pointer (some ⟨rb, 0, none⟩) := hG 3 112 (by decide) rfl
              have g113 : (tm.getD 113 undef) = .pointer (some ⟨rb, 1, none⟩) := hG 4 113 (by decide) rfl
              have g114 : (tm.getD 114 undef) = .slice (some ⟨gc, 0, none⟩) Lc.length cc := hG 5 114 (by decide) rfl
              have g115 : (tm.getD 115 undef) = .int .i64 k := hG 6 115 (by decide) rfl
              have g116 : (tm.getD 116 undef) = .slice (some ⟨gc, 0, none⟩) k cc := hG 7 116 (by decide) rfl
              have g117 : (true = false → OT wr.heap.size (Lc.take k) ((tm.getD 117 undef)) X) := hG 8 117 (by decide) rfl
              have g118 : (tm.getD 118 undef) = .pointer (some ⟨rb, 0, none⟩) := hG 9 118 (by decide) rfl
              have g119 : (tm.getD 119 undef) = .pointer (some ⟨rb, 0, none⟩) := hG 10 119 (by decide) rfl
              have g120 : (tm.getD 120 undef) = .pointer (some ⟨rb, 1, none⟩) := hG 11 120 (by decide) rfl
              have g121 : (tm.getD 121 undef) = .slice (some ⟨gc, 0, none⟩) Lc.length cc := hG 12 121 (by decide) rfl
              have g122 : (tm.getD 122 undef) = .int .i64 k := hG 13 122 (by decide) rfl
              have g123 : (tm.getD 123 undef) = .int .i64 ((k : Int) + 1) := hG 14 123 (by decide) rfl
              have g124 : (tm.getD 124 undef) = .slice (if cc = k + 1 then some ⟨gc, 0, none⟩ else some ⟨gc, (k + 1) * 6, none⟩) (Lc.length - (k + 1)) (cc - (k + 1)) := hG 15 124 (by decide) rfl
              have g125 : OT wr.heap.size (Lc.eraseIdx k) ((tm.getD 125 undef)) X := hG 16 125 (by decide) rfl
              have g126 : (tm.getD 126 undef) = .pointer (some ⟨rb, 0, none⟩) := hG 17 126 (by decide) rfl
              have g127 : (tm.getD 127 undef) = .pointer (some ⟨rb, 1, none⟩) := hG 18 127 (by decide) rfl
              have htm := arr_of tm ((.pointer (some ⟨rb, 0, none⟩) : Value) :: (.int .i64 i : Value) :: (.int .i64 x : Value) :: (undef : Value) :: (undef : Value) :: (undef : Value) :: (.slice none 0 0 : Value) :: (.int .i64 0 : Value) :: (.int .i64 kx : Value) :: (.int .i64 0 : Value) :: (.slice sp (without x l).length cp : Value) :: (undef : Value) :: (u12 : Value) :: (.slice (some ⟨ga, 0, none⟩) acc.length ca : Value) :: (.int .i64 k : Value) :: (u15 : Value) :: (u16 : Value) :: (.int .i64 k : Value) :: (.tuple #[.int .i64 kx, .int .i64 0] : Value) :: (.pointer (some ⟨rb, 0, none⟩) : Value) :: (.int .i64 i : Value) :: (.tuple #[.int .i64 kx, .int .i64 0] : Value) :: (.int .i64 kx : Value) :: (.int .i64 0 : Value) :: (.int .i64 0 : Value) :: (.bool false : Value) :: (undef : Value) :: (.pointer (some ⟨rb, 0, none⟩) : Value) :: (.pointer (some ⟨rb, 0, none⟩) : Value) :: (.pointer (some ⟨rb, 1, none⟩) : Value) :: (.slice (some ⟨g, 0, none⟩) L.length cap : Value) :: (.int .i64 kx : Value) :: (.pointer (some { block := g, off := kx * 6 }) : Value) :: (.pointer (some { block := g, off := kx * 6 + 5 }) : Value) :: (.slice lp l.length lc : Value) :: (.int .i64 x : Value) :: (.bool true : Value) :: (.bool false : Value) :: (.slice (some ⟨w.heap.size, 0, none⟩) 0 0 : Value) :: (.pointer (some ⟨rb, 0, none⟩) : Value) :: (.pointer (some ⟨rb, 0, none⟩) : Value) :: (.pointer (some ⟨rb, 1, none⟩) : Value) :: (.slice (some ⟨g, 0, none⟩) L.length cap : Value) :: (.int .i64 kx : Value) :: (.pointer (some { block := g, off := kx * 6 }) : Value) :: (.pointer (some { block := g, off := kx * 6 + 5 }) : Value) :: (.slice lp l.length lc : Value) :: (.int .i64 l.length : Value) :: (.int .i64 l.length : Value) :: (.bool false : Value) :: (u50 : Value) :: (u51 : Value) :: (u52 : Value) :: (u53 : Value) :: (u54 : Value) :: (u55 : Value) :: (u56 : Value) :: (u57 : Value) :: (u58 : Value) :: (u59 : Value) :: (.pointer (some ⟨rb, 0, none⟩) : Value) :: (.pointer (some ⟨rb, 0, none⟩) : Value) :: (.pointer (some ⟨rb, 1, none⟩) : Value) :: (.slice (some ⟨g, 0, none⟩) L.length cap : Value) :: (.int .i64 kx : Value) :: (.slice sp (without x l).length cp : Value) :: (.pointer (some { block := g, off := kx * 6 }) : Value) :: (.pointer (some { block := g, off := kx * 6 + 5 }) : Value) :: (.pointer (some ⟨rb, 0, none⟩) : Value) :: (.int .i64 x : Value) :: (.int .i64 0 : Value) :: (.bool false : Value) :: (.int .i64 x : Value) :: (.slice (some ⟨W3.heap.size, 0, none⟩) 1 1 : Value) :: (.pointer (some ⟨rb, 0, none⟩) : Value) :: (.int .i64 x : Value) :: (.int .i64 k : Value) :: (.pointer (some ⟨rb, 0, none⟩) : Value) :: (.pointer (some ⟨rb, 0, none⟩) : Value) :: (.pointer (some ⟨rb, 1, none⟩) : Value) :: (.slice (some ⟨gc, 0, none⟩) Lc.length cc : Value) :: (.int .i64 k : Value) :: (.pointer (some { block := gc, off := k * 6 }) : Value) :: (.pointer (some { block := gc, off := k * 6 + 5 }) : Value) :: (.slice lpk 0 lck : Value) :: (.int .i64 0 : Value) :: (.bool true : Value) :: (u87 : Value) :: (u88 : Value) :: (u89 : Value) :: (u90 : Value) :: (u91 : Value) :: (u92 : Value) :: (u93 : Value) :: (u94 : Value) :: (u95 : Value) :: (u96 : Value) :: (u97 : Value) :: (u98 : Value) :: (u99 : Value) :: (u100 : Value) :: (u101 : Value) :: (u102 : Value) :: (u103 : Value) :: (u104 : Value) :: (u105 : Value) :: (.pointer (some ⟨rb, 0, none⟩) : Value) :: (.int .i64 x : Value) :: (.int .i64 k : Value) :: (tm.getD 109 undef : Value) :: (tm.getD 110 undef : Value) :: (tm.getD 111 undef : Value) :: (tm.getD 112 undef : Value) :: (tm.getD 113 undef : Value) :: (tm.getD 114 undef : Value) :: (tm.getD 115 undef : Value) :: (tm.getD 116 undef : Value) :: (tm.getD 117 undef : Value) :: (tm.getD 118 undef : Value) :: (tm.getD 119 undef : Value) :: (tm.getD 120 undef : Value) :: (tm.getD 121 undef : Value) :: (tm.getD 122 undef : Value) :: (tm.getD 123 undef : Value) :: (tm.getD 124 undef : Value) :: (tm.getD 125 undef : Value) :: (tm.getD 126 undef : Value) :: (tm.getD 127 undef : Value) :: (undef : Value) :: []) hs (by show (tm.getD 0 undef :: tm.getD 1 undef :: tm.getD 2 undef :: tm.getD 3 undef :: tm.getD 4 undef :: tm.getD 5 undef :: tm.getD 6 undef :: tm.getD 7 undef :: tm.getD 8 undef :: tm.getD 9 undef :: tm.getD 10 undef :: tm.getD 11 undef :: tm.getD 12 undef :: tm.getD 13 undef :: tm.getD 14 undef :: tm.getD 15 undef :: tm.getD 16 undef :: tm.getD 17 undef :: tm.getD 18 undef :: tm.getD 19 undef :: tm.getD 20 undef :: tm.getD 21 undef :: tm.getD 22 undef :: tm.getD 23 undef :: tm.getD 24 undef :: tm.getD 25 undef :: tm.getD 26 undef :: tm.getD 27 undef :: tm.getD 28 undef :: tm.getD 29 undef :: tm.getD 30 undef :: tm.getD 31 undef :: tm.getD 32 undef :: tm.getD 33 undef :: tm.getD 34 undef :: tm.getD 35 undef :: tm.getD 36 undef :: tm.getD 37 undef :: tm.getD 38 undef :: tm.getD 39 undef :: tm.getD 40 undef :: tm.getD 41 undef :: tm.getD 42 undef :: tm.getD 43 undef :: tm.getD 44 undef :: tm.getD 45 undef :: tm.getD 46 undef :: tm.getD 47 undef :: tm.getD 48 undef :: tm.getD 49 undef :: tm.getD 50 undef :: tm.getD 51 undef :: tm.getD 52 undef :: tm.getD 53 undef :: tm.getD 54 undef :: tm.getD 55 undef :: tm.getD 56 undef :: tm.getD 57 undef :: tm.getD 58 undef :: tm.getD 59 undef :: tm.getD 60 undef :: tm.getD 61 undef :: tm.getD 62 undef :: tm.getD 63 undef :: tm.getD 64 undef :: tm.getD 65 undef :: tm.getD 66 undef :: tm.getD 67 undef :: tm.getD 68 undef :: tm.getD 69 undef :: tm.getD 70 undef :: tm.getD 71 undef :: tm.getD 72 undef :: tm.getD 73 undef :: tm.getD 74 undef :: tm.getD 75 undef :: tm.getD 76 undef :: tm.getD 77 undef :: tm.getD 78 undef :: tm.getD 79 undef :: tm.getD 80 undef :: tm.getD 81 undef :: tm.getD 82 undef :: tm.getD 83 undef :: tm.getD 84 undef :: tm.getD 85 undef :: tm.getD 86 undef :: tm.getD 87 undef :: tm.getD 88 undef :: tm.getD 89 undef :: tm.getD 90 undef :: tm.getD 91 undef :: tm.getD 92 undef :: tm.getD 93 undef :: tm.getD 94 undef :: tm.getD 95 undef :: tm.getD 96 undef :: tm.getD 97 undef :: tm.getD 98 undef :: tm.getD 99 undef :: tm.getD 100 undef :: tm.getD 101 undef :: tm.getD 102 undef :: tm.getD 103 undef :: tm.getD 104 undef :: tm.getD 105 undef :: tm.getD 106 undef :: tm.getD 107 undef :: tm.getD 108 undef :: tm.getD 109 undef :: tm.getD 110 undef :: tm.getD 111 undef :: tm.getD 112 undef :: tm.getD 113 undef :: tm.getD 114 undef :: tm.getD 115 undef :: tm.getD 116 undef :: tm.getD 117 undef :: tm.getD 118 undef :: tm.getD 119 undef :: tm.getD 120 undef :: tm.getD 121 undef :: tm.getD 122 undef :: tm.getD 123 undef :: tm.getD 124 undef :: tm.getD 125 undef :: tm.getD 126 undef :: tm.getD 127 undef :: tm.getD 128 undef :: []) = _; rw [e0, e1, e2, e3, e4, e5, e6, e7, e8, e9, e10, e11, e12, e13, e14, e15, e16, e17, e18, e19, e20, e21, e22, e23, e24, e25, e26, e27, e28, e29, e30, e31, e32, e33, e34, e35, e36, e37, e38, e39, e40, e41, e42, e43, e44, e45, e46, e47, e48, e49, e50, e51, e52, e53, e54, e55, e56, e57, e58, e59, e60, e61, e62, e63, e64, e65, e66, e67, e68, e69, e70, e71, e72, e73, e74, e75, e76, e77, e78, e79, e80, e81, e82, e83, e84, e85, e86, e87, e88, e89, e90, e91, e92, e93, e94, e95, e96, e97, e98, e99, e100, e101, e102, e103, e104, e105, e106, e107, e108, e128]; try rfl)
              clear hs hk hG e0 e1 e2 e3 e4 e5 e6 e7 e8 e9 e10 e11 e12 e13 e14 e15 e16 e17 e18 e19 e20 e21 e22 e23 e24 e25 e26 e27 e28 e29 e30 e31 e32 e33 e34 e35 e36 e37 e38 e39 e40 e41 e42 e43 e44 e45 e46 e47 e48 e49 e50 e51 e52 e53 e54 e55 e56 e57 e58 e59 e60 e61 e62 e63 e64 e65 e66 e67 e68 e69 e70 e71 e72 e73 e74 e75 e76 e77 e78 e79 e80 e81 e82 e83 e84 e85 e86 e87 e88 e89 e90 e91 e92 e93 e94 e95 e96 e97 e98 e99 e100 e101 e102 e103 e104 e105 e106 e107 e108 e128
              generalize tm.getD 109 undef = t109 at htm g109
              generalize tm.getD 110 undef = t110 at htm g110
              generalize tm.getD 111 undef = t111 at htm g111
              generalize tm.getD 112 undef = t112 at htm g112
              generalize tm.getD 113 undef = t113 at htm g113
              generalize tm.getD 114 undef = t114 at htm g114
              generalize tm.getD 115 undef = t115 at htm g115
              generalize tm.getD 116 undef = t116 at htm g116
              generalize tm.getD 117 undef = t117 at htm g117
              generalize tm.getD 118 undef = t118 at htm g118
              generalize tm.getD 119 undef = t119 at htm g119
              generalize tm.getD 120 undef = t120 at htm g120
              generalize tm.getD 121 undef = t121 at htm g121
              generalize tm.getD 122 undef = t122 at htm g122
              generalize tm.getD 123 undef = t123 at htm g123
              generalize tm.getD 124 undef = t124 at htm g124
              generalize tm.getD 125 undef = t125 at htm g125
              generalize tm.getD 126 undef = t126 at htm g126
              generalize tm.getD 127 undef = t127 at htm g127
              subst htm
              subst g109
              subst g111
              subst g112
              subst g113
              subst g114
              subst g115
              subst g116
              subst g118
              subst g119
              subst g120
              subst g121
              subst g122
              subst g123
              subst g124
              subst g126
              subst g127
              simp only [List.drop_succ_cons, List.drop_zero]
              have hrow0 := HL.out.row
              have hkx := HL.out.hk
              obtain ⟨g9, c9, cs9, hv9, r9, f9⟩ := H5.out.shrink hB g125
              have hX := H5.out.below hB
              have y1 : X.cell? ⟨rb, 1, none⟩ = some (.slice (some ⟨gc, 0, none⟩) Lc.length cc) := hX.hd.2
              have y2 : X.frozen? ⟨rb, 1, none⟩ = false := by simp [World.frozen?, hX.tab]
              have HR9 := Lib.hid r9
              have HF9 := Lib.hid f9
              have HBX := Lib.hid hB
              clear r9 f9 hX g110 g117 g125
              subst hv9
              go_wp2_with fail
              all_goals
                go_ret2
                have hga : ga ≠ rb := fun e => H5.out.frb (.inr e.symm)
                have hgl := (hrow0.lt ga rfl).2
                have row9 : (X.setCell ⟨rb, 1, none⟩ (.slice (some ⟨g9, 0, none⟩) (Lc.eraseIdx k).length c9)).ownsRow w.heap.size 3 1 (.slice (some ⟨ga, 0, none⟩) acc.length ca) acc.length (ivs acc) := row_same hrow0 (fun j hj => by
                  simp [Value.ownBlock] at hj
                  subst hj
                  rw [heap_ne _ _ _ hga]
                  exact HBX.out.block ga hgl)
                refine ⟨some ⟨ga, 0, none⟩, ⟨ca, rfl⟩, row_ints row9, g9, c9, cs9, Lc.eraseIdx k, HR9.out.weaken (fun j hj => .inl hj), HL.out.rel.gone H5.out.nd hkx HL.out.id, fun t ht => HL.out.nd t (mem_eraseIdx' ht), fun u hu hD => ?_, fun t ht => ?_, HL.out.fm.tr HF9.out⟩
                · obtain ⟨t1, ht1, e1, e2⟩ := H01.out u hu
                  obtain ⟨t2, ht2, e3, e4⟩ := HL.out.d1 t1 ht1 (by rw [e1]; exact hD)
                  refine ⟨t2, ?_, e3.trans e1, e4.trans e2⟩
                  obtain ⟨j, hj, rfl⟩ := List.getElem_of_mem ht2
                  have hjk : j ≠ k := fun e => by
                    subst e
                    have := HL.out.id
                    rw [this] at e3
                    rw [← e1, ← e3] at hD
                    exact HL.out.xd hD
                  rw [List.mem_eraseIdx_iff_getElem]
                  exact ⟨j, hj, hjk, rfl⟩
                · obtain ⟨u1, hu1, e1⟩ := HL.out.d2 t (mem_eraseIdx' ht)
                  obtain ⟨u2, hu2, e2⟩ := H10.out u1 hu1
                  exact ⟨u2, hu2, e2.trans e1⟩
theorem rDrop_any (rb : Nat) (root : Int) : ∀ n, DropOk rb root n
  | 0 => fun F w g cap cs L S K D P i x kx S' g' h hk ei hk1 hx hrel hnd hbal hP hKn hK4 hgd hlo => by cases hlo
  | n + 1 => rDrop_step (rDrop_any rb root n)
end Go.Proofs.Ytebcnlhgkpaghaa

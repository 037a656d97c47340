/- A table of objects, without where they lie: what the calls of package hold do with it. -/
import Derived.Test.YtebcnlhgkpaghaaLives
import Derived.Test.YtebcnlhgkpaghaaInfo
namespace Go.Proofs.Ytebcnlhgkpaghaa
open Go.RowKit Go.Sort
abbrev Abs := Int → Option Ob
def V (T : Tab) (S : Abs) : Prop := ∀ k, (T k).map (·.ob) = S k
def updS (S : Abs) (i : Int) (o : Ob) : Abs := fun k => if k = i then some o else S k
def delS (S : Abs) (i : Int) : Abs := fun k => if k = i then none else S k
def decO (o : Ob) : Ob := { o with links := o.links - 1 }
def foldS (f : Abs → Int → List Int → Option (Abs × List Int)) : List Int → Abs → List Int → Option (Abs × List Int)
  | [], S, g => some (S, g)
  | x :: l, S, g => match f S x g with
    | none => none
    | some p => foldS f l p.1 p.2
/-- What is left, and what is gone, when an object loses a link. -/
def loosS : Nat → Abs → Int → List Int → Option (Abs × List Int)
  | 0, _, _, _ => none
  | n + 1, S, i, gone => match S i with
    | none => none
    | some o => if 1 < o.links then some (updS S i (decO o), gone) else foldS (loosS n) o.ents (delS S i) (gone ++ [i])
def dropO (o : Ob) (q x : Int) : Ob := { o with ents := without x o.ents, used := o.used - q }
def GoodS (S : Abs) : Prop := ∀ k o, S k = some o → i64 k ∧ (∀ x ∈ o.ents, i64 x) ∧ o.ents.length < 1000000 ∧ 1 ≤ o.links ∧ o.links < 1000000
theorem V.some {T : Tab} {S : Abs} (h : V T S) {k : Int} {o : Ob} (hs : S k = some o) : ∃ r, T k = some r ∧ r.ob = o := by
  have := h k
  rw [hs] at this
  cases hT : T k with
  | none => rw [hT] at this; cases this
  | some r => rw [hT] at this; exact ⟨r, rfl, by simpa using this⟩
theorem V.none {T : Tab} {S : Abs} (h : V T S) {k : Int} (hs : S k = none) : T k = none := by
  have := h k
  rw [hs] at this
  cases hT : T k with
  | none => rfl
  | some r => rw [hT] at this; cases this
theorem V.upd {T : Tab} {S : Abs} (h : V T S) (i : Int) (r : Rc) {o : Ob} (ho : r.ob = o) : V (upd T i r) (updS S i o) := fun k => by
  unfold Ytebcnlhgkpaghaa.upd updS
  split
  · rw [← ho]; rfl
  · exact h k
theorem V.del {T : Tab} {S : Abs} (h : V T S) (i : Int) : V (del T i) (delS S i) := fun k => by
  unfold Ytebcnlhgkpaghaa.del delS
  split
  · rfl
  · exact h k
theorem V.good {T : Tab} {S : Abs} (h : V T S) (hg : GoodS S) : GoodT T := fun k r hr => by
  have := h k
  rw [hr] at this
  exact hg k r.ob this.symm
theorem foldF_V {f : Tab → Int → List Int → Option (Tab × List Int)} {g : Abs → Int → List Int → Option (Abs × List Int)} (hfg : ∀ T S i l S' l', V T S → g S i l = some (S', l') → ∃ T', f T i l = some (T', l') ∧ V T' S') :
    ∀ (l : List Int) (T : Tab) (S : Abs) (a : List Int) (S' : Abs) (a' : List Int), V T S → foldS g l S a = some (S', a') → ∃ T', foldF f l T a = some (T', a') ∧ V T' S'
  | [], T, S, a, S', a', h, e => by
    unfold foldS at e
    cases e
    exact ⟨T, rfl, h⟩
  | x :: l, T, S, a, S', a', h, e => by
    unfold foldS at e
    cases hx : g S x a with
    | none => rw [hx] at e; cases e
    | some p =>
      rw [hx] at e
      obtain ⟨T1, h1, h2⟩ := hfg T S x a p.1 p.2 h hx
      obtain ⟨T2, h3, h4⟩ := foldF_V hfg l T1 p.1 p.2 S' a' h2 e
      exact ⟨T2, by unfold foldF; rw [h1]; exact h3, h4⟩
theorem loosF_V : ∀ (n : Nat) (T : Tab) (S : Abs) (i : Int) (g : List Int) (S' : Abs) (g' : List Int), V T S → loosS n S i g = some (S', g') → ∃ T', loosF n T i g = some (T', g') ∧ V T' S'
  | 0, _, _, _, _, _, _, _, e => by cases e
  | n + 1, T, S, i, g, S', g', h, e => by
    unfold loosS at e
    cases hS : S i with
    | none => rw [hS] at e; cases e
    | some o =>
      rw [hS] at e
      obtain ⟨r, hr, ho⟩ := h.some hS
      unfold loosF
      rw [hr]
      simp only at e ⊢
      rw [ho]
      split
      · rename_i hl
        rw [if_pos hl] at e
        cases e
        exact ⟨_, rfl, h.upd i _ (by rw [← ho]; rfl)⟩
      · rename_i hl
        rw [if_neg hl] at e
        exact foldF_V (loosF_V n) _ _ _ _ _ _ (h.del i) e
/-- The table S lies at tb, in the blocks F; it has N objects. -/
def HAt (w : World) (base tb mb : Nat) (F : Nat → Prop) (N : Nat) (S : Abs) : Prop := ∃ D T, TAt w base tb mb D T ∧ V T S ∧ Maps.size D = N ∧ tfoot tb mb T = F
theorem HAt.same {w w' : World} {base tb mb N : Nat} {F : Nat → Prop} {S : Abs} (h : HAt w base tb mb F N S) (hs : ∀ k, F k → w'.heap[k]? = w.heap[k]?) : HAt w' base tb mb F N S := by
  obtain ⟨D, T, h1, h2, h3, rfl⟩ := h
  exact ⟨D, T, h1.same hs, h2, h3, rfl⟩
theorem HAt.lt {w : World} {base tb mb N : Nat} {F : Nat → Prop} {S : Abs} (h : HAt w base tb mb F N S) {k : Nat} (hk : F k) : base ≤ k ∧ k < w.heap.size := by
  obtain ⟨D, T, h1, h2, h3, rfl⟩ := h
  exact h1.lt hk
theorem HAt.below {w w' : World} {base tb mb N : Nat} {F : Nat → Prop} {S : Abs} (h : HAt w base tb mb F N S) (hb : Below w.heap.size w w') : HAt w' base tb mb F N S := h.same (fun k hk => hb.block k (h.lt hk).2)
theorem HAt.belowF {w w' : World} {base tb mb N : Nat} {F F' : Nat → Prop} {S : Abs} (h : HAt w base tb mb F N S) (hF : Fm w w' F F') : Below base w w' := by
  obtain ⟨D, T, h1, h2, h3, rfl⟩ := h
  exact h1.belowF hF
theorem newA (root : Int) (w : World) (hi : isCt root = true) :
    Calls Try.prog 5 #[.int .i64 root, .agg #[.int .i64 2, .slice none 0 0]] w fun e w' => ∃ tb mb F, e = .returned (.pointer (some ⟨tb, 0, none⟩)) ∧ HAt w' w.heap.size tb mb F 1 (updS (fun _ => none) root (root0 root 2 [])) ∧ Below w.heap.size w w' := by
  refine (New_any root 2 none 0 [] w (by simp) (cats0 w) hi (by decide)).mono ?_
  rintro e w' ⟨tb, mb, D, r, rfl, h1, h2, h3, h4⟩
  refine ⟨tb, mb, _, rfl, ⟨D, T0 root r, h1, fun k => ?_, h3, rfl⟩, h4⟩
  unfold T0 updS
  split
  · rw [← h2]; rfl
  · rfl
theorem makeA {w : World} {base tb mb N : Nat} {F : Nat → Prop} {S : Abs} (h : HAt w base tb mb F N S) (i id kind quota : Int) (o : Ob) (hi : i64 i) (hT : S i = some o) (hk : o.kind = 1) (hkd : 1 ≤ kind ∧ kind ≤ 6) (hq : 1 ≤ quota ∧ quota ≤ 1099511627776)
    (hf : fitsS 2 (low kind) [] = true) (hid : isCt id = true) (hno : S id = none) (hsz : N < 4096) (hqr : quota ≤ o.quota - o.used) (hu : 0 ≤ o.used) (hqq : o.quota ≤ 1099511627776) (hn : o.ents.length < 1000000) :
    Calls Try.prog 10 #[.pointer (some ⟨tb, 0, none⟩), .int .i64 i, .int .i64 id, .int .i64 kind, .int .i64 quota, .agg #[.int .i64 2, .slice none 0 0]] w fun e w' =>
      e = .returned (.int .i64 0) ∧ ∃ F', HAt w' base tb mb F' (N + 1) (updS (updS S i { o with used := o.used + quota, ents := o.ents ++ [id] }) id (newOb id kind quota 2 [])) ∧ Fm w w' F F' := by
  obtain ⟨D, T, h1, h2, rfl, rfl⟩ := h
  obtain ⟨r, hr, rfl⟩ := h2.some hT
  refine (Make_ok h1 i id kind quota 2 none 0 [] r (by simp) (cats0 w) hi hr hk hkd hq hf hid (h2.none hno) hsz hqr hu hqq hn).mono ?_
  rintro e w' ⟨rfl, D', r', s', a1, a2, a3, a4, a5⟩
  exact ⟨rfl, _, ⟨D', _, a1, (h2.upd i r' a2).upd id s' a3, a4, rfl⟩, a5⟩
theorem linkA {w : World} {base tb mb N : Nat} {F : Nat → Prop} {S : Abs} (h : HAt w base tb mb F N S) (i x : Int) (o p : Ob) (hi : i64 i) (hx : i64 x) (hT : S i = some o) (hS : S x = some p) (hix : i ≠ x) (hk : o.kind = 1) (hsk : p.kind = 2) (hpi : p.id = x) (hn : o.ents.length < 1000000) (hc : o.ents.contains x = false)
    (hq : p.quota ≤ o.quota - o.used) (hu : 0 ≤ o.used) (hqq : o.quota ≤ 1099511627776) (hq0 : 0 ≤ p.quota) (hl : 0 ≤ p.links ∧ p.links ≤ 1000000) :
    Calls Try.prog 11 #[.pointer (some ⟨tb, 0, none⟩), .int .i64 i, .int .i64 x] w fun e w' => e = .returned (.int .i64 0) ∧ ∃ F', HAt w' base tb mb F' N (updS (updS S i { o with used := o.used + p.quota, ents := o.ents ++ [x] }) x { p with links := p.links + 1 }) ∧ Fm w w' F F' := by
  obtain ⟨D, T, h1, h2, rfl, rfl⟩ := h
  obtain ⟨r, hr, rfl⟩ := h2.some hT
  obtain ⟨s, hs, rfl⟩ := h2.some hS
  refine (Link_ok h1 i x hi hx r s hr hs hix hk hsk hn hc hq hu hqq hq0 hl).mono ?_
  rintro e w' ⟨rfl, iv, a1, a2⟩
  exact ⟨rfl, _, ⟨D, _, a1, (h2.upd i _ (by rw [← hpi]; rfl)).upd x _ rfl, rfl, rfl⟩, a2⟩
set_option maxRecDepth 100000 in
set_option maxHeartbeats 1000000 in
theorem link_arg {w : World} {base tb mb N : Nat} {F : Nat → Prop} {S : Abs} (h : HAt w base tb mb F N S) (i x : Int) (o p : Ob) (hi : i64 i) (hx : i64 x) (hT : S i = some o) (hS : S x = some p) (hk : o.kind = 1) (hsk : p.kind = 2) (hn : o.ents.length < 1000000) (hc : o.ents.contains x = true) :
    Calls Try.prog 11 #[.pointer (some ⟨tb, 0, none⟩), .int .i64 i, .int .i64 x] w fun e w' => e = .returned (.int .i64 1) ∧ Below w.heap.size w w' := by
  obtain ⟨D, T, h, h2, rfl, rfl⟩ := h
  obtain ⟨r, hr, rfl⟩ := h2.some hT
  obtain ⟨s, hs, rfl⟩ := h2.some hS
  have H1 := find_any h i hi
  have H2 := find_any h x hx
  rw [show fnd T i = .pointer (some ⟨r.B, 0, none⟩) from by unfold fnd; rw [hr]; rfl] at H1
  rw [show fnd T x = .pointer (some ⟨s.B, 0, none⟩) from by unfold fnd; rw [hs]; rfl] at H2
  have H3 := has_any (h.obj i r hr).1 x hn
  rw [hc] at H3
  have HH1 := Lib.hid H1
  have HH2 := Lib.hid H2
  have HH3 := Lib.hid H3
  have ro := (h.obj i r hr).1
  have so := (h.obj x s hs).1
  have k1 : ∀ q, (w.drewN q).cell? ⟨r.B, 1, none⟩ = some (.int .i64 1) := fun q => show w.cell? _ = _ by rw [← hk]; simp [World.cell?, ro.blk, cellsR]
  have k2 : ∀ q, (w.drewN q).cell? ⟨s.B, 1, none⟩ = some (.int .i64 2) := fun q => show w.cell? _ = _ by rw [← hsk]; simp [World.cell?, so.blk, cellsR]
  have l1 : w.cell? ⟨r.B, 1, none⟩ = some (.int .i64 1) := k1 0
  have l2 : w.cell? ⟨s.B, 1, none⟩ = some (.int .i64 2) := k2 0
  have hb : ∀ q, RowKit.Below w.heap.size w (w.drewN q) := fun q => ⟨rfl, rfl, rfl, Nat.le_refl _, fun _ _ => rfl⟩
  clear h H1 H2 H3 ro so
  go_enter Try.func11, Try.ntmps11
  go_wp2_with (first
    | (go_at_call 39; refine HH1.out.mono ?_; rintro e w1 ⟨rfl, hw1⟩; rw [hw1]; clear hw1 w1; refine Hid.out ?_))
  refine Lib.hid ?_
  go_wp2_with (first
    | (go_at_call 39; refine HH2.out.mono ?_; rintro e w1 ⟨rfl, hw1⟩; rw [hw1]; clear hw1 w1)
    | (go_at_call 42; refine HH3.out.mono ?_; rintro e w1 ⟨rfl, hw1⟩; rw [hw1]; clear hw1 w1))
  go_ret
  exact ⟨rfl, Below.refl _ _⟩
theorem dropA {w : World} {base tb mb N : Nat} {F : Nat → Prop} {S : Abs} (h : HAt w base tb mb F N S) (i x : Int) (o p : Ob) (hi : i64 i) (hx : i64 x) (hT : S i = some o) (hS : S x = some p) (hix : i ≠ x) (hk : o.kind = 1) (hc : o.ents.contains x = true) (hg : GoodS S) (hsz : N < 1000000) (hu : i64 (o.used - p.quota))
    (n : Nat) (S' : Abs) (gone : List Int) (hF : loosS n (updS S i (dropO o p.quota x)) x [] = some (S', gone)) :
    Calls Try.prog 12 #[.pointer (some ⟨tb, 0, none⟩), .int .i64 i, .int .i64 x] w fun e w' => ∃ gv F' N', e = .returned (.tuple #[gv, .int .i64 0]) ∧ HAt w' base tb mb F' N' S' ∧ w'.ownsRow w.heap.size 3 1 gv gone.length (ivs gone) ∧ gone.length + N' = N ∧ (∀ k, F' k → F k) ∧ Fm w w' F F' := by
  obtain ⟨D, T, h1, h2, rfl, rfl⟩ := h
  obtain ⟨r, hr, rfl⟩ := h2.some hT
  obtain ⟨s, hs, rfl⟩ := h2.some hS
  have hV : ∀ iv, V (upd T i (dropR r s x iv)) (updS S i (dropO r.ob s.ob.quota x)) := fun iv => h2.upd i _ rfl
  refine (Drop_ok h1 i x hi hx r s hr hs hix hk hc (h2.good hg) hsz hu n (fun iv => ?_)).mono ?_
  · obtain ⟨T', h3, _⟩ := loosF_V n _ _ x [] S' gone (hV iv) hF
    exact ⟨_, h3⟩
  · rintro e w' ⟨iv, T', gone', gv, D', a1, rfl, a3, a4, a5, a6, a7, a8⟩
    obtain ⟨T2, h3, h4⟩ := loosF_V n _ _ x [] S' gone (hV iv) hF
    rw [a1] at h3
    cases h3
    exact ⟨gv, _, _, rfl, ⟨D', T', a3, h4, rfl, rfl⟩, a4, a5, a6, ⟨a8.os, a8.tape, a8.output, a8.size, a8.same, fun k hk => .inl (a6 k hk)⟩⟩
theorem infoA {w : World} {base tb mb N : Nat} {F : Nat → Prop} {S : Abs} (h : HAt w base tb mb F N S) (x : Int) (hx : i64 x) (o : Ob) (hT : S x = some o) (hm : o.cats = []) :
    Calls Try.prog 28 #[.pointer (some ⟨tb, 0, none⟩), .int .i64 x] w fun e w' => ∃ sp c, e = .returned (.tuple #[.agg #[.int .i64 o.id, .int .i64 o.kind, .int .i64 o.quota, .int .i64 o.used, .int .i64 o.links, .int .i64 o.df, .slice sp 0 c], .bool true]) ∧ Below w.heap.size w w' := by
  obtain ⟨D, T, h1, h2, rfl, rfl⟩ := h
  obtain ⟨r, hr, rfl⟩ := h2.some hT
  refine (Info_any h1 x hx r hr (by rw [hm]; simp)).mono ?_
  rintro e w' ⟨v, rfl, ⟨sp, c, rfl, _⟩, hb⟩
  rw [hm] at *
  exact ⟨sp, c, rfl, hb⟩
theorem infoN {w : World} {base tb mb N : Nat} {F : Nat → Prop} {S : Abs} (h : HAt w base tb mb F N S) (x : Int) (hx : i64 x) (hT : S x = none) :
    Calls Try.prog 28 #[.pointer (some ⟨tb, 0, none⟩), .int .i64 x] w fun e w' => e = .returned (.tuple #[.agg #[.int .i64 0, .int .i64 0, .int .i64 0, .int .i64 0, .int .i64 0, .int .i64 0, .slice none 0 0], .bool false]) ∧ Below w.heap.size w w' := by
  obtain ⟨D, T, h1, h2, rfl, rfl⟩ := h
  have hW : Below w.heap.size w (w.alloc (.cells #[.int .i64 0, .int .i64 0, .int .i64 0, .int .i64 0, .int .i64 0, .int .i64 0, .slice none 0 0] 50)) := by go_grown
  have HF := find_any (h1.below hW) x hx
  rw [show fnd T x = .pointer none from by unfold fnd; rw [h2.none hT]; rfl] at HF
  have HF1 := Lib.hid HF
  clear HF h1
  go_enter Try.func28, Try.ntmps28
  go_wp2_with (first
    | (go_at_call 39; refine HF1.out.mono ?_; rintro e w1 ⟨rfl, hw1⟩; rw [hw1]; clear hw1 w1))
  refine bodyPost_ret (by simp [results, Try.results28, go_sem]) rfl ⟨rfl, hW⟩
end Go.Proofs.Ytebcnlhgkpaghaa

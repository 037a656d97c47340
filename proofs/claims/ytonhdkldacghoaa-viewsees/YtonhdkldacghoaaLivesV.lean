/- The chapter's example: the law's own small dump (lives). -/
import Derived.Test.YtonhdkldacghoaaVis
namespace Go.Proofs.Ytonhdkldacghoaa
open Go.RowKit Go.Sort Go.Shelf

def obsC : List Ob → List Value
  | [] => []
  | o :: l => o.cl ++ obsC l
theorem Ob.clen {o : Ob} (h : o.st.length = 17) : o.cl.length = 38 := by simp [Ob.cl, Ob.hd, Ob.tl, h]
theorem obsC_len : ∀ {l : List Ob}, (∀ o ∈ l, o.st.length = 17) → (obsC l).length = l.length * 38
  | [], _ => rfl
  | o :: l, h => by
    rw [obsC, List.length_append, Ob.clen (h o (List.mem_cons_self ..)), obsC_len (fun x hx => h x (List.mem_cons_of_mem _ hx)), List.length_cons]; omega
theorem obsC_get : ∀ {l : List Ob} (_ : ∀ o ∈ l, o.st.length = 17) (k : Nat) (hk : k < l.length) (f : Nat) (_ : f < 38), (obsC l)[k * 38 + f]? = (l[k]).cl[f]?
  | [], _, _, hk, _, _ => by simp at hk
  | o :: l, h, 0, _, f, hf => by
    rw [obsC, Nat.zero_mul, Nat.zero_add, List.getElem?_append_left (by rw [Ob.clen (h o (List.mem_cons_self ..))]; exact hf)]; rfl
  | o :: l, h, k + 1, hk, f, hf => by
    rw [obsC, List.getElem?_append_right (by rw [Ob.clen (h o (List.mem_cons_self ..))]; omega), Ob.clen (h o (List.mem_cons_self ..))]
    have e : (k + 1) * 38 + f - 38 = k * 38 + f := by omega
    rw [e, obsC_get (fun x hx => h x (List.mem_cons_of_mem _ hx)) k (by simpa using hk) f hf]; rfl
theorem ob_of_row {w : World} {b : Nat} {l : List Ob} {t : TypeId} {fr : Nat × Nat} (hH : w.heap[b]? = some (.cells (obsC l).toArray t fr)) (hs : ∀ o ∈ l, o.st.length = 17) (k : Nat) (hk : k < l.length) : ObAt w b (0 + k * 38) l[k] := by
  intro f u hu
  have hf : f < 38 := by
    have := (Array.getElem?_eq_some_iff.1 hu).1
    rwa [Ob.size (hs _ (List.getElem_mem _))] at this
  rw [Nat.zero_add, cell_of_row w b _ _ t fr hH, List.getElem?_toArray, obsC_get hs k hk f hf]
  simpa [Ob.cs] using hu

def lab0 (d : Int) : Lab := ⟨d, none, 0, []⟩
def zOb (id kind : Int) (L : Lab) (lp : Option Addr) (lc : Nat) (ls : List Int) : Ob := ⟨id, kind, 0, 0, 0, L, lp, lc, ls, ⟨#[]⟩, none, 0, [], lab0 0, 0, 0, List.replicate 17 0, 0, 0, 0, 0, none, 0, [], ⟨#[]⟩, ⟨#[]⟩⟩
def lv1 (N : Nat) : Ob := zOb 1 1 (lab0 2) (some ⟨N + 1 + 1 + 1 + 1, 0, none⟩) 2 [2, 3]
def lv2 : Ob := zOb 2 2 (lab0 2) none 0 []
def lv3 (N : Nat) : Ob := zOb 3 2 ⟨2, some ⟨N + 1 + 1, 0, none⟩, 1, [(20, 4)]⟩ none 0 []
def lvD (N : Nat) : List Ob := [lv1 N, lv2, lv3 N]
structure LW (w W : World) : Prop where
  sz : w.heap.size + 6 ≤ W.heap.size
  bel : Below w.heap.size w W
  a0 : W.cell? ⟨w.heap.size, 0, none⟩ = some (.int .i64 2)
  a1 : W.cell? ⟨w.heap.size, 1, none⟩ = some (.slice none 0 0)
  b0 : W.cell? ⟨w.heap.size + 1, 0, none⟩ = some (.int .i64 4)
  b1 : W.cell? ⟨w.heap.size + 1, 1, none⟩ = some (.slice none 0 0)
  c0 : W.cell? ⟨w.heap.size + 1 + 1, 0, none⟩ = some (.int .i64 20)
  c1 : W.cell? ⟨w.heap.size + 1 + 1, 1, none⟩ = some (.int .i64 4)
  e0 : W.cell? ⟨w.heap.size + 1 + 1 + 1 + 1, 0, none⟩ = some (.int .i64 2)
  e1 : W.cell? ⟨w.heap.size + 1 + 1 + 1 + 1, 1, none⟩ = some (.int .i64 3)
  row : W.heap[w.heap.size + 1 + 1 + 1 + 1 + 1]? = some (.cells (obsC (lvD w.heap.size)).toArray 42 (0, 0))
theorem LW.intro {w W0 : World} {Q : World → Prop} (h : LW w W0) (k : ∀ W, LW w W → Q W) : Q W0 := k W0 h
theorem LW.below {w W W' : World} (h : LW w W) (hb : Below W.heap.size W W') : LW w W' := by
  have hs := h.sz
  have hz := hb.size
  exact ⟨by omega, h.bel.trans (hb.mono h.bel.size), (hb.cell (p := ⟨w.heap.size, 0, none⟩) (by simp; omega)).trans h.a0, (hb.cell (p := ⟨w.heap.size, 1, none⟩) (by simp; omega)).trans h.a1, (hb.cell (p := ⟨w.heap.size + 1, 0, none⟩) (by simp; omega)).trans h.b0, (hb.cell (p := ⟨w.heap.size + 1, 1, none⟩) (by simp; omega)).trans h.b1, (hb.cell (p := ⟨w.heap.size + 1 + 1, 0, none⟩) (by simp; omega)).trans h.c0, (hb.cell (p := ⟨w.heap.size + 1 + 1, 1, none⟩) (by simp; omega)).trans h.c1, (hb.cell (p := ⟨w.heap.size + 1 + 1 + 1 + 1, 0, none⟩) (by simp; omega)).trans h.e0, (hb.cell (p := ⟨w.heap.size + 1 + 1 + 1 + 1, 1, none⟩) (by simp; omega)).trans h.e1, (hb.block _ (by omega)).trans h.row⟩
theorem LW.obs {w W : World} (h : LW w W) : ObsAt W (some ⟨w.heap.size + 1 + 1 + 1 + 1 + 1, 0, none⟩) (lvD w.heap.size) := by
  have hs := h.sz
  intro k hk
  refine ⟨_, 0, rfl, by omega, ob_of_row h.row (by simp [lvD, lv1, lv2, lv3, zOb]) k hk, ?_⟩
  have hnil : ∀ {W : World} {p : Option Addr}, IntsAt W p [] := fun k hk => by simp at hk
  have hcn : ∀ {W : World} {p : Option Addr}, CatsAt W p [] := fun k hk => by simp at hk
  have hmn : ∀ {W : World} {p : Option Addr}, MsAt W p [] := fun k hk => by simp at hk
  match k, hk with
  | 0, _ =>
    refine ⟨rfl, hcn, by simp [lvD, lv1, lv2, lv3, zOb, lab0, maxLen], ?_, by simp [lvD, lv1, lv2, lv3, zOb, lab0, maxLen], hmn, by simp [lvD, lv1, lv2, lv3, zOb, lab0, maxLen], hcn, by simp [lvD, lv1, lv2, lv3, zOb, lab0, maxLen], hnil, by simp [lvD, lv1, lv2, lv3, zOb, lab0, maxLen], by simp [lvD, lv1, lv2, lv3, zOb, i64], by simp [lvD, lv1, lv2, lv3, zOb, i64], by simp [lvD, lv1, lv2, lv3, zOb, lab0], by simp [lvD, lv1, lv2, lv3, zOb, lab0]⟩
    intro j hj
    match j, hj with
    | 0, _ => exact ⟨_, 0, rfl, by omega, h.e0⟩
    | 1, _ => exact ⟨_, 0, rfl, by omega, h.e1⟩
  | 1, _ => exact ⟨rfl, hcn, by simp [lvD, lv1, lv2, lv3, zOb, lab0, maxLen], hnil, by simp [lvD, lv1, lv2, lv3, zOb, lab0, maxLen], hmn, by simp [lvD, lv1, lv2, lv3, zOb, lab0, maxLen], hcn, by simp [lvD, lv1, lv2, lv3, zOb, lab0, maxLen], hnil, by simp [lvD, lv1, lv2, lv3, zOb, lab0, maxLen], by simp [lvD, lv1, lv2, lv3, zOb, i64], by simp [lvD, lv1, lv2, lv3, zOb, i64], by simp [lvD, lv1, lv2, lv3, zOb, lab0], by simp [lvD, lv1, lv2, lv3, zOb, lab0]⟩
  | 2, _ =>
    refine ⟨rfl, ?_, by simp [lvD, lv1, lv2, lv3, zOb, lab0, maxLen], hnil, by simp [lvD, lv1, lv2, lv3, zOb, lab0, maxLen], hmn, by simp [lvD, lv1, lv2, lv3, zOb, lab0, maxLen], hcn, by simp [lvD, lv1, lv2, lv3, zOb, lab0, maxLen], hnil, by simp [lvD, lv1, lv2, lv3, zOb, lab0, maxLen], by simp [lvD, lv1, lv2, lv3, zOb, i64], by simp [lvD, lv1, lv2, lv3, zOb, i64], by simp [lvD, lv1, lv2, lv3, zOb, lab0], by simp [lvD, lv1, lv2, lv3, zOb, lab0]⟩
    intro j hj
    match j, hj with
    | 0, _ => exact ⟨_, 0, rfl, by omega, h.c0, h.c1⟩
theorem lvD_few (N : Nat) : Few (lvD N) := ⟨by simp [lvD], by simp [lvD, lv1, lv2, lv3, zOb]⟩
/-- For {1}: the root and the first segment. -/
theorem lv_one {N : Nat} {vs : List Int} (h : VisOk (lvD N) (lab0 2) 1 vs) : vs = [1, 2] := by
  refine h.eq ⟨by simp, fun x => ?_⟩
  have l1 : lk (lvD N) 1 = some (lv1 N) := rfl
  have l2 : lk (lvD N) 2 = some lv2 := rfl
  have l3 : lk (lvD N) 3 = some (lv3 N) := rfl
  have r1 : Reach (lvD N) (lab0 2) 1 1 := .root l1 rfl
  have r2 : Reach (lvD N) (lab0 2) 1 2 := .step r1 l1 rfl (by simp [lv1, zOb]) l2 rfl
  constructor
  · intro hx
    simp at hx
    rcases hx with rfl | rfl
    · exact r1
    · exact r2
  · intro hx
    cases hx with
    | root _ _ => simp
    | step hy hl hk hxl hlx hlo =>
      have hy2 : ∀ {y : Int} {oy : Ob}, lk (lvD N) y = some oy → oy.kind = 1 → oy = lv1 N := by
        intro y oy hl hk
        have hm := List.mem_of_find?_eq_some hl
        simp only [lvD, List.mem_cons, List.not_mem_nil, or_false] at hm
        rcases hm with rfl | rfl | rfl
        · rfl
        · cases hk
        · cases hk
      rw [hy2 hl hk] at hxl
      have : x = 2 ∨ x = 3 := by simpa [lv1, zOb] using hxl
      rcases this with rfl | rfl
      · simp
      · rw [l3] at hlx
        cases hlx
        have : lowB (lab0 2) (lv3 N) = false := rfl
        rw [this] at hlo; cases hlo
theorem lv_three {N : Nat} {vs : List Int} (h : VisOk (lvD N) (lab0 4) 1 vs) : vs = [1, 2, 3] := by
  refine h.eq ⟨by simp, fun x => ?_⟩
  have l1 : lk (lvD N) 1 = some (lv1 N) := rfl
  have l2 : lk (lvD N) 2 = some lv2 := rfl
  have l3 : lk (lvD N) 3 = some (lv3 N) := rfl
  have r1 : Reach (lvD N) (lab0 4) 1 1 := .root l1 rfl
  constructor
  · intro hx
    simp at hx
    rcases hx with rfl | rfl | rfl
    · exact r1
    · exact .step r1 l1 rfl (by simp [lv1, zOb]) l2 rfl
    · exact .step r1 l1 rfl (by simp [lv1, zOb]) l3 rfl
  · intro hx
    obtain ⟨o, ho, _⟩ := hx.low
    have hm := List.mem_of_find?_eq_some ho
    have hid := List.find?_some ho
    simp only [lvD, List.mem_cons, List.not_mem_nil, or_false] at hm
    rcases hm with rfl | rfl | rfl <;> simp [lv1, lv2, lv3, zOb] at hid <;> subst hid <;> simp
end Go.Proofs.Ytonhdkldacghoaa

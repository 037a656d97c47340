/- What Named of the reference answers: the categories of some labels, rising, each once. -/
import Derived.Test.YtfpjeclbilhgdaaDoorSame
import Derived.Lib.Hide
import Derived.Lib.SmallJoins
namespace Go.Proofs.YtfpjeclbilhgdaaDoor
open Go.RowKit Go.Sort

def icells (cs : List Int) : List Value := cs.map fun c => .int .i64 c
theorem icells_append (a b : List Int) : icells (a ++ b) = icells a ++ icells b := by simp [icells]
theorem icells_one (a : List Int) : ∀ u ∈ icells a, u.oneCell' = true := fun u hu => by
  simp only [icells, List.mem_map] at hu
  obtain ⟨c, _, rfl⟩ := hu; rfl
theorem info3 : (Tryd.prog.info? 3).map (fun i => (i.zero, i.size, i.bytes)) = some (some (.int .i64 0), 1, 8) := by kernel_rfl
theorem icells_get {cs : List Int} {i : Nat} {u : Value} (h : (icells cs)[i]? = some u) : ∃ h : i < cs.length, u = .int .i64 cs[i] := by
  unfold icells at h
  rw [List.getElem?_map] at h
  obtain ⟨c, hc, rfl⟩ := Option.map_eq_some_iff.1 h
  obtain ⟨hi, rfl⟩ := List.getElem?_eq_some_iff.1 hc
  exact ⟨hi, rfl⟩
theorem addr_plus (b o j : Nat) : (⟨b, o, none⟩ : Addr).add j = ⟨b, o + j, none⟩ := by
  by_cases h : j = 0 <;> simp [Addr.add, h]
theorem cell_one_new' (W : World) (v : Value) (t : TypeId) : ∀ i u, [v][i]? = some u → (W.alloc (.cells #[v] t)).cell? ((⟨W.heap.size, 0, none⟩ : Addr).add i) = some u := fun i u hu => by
  match i, hu with
  | 0, hu => simp at hu; subst hu; simp [Addr.add, go_sem]
theorem own_belowN {W W' : World} {base e size n B : Nat} {v : Value} {xs : List Value} (h : W.ownsRow base e size v n xs) (hb : Below B W W') (hB : W.heap.size ≤ B) : W'.ownsRow base e size v n xs := by
  obtain ⟨h1, h2⟩ := h
  refine ⟨h1, ?_⟩
  rcases h2 with ⟨rfl, hn⟩ | ⟨g, cap, cur, rfl, hg, hh, hr⟩
  · exact .inl ⟨rfl, hn⟩
  · refine .inr ⟨g, cap, cur, rfl, hg, ?_, hr⟩
    have hlt : g < W.heap.size := by
      rcases Nat.lt_or_ge g W.heap.size with h | h
      · exact h
      · rw [Array.getElem?_eq_none h] at hh; cases hh
    rw [hb.block g (by omega)]; exact hh
theorem own_ins {W : World} {B : Nat} {v : Value} {cs zs : List Int} {c : Int} {a : Nat} (h : W.ownsRow B 3 1 v (0 + a + 1 + (cs.length - a)) ([] ++ icells (cs.take a) ++ [.int .i64 c] ++ icells (cs.drop a))) (hz : zs = cs.take a ++ [c] ++ cs.drop a) (ha : a ≤ cs.length) :
    ∃ g cap, v = .slice (some ⟨g, 0, none⟩) zs.length cap ∧ W.ownsRow B 3 1 (.slice (some ⟨g, 0, none⟩) zs.length cap) zs.length (icells zs) := by
  have e1 : 0 + a + 1 + (cs.length - a) = zs.length := by rw [hz]; simp; omega
  have e2 : [] ++ icells (cs.take a) ++ [Value.int .i64 c] ++ icells (cs.drop a) = icells zs := by rw [hz]; simp [icells]
  rw [e1, e2] at h
  have h' := h
  obtain ⟨_, h2⟩ := h
  rcases h2 with ⟨_, hn⟩ | ⟨g, cap, cur, rfl, hr⟩
  · omega
  · exact ⟨g, cap, rfl, h'⟩
def sc (c : Int) : List Int → Nat
  | [] => 0
  | y :: ys => if y < c then sc c ys + 1 else 0
theorem sc_le (c : Int) (cs : List Int) : sc c cs ≤ cs.length := by
  induction cs with
  | nil => simp [sc]
  | cons y ys ih => simp only [sc]; split <;> simp <;> omega
theorem sc_step (c : Int) (cs : List Int) (a : Nat) (h : a < cs.length) : sc c (cs.drop a) = if cs[a] < c then sc c (cs.drop (a + 1)) + 1 else 0 := by
  rw [List.drop_eq_getElem_cons h]; rfl
def ins (c : Int) (cs : List Int) : List Int := if cs[sc c cs]? = some c then cs else cs.take (sc c cs) ++ [c] ++ cs.drop (sc c cs)
theorem ins_len (c : Int) (cs : List Int) : (ins c cs).length ≤ cs.length + 1 := by
  have := sc_le c cs
  unfold ins; split <;> simp <;> omega
def insAll (xs : List (Int × Int)) (cs : List Int) : List Int := xs.foldl (fun out x => ins x.1 out) cs
theorem cell_alloc_old (W : World) (o : Obj) (g a : Nat) (h : g < W.heap.size) : (W.alloc o).cell? ⟨g, a, none⟩ = W.cell? ⟨g, a, none⟩ := ((Below.refl W.heap.size W).alloc (Nat.le_refl _) o).cell (p := ⟨g, a, none⟩) h
theorem insAll_snoc (xs : List (Int × Int)) (cs : List Int) (k : Nat) (h : k < xs.length) : insAll (xs.take (k + 1)) cs = ins xs[k].1 (insAll (xs.take k) cs) := by
  unfold insAll; rw [List.take_succ_eq_append_getElem h, List.foldl_append]; rfl
theorem insAll_len (xs : List (Int × Int)) (cs : List Int) : (insAll xs cs).length ≤ cs.length + xs.length := by
  induction xs generalizing cs with
  | nil => simp [insAll]
  | cons x xs ih =>
    have h1 := ih (ins x.1 cs)
    have h2 := ins_len x.1 cs
    simp only [insAll, List.foldl_cons, List.length_cons] at h1 ⊢
    omega
def namedS (ls : List Lab) : List Int := ls.foldl (fun out l => insAll l.xs out) []
theorem named_snoc (ls : List Lab) (k : Nat) (h : k < ls.length) : namedS (ls.take (k + 1)) = insAll ls[k].xs (namedS (ls.take k)) := by
  unfold namedS; rw [List.take_succ_eq_append_getElem h, List.foldl_append]; rfl
def total (ls : List Lab) : Nat := (ls.map fun l => l.xs.length).sum
theorem named_len (ls : List Lab) (k : Nat) : (namedS (ls.take k)).length ≤ total (ls.take k) := by
  generalize ls.take k = l
  unfold namedS total
  suffices h : ∀ (l : List Lab) (cs : List Int), (l.foldl (fun out l => insAll l.xs out) cs).length ≤ cs.length + (l.map fun l => l.xs.length).sum by simpa using h l []
  intro l
  induction l with
  | nil => intro cs; simp
  | cons x l ih =>
    intro cs
    have h1 := ih (insAll x.xs cs)
    have h2 := insAll_len x.xs cs
    simp only [List.foldl_cons, List.map_cons, List.sum_cons]
    omega
theorem total_take (ls : List Lab) (k : Nat) (h : k < ls.length) : total (ls.take k) + ls[k].xs.length ≤ total ls := by
  have : ls = ls.take k ++ ls[k] :: ls.drop (k + 1) := by rw [← List.drop_eq_getElem_cons h, List.take_append_drop]
  have e : total ls = total (ls.take k) + (ls[k].xs.length + total (ls.drop (k + 1))) := by
    conv => lhs; rw [this]
    simp only [total, List.map_append, List.map_cons, List.sum_append, List.sum_cons]
  omega

end Go.Proofs.YtfpjeclbilhgdaaDoor

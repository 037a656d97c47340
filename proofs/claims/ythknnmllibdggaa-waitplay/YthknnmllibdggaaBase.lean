/- Memory facts: blocks, rows, maps of pointers; what a call leaves as it was. -/
import Derived.Test.YthknnmllibdggaaProg
import Derived.WalkKit
import Derived.WalkSpells
import Derived.WalkLawsBesides
import Derived.Handy
import Derived.BigQuiet
import Derived.Lib.Hide
import Derived.Shelf.SlSortCmp.QuietGrown
import Derived.OwnWalk
import Derived.Laws.AppendOwn
import Derived.Laws.OwnMore
import Derived.Maps.OwnSet
import Derived.Maps.OwnOps
import Derived.Maps.AppendAt
import Derived.DeepKeys4
import Derived.Deep.QuietTactic
import Derived.Deep.RegionLaw
namespace Go.Proofs.Ythknnmllibdggaa
open Go.RowKit Go.Sort
open Go.Maps (Keyed)
theorem heap_ne (w : World) (a : Addr) (v : Value) {k : Nat} (h : k ≠ a.block) : (w.setCell a v).heap[k]? = w.heap[k]? := by
  show (w.heap.modify a.block _)[k]? = _
  rw [Array.getElem?_modify, if_neg (Ne.symm h)]
theorem heap_new (w : World) (o : Obj) : (w.alloc o).heap[w.heap.size]? = some o := by show (w.heap.push o)[w.heap.size]? = _; simp
theorem heap_lt {w : World} {k : Nat} {o : Obj} (h : w.heap[k]? = some o) : k < w.heap.size := (Array.getElem?_eq_some_iff.1 h).1
theorem row_form {w : World} {base e size n : Nat} {v : Value} {xs : List Value} (h : w.ownsRow base e size v n xs) : ∃ sp cap, v = .slice sp n cap := by
  rcases h.2 with ⟨rfl, h0⟩ | ⟨g, cap, _, rfl, _⟩
  · exact ⟨none, 0, by rw [h0]⟩
  · exact ⟨_, _, rfl⟩
theorem row_mono {w : World} {b b' e size n : Nat} {v : Value} {xs : List Value} (h : w.ownsRow b e size v n xs) (hb : b' ≤ b) : w.ownsRow b' e size v n xs := by
  refine ⟨h.1, ?_⟩
  rcases h.2 with h | ⟨g, cap, cur, h1, h2, h3⟩
  · exact .inl h
  · exact .inr ⟨g, cap, cur, h1, Nat.le_trans hb h2, h3⟩
theorem row_same {w w' : World} {b e size n : Nat} {v : Value} {xs : List Value} (h : w.ownsRow b e size v n xs) (hs : ∀ k, v.ownBlock = some k → w'.heap[k]? = w.heap[k]?) : w'.ownsRow b e size v n xs := by
  refine ⟨h.1, ?_⟩
  rcases h.2 with h | ⟨g, cap, cur, h1, h2, h3, h4⟩
  · exact .inl h
  · subst h1
    exact .inr ⟨g, cap, cur, rfl, h2, (hs g rfl).trans h3, h4⟩
def ivs (l : List Int) : List Value := l.map fun x => .int .i64 x
theorem ivs_len (l : List Int) : (ivs l).length = l.length * 1 := by unfold ivs; simp
def i64 (n : Int) : Prop := -9223372036854775808 ≤ n ∧ n ≤ 9223372036854775807
theorem wf64 {n : Int} (h : i64 n) : (Lit.int .i64 n).wf = true := by
  simp [Lit.wf]
  have h1 : IntKind.min .i64 = -9223372036854775808 := by decide
  have h2 : IntKind.max .i64 = 9223372036854775807 := by decide
  unfold i64 at h
  omega
/-- What a call leaves: nothing but F has turned. -/
structure Fm (w w' : World) (F : Nat → Prop) : Prop where
  os : w'.os = w.os
  tape : w'.tape = w.tape
  output : w'.output = w.output
  size : w.heap.size ≤ w'.heap.size
  same : ∀ k, k < w.heap.size → ¬ F k → w'.heap[k]? = w.heap[k]?
theorem Fm.refl (w : World) (F : Nat → Prop) : Fm w w F := ⟨rfl, rfl, rfl, Nat.le_refl _, fun _ _ _ => rfl⟩
theorem Fm.trans {a b c : World} {F G H : Nat → Prop} (h : Fm a b F) (k : Fm b c G) (hF : ∀ i, i < a.heap.size → F i → H i) (hG : ∀ i, i < a.heap.size → G i → H i) : Fm a c H :=
  ⟨k.os.trans h.os, k.tape.trans h.tape, k.output.trans h.output, Nat.le_trans h.size k.size, fun i hi hn => (k.same i (Nat.lt_of_lt_of_le hi h.size) (fun g => hn (hG i hi g))).trans (h.same i hi (fun g => hn (hF i hi g)))⟩
theorem Fm.mono {a b : World} {F G : Nat → Prop} (h : Fm a b F) (hF : ∀ i, i < a.heap.size → F i → G i) : Fm a b G :=
  ⟨h.os, h.tape, h.output, h.size, fun i hi hn => h.same i hi (fun g => hn (hF i hi g))⟩
theorem Fm.of_grown {a b : World} {m : Nat} (h : a.grownBy b (some m)) : Fm a b (fun k => k = m) :=
  ⟨h.os, h.tape, h.output, h.size, fun i hi hn => h.block i hi (by simpa using hn)⟩
theorem Fm.alloc (w : World) (o : Obj) (F : Nat → Prop) : Fm w (w.alloc o) F := ⟨rfl, rfl, rfl, by simp, fun _ hk _ => Below.heap_alloc _ _ _ hk⟩
theorem Fm.setCell (w : World) (a : Addr) (v : Value) : Fm w (w.setCell a v) (fun k => k = a.block) := ⟨rfl, rfl, rfl, by simp, fun _ _ hn => heap_ne _ _ _ hn⟩
theorem Fm.below {w w' : World} {F : Nat → Prop} {b : Nat} (h : Fm w w' F) (hb : b ≤ w.heap.size) (hF : ∀ k, k < b → ¬ F k) : Below b w w' :=
  ⟨h.os, h.tape, h.output, h.size, fun k hk => h.same k (Nat.lt_of_lt_of_le hk hb) (hF k hk)⟩
theorem Fm.of_below {w w' : World} (h : Below w.heap.size w w') (F : Nat → Prop) : Fm w w' F := ⟨h.os, h.tape, h.output, h.size, fun k hk _ => h.block k hk⟩
abbrev pv (B : Nat) : Value := .pointer (some ⟨B, 0, none⟩)
abbrev np : Value := .pointer none
def pt (o : Option Nat) : Value := .pointer (o.map fun B => ⟨B, 0, none⟩)
/-- A pointer, as its block's number. -/
def ptrE : Value → Option (DataW Unit × List MemPlace)
  | .pointer none => some (.lit (.int .i64 (-1)), [])
  | .pointer (some ⟨B, 0, none⟩) => some (.lit (.int .i64 B), [])
  | _ => none
theorem ptrE_inv {v : Value} {B : Nat} {ps : List MemPlace} (h : ptrE v = some (.lit (.int .i64 B), ps)) : v = .pointer (some ⟨B, 0, none⟩) := by
  unfold ptrE at h
  split at h
  · simp at h
  · simp at h
    have := h.1
    have e := Int.ofNat.inj this
    subst e; rfl
  · cases h
theorem ptrE_nil {v : Value} {ps : List MemPlace} (h : ptrE v = some (.lit (.int .i64 (-1)), ps)) : v = .pointer none := by
  unfold ptrE at h
  split at h
  · rfl
  · simp at h
  · cases h
/-- A map of pointers that lies in block m and reads as f; n: how many entries it has. -/
def MAt (w : World) (t : TypeId) (m n : Nat) (f : Lit → Option Nat) : Prop := ∃ D : DataW Unit, w.ownsMap Try.prog t ptrE m n D ∧ Maps.size D = n ∧ ∀ k, WideAt.IsKeyLit k → Maps.has D k = (f k).isSome ∧ ∀ B, f k = some B → ∀ z, D.atKey k z = .lit (.int .i64 (B : Int))
open Classical in
noncomputable def updF (f : Lit → Option Nat) (k : Lit) (o : Option Nat) : Lit → Option Nat := fun x => if x = k then o else f x
section
variable {w : World} {t e T : TypeId} {m n : Nat} {f : Lit → Option Nat} {key : Value} {kl : Lit}
theorem MAt.lt (h : MAt w t m n f) : m < w.heap.size := by obtain ⟨D, h, _⟩ := h; exact h.lt
theorem MAt.same {w' : World} (h : MAt w t m n f) (hs : w'.heap[m]? = w.heap[m]?) : MAt w' t m n f := by
  obtain ⟨D, ⟨es, clock, hb, r⟩, r2⟩ := h
  exact ⟨D, ⟨es, clock, hs.trans hb, r⟩, r2⟩
theorem MAt.notCells (h : MAt w t m n f) {B : Nat} {c : Array Value} {u : TypeId} {z : Nat × Nat} (hB : w.heap[B]? = some (.cells c u z)) : m ≠ B := by
  obtain ⟨D, ⟨es, clock, hb, r⟩, r2⟩ := h
  intro e; subst e; rw [hb] at hB; cases hB
theorem MAt.congr (h : MAt w t m n f) {g : Lit → Option Nat} (hg : ∀ k, WideAt.IsKeyLit k → g k = f k) : MAt w t m n g := by
  obtain ⟨D, h1, h2, h3⟩ := h
  exact ⟨D, h1, h2, fun k hk => by rw [hg k hk]; exact h3 k hk⟩
theorem MAt.made (w : World) (t : TypeId) : MAt (w.alloc (.map #[] 0)) t w.heap.size 0 (fun _ => none) :=
  ⟨.map [], World.ownsMap_made (H := Unit) w Try.prog t ptrE, rfl, fun k hk => ⟨rfl, fun B h => by cases h⟩⟩
theorem MAt.look (h : MAt w t m n f) (K : Keyed Try.prog t) (hT : Try.prog.underlying T = some (.map t e)) (hz : (zeroValue e).run Try.prog w = .ok np w) (hkey : keyOf Try.prog t key = some kl) :
    (Instr.lookup T (.map (some m)) key false).run Try.prog w = .ok (pt (f kl)) w := by
  obtain ⟨D, h1, _, h3⟩ := h
  obtain ⟨v, ps, hrun, hv⟩ := h1.lookup K hT hz (zd := .lit (.int .i64 (-1))) (zp := []) rfl hkey
  obtain ⟨ha, hb⟩ := h3 kl (K.key hkey)
  have hv2 : v = pt (f kl) := by
    cases hT : f kl with
    | none =>
      have hh : Maps.has D kl = false := by rw [ha, hT]; rfl
      rw [Maps.atKey_of_not_has hh] at hv
      exact ptrE_nil hv
    | some B =>
      rw [hb B hT] at hv
      exact ptrE_inv hv
  rw [hrun, hv2]
theorem MAt.len (h : MAt w t m n f) (hT : Try.prog.underlying T = some (.map t e)) (ty : TypeId) : (Builtin.len_ #[T] ty #[.map (some m)]).run Try.prog w = .ok (.int .i64 n) w := by
  obtain ⟨D, h1, h2, _⟩ := h
  rw [← h2]; exact h1.len hT ty
theorem MAt.put (h : MAt w t m n f) (K : Keyed Try.prog t) (hT : Try.prog.underlying T = some (.map t e)) (hn : n < 1000000) (hkey : keyOf Try.prog t key = some kl) (B : Nat) :
    ∃ w', (Instr.mapUpdate T (.map (some m)) key (pv B)).run Try.prog w = .ok () w' ∧ MAt w' t m (if (f kl).isSome then n else n + 1) (updF f kl (some B)) ∧ w.grownBy w' (some m) ∧ w'.heap.size = w.heap.size := by
  obtain ⟨D, h1, h2, h3⟩ := h
  obtain ⟨w', hrun, hm, hg⟩ := h1.store K hT (by unfold maxLen; omega) hkey (val := pv B) (d := .lit (.int .i64 (B : Int))) (ps := []) rfl
  have hkl := K.key hkey
  have hsz : Maps.size (D.put kl (.lit (.int .i64 (B : Int)))) = if (f kl).isSome then n else n + 1 := by
    rw [Maps.size_put (h1.tidy K), (h3 kl hkl).1, h2]
    try rfl
  have hs : w'.heap.size = w.heap.size := by
    obtain ⟨_, _, _, _, _, rfl⟩ := hg
    unfold ChangeMaps.setBlock; simp
  refine ⟨w', hrun, ⟨_, ?_, hsz, ?_⟩, hg.grown, hs⟩
  · obtain ⟨es, clock, hb, F, hle, hD⟩ := hm
    refine ⟨es, clock, hb, F, ?_, hD⟩
    have : Maps.size (D.put kl (.lit (.int .i64 (B : Int)))) = es.size := by rw [hD]; simp [Maps.size, length_sorted]
    omega
  · intro k hk
    unfold updF
    by_cases hkk : k = kl
    · subst hkk
      rw [if_pos rfl]
      exact ⟨by rw [Maps.has_put_same h1.isMap hkl]; rfl, fun B' hB' z => by cases hB'; exact Maps.atKey_put_same h1.isMap hkl _ _⟩
    · rw [if_neg hkk]
      exact ⟨by rw [Maps.has_put_other (by simpa using hkk)]; exact (h3 k hk).1, fun B' hB' z => by rw [Maps.atKey_put_other (by simpa using hkk)]; exact (h3 k hk).2 B' hB' z⟩
theorem MAt.del (h : MAt w t m n f) (K : Keyed Try.prog t) (hT : Try.prog.underlying T = some (.map t e)) (hkey : keyOf Try.prog t key = some kl) (ty : TypeId) :
    ∃ w', (Builtin.delete_ #[T, t] ty #[.map (some m), key]).run Try.prog w = .ok (.tuple #[]) w' ∧ MAt w' t m (if (f kl).isSome then n - 1 else n) (updF f kl none) ∧ w.grownBy w' (some m) ∧ w'.heap.size = w.heap.size := by
  obtain ⟨D, h1, h2, h3⟩ := h
  obtain ⟨w', hrun, hm, hg⟩ := h1.drop K hT hkey ty
  have hkl := K.key hkey
  have hsz : Maps.size (D.del kl) = if (f kl).isSome then n - 1 else n := by
    have hd := Maps.size_del (k := kl) (h1.tidy K)
    rw [(h3 kl hkl).1, h2] at hd
    split <;> simp_all <;> omega
  have hs : w'.heap.size = w.heap.size := by
    obtain ⟨_, _, _, _, _, rfl⟩ := hg
    unfold ChangeMaps.setBlock; simp
  refine ⟨w', hrun, ⟨_, ?_, hsz, ?_⟩, hg.grown, hs⟩
  · obtain ⟨es, clock, hb, F, hle, hD⟩ := hm
    refine ⟨es, clock, hb, F, ?_, hD⟩
    have : Maps.size (D.del kl) = es.size := by rw [hD]; simp [Maps.size, length_sorted]
    omega
  · intro k hk
    unfold updF
    by_cases hkk : k = kl
    · subst hkk
      rw [if_pos rfl]
      exact ⟨by rw [Maps.has_del_same]; rfl, fun B' hB' z => by cases hB'⟩
    · rw [if_neg hkk]
      exact ⟨by rw [Maps.has_del_other (by simpa using hkk)]; exact (h3 k hk).1, fun B' hB' z => by rw [Maps.atKey_del_other (by simpa using hkk)]; exact (h3 k hk).2 B' hB' z⟩
end
theorem ui : Try.prog.underlying 3 = some (.int .i64) := by kernel_rfl
theorem keyedI : Keyed Try.prog 3 := Maps.int_keyed ui
abbrev ky (k : Int) : Lit := .int .i64 k
theorem keyI {n : Int} (h : i64 n) : keyOf Try.prog 3 (.int .i64 n) = some (ky n) := Maps.keyOf_int_mk ui (wf64 h)
theorem widePl : (match Try.prog.underlying 72 with | some (.array _ _) | some (.struct _) => true | _ => false) = true := by kernel_rfl
set_option maxRecDepth 100000 in
theorem keyedP : Keyed Try.prog 72 := Keyed.of_law (deep_law_laid (by kernel_rfl) (m := 3) (by omega) (of_decide_eq_true (by kernel_rfl)) (by kernel_rfl) widePl)
abbrev kp (s o : Int) : Lit := .string (keyBytes [.int .i64 s, .int .i64 o])
set_option maxRecDepth 100000 in
theorem keyP {s o : Int} (hs : i64 s) (ho : i64 o) : keyOf Try.prog 72 (.agg #[.int .i64 s, .int .i64 o]) = some (kp s o) := by
  have hk : Try.prog.keyType 72 = true := by kernel_rfl
  have hc : Try.prog.cellsOf 72 = 2 := by kernel_rfl
  have hci : Try.prog.cellsOf 3 = 1 := by kernel_rfl
  have hu := Try.underlying72
  have hsz : Try.prog.types.size + 1 = (Try.prog.types.size - 2) + 1 + 1 + 1 := by
    have h2 : 2 ≤ Try.prog.types.size := of_decide_eq_true (by kernel_rfl)
    omega
  have ws := wf64 hs
  have wo := wf64 ho
  have hf : (Value.agg #[Value.int .i64 s, .int .i64 o]).formed Try.prog 72 = true := by simp only [Value.formed, hu, hc]; rfl
  have one : ∀ (d : Nat) (x : Int), i64 x → Try.prog.keyLits (d + 1) 3 [.int .i64 x] = some [.int .i64 x] := fun d x hx => by
    unfold Program.keyLits
    rw [ui]
    exact if_pos ⟨rfl, wf64 hx⟩
  have hL : Try.prog.keyLits (Try.prog.types.size - 2 + 1 + 1 + 1) 72 [.int .i64 s, .int .i64 o] = some [.int .i64 s, .int .i64 o] := by
    unfold Program.keyLits
    rw [hu]
    simp only []
    rw [if_pos ⟨by rw [hc]; rfl, by simp⟩]
    simp only [List.mapM_cons, List.mapM_nil, hci, List.drop_zero, List.take_succ_cons, List.take_zero, List.drop_succ_cons]
    rw [one _ s hs, one _ o ho]
    rfl
  unfold keyOf
  rw [hu]
  show (if (Try.prog.keyType 72 && (Value.agg #[Value.int .i64 s, .int .i64 o]).formed Try.prog 72) = true then _ else _) = _
  rw [hk, hf, hsz]
  show Option.map _ (Try.prog.keyLits (Try.prog.types.size - 2 + 1 + 1 + 1) 72 [.int .i64 s, .int .i64 o]) = _
  rw [hL]
  rfl
theorem kp_inj {s o s' o' : Int} (hs : i64 s) (ho : i64 o) (hs' : i64 s') (ho' : i64 o') (h : kp s o = kp s' o') : s = s' ∧ o = o' := by
  have := keyedP.inj (keyP hs ho) ((keyP hs' ho').trans (congrArg some h.symm))
  injection this with h1
  have h2 := congrArg Array.toList h1
  injection h2 with h3 h4
  injection h4 with h5 h6
  injection h3 with _ h7
  injection h5 with _ h8
  exact ⟨h7, h8⟩
end Go.Proofs.Ythknnmllibdggaa

/- What See of package view answers, for every dump that is not too long. -/
import Derived.Test.YtonhdkldacghoaaLivesV
import Derived.Test.YtonhdkldacghoaaCop
import Derived.Great.Walk
import Derived.Test.YtonhdkldacghoaaOpenV
import Derived.Maps.AppendAt
namespace Go.Proofs.Ytonhdkldacghoaa
open Go.RowKit Go.Sort Go.Shelf

theorem fold_set : ∀ (l : List Value) (k : Nat) (a : Array Value), k + l.length = a.size → (l.zipIdx k).foldl (fun (a : Array Value) (x : Value × Nat) => a.setIfInBounds x.2 x.1) a = (a.toList.take k ++ l).toArray
  | [], k, a, h => by
    simp only [List.zipIdx_nil, List.foldl_nil, List.append_nil]
    rw [List.take_of_length_le (by simp at h ⊢; omega)]
  | c :: l, k, a, h => by
    simp only [List.zipIdx_cons, List.foldl_cons]
    rw [fold_set l (k + 1) _ (by simp only [Array.size_setIfInBounds]; simp at h; omega)]
    congr 1
    rw [Array.toList_setIfInBounds]
    have hk : k < a.toList.length := by simp at h ⊢; omega
    rw [List.take_succ_eq_append_getElem (by simpa using hk), List.take_set_of_le (Nat.le_refl _)]
    simp
theorem obInfo : (Try.prog.info? 42).map (fun i => (i.zero, i.size, i.bytes)) = some (some (.agg #[.int .i64 0, .int .i64 0, .int .i64 0, .int .i64 0, .int .i64 0, .int .i64 0, .slice none 0 0, .slice none 0 0, .string ⟨#[]⟩, .slice none 0 0, .int .i64 0, .slice none 0 0, .int .i64 0, .int .i64 0, .int .u64 0, .int .u64 0, .int .u64 0, .int .u64 0, .int .u64 0, .int .u64 0, .int .u64 0, .int .u64 0, .int .u64 0, .int .u64 0, .int .u64 0, .int .u64 0, .int .u64 0, .int .u64 0, .int .u64 0, .int .u64 0, .int .u64 0, .int .u64 0, .int .i64 0, .int .i64 0, .int .i64 0, .slice none 0 0, .string ⟨#[]⟩, .string ⟨#[]⟩]), 38, 408) := by kernel_rfl
theorem built_ob {cs : Array Value} (h : cs.size = 38) : Try.prog.builtSlice 42 1 [(0, .agg cs)] = some cs := by
  obtain ⟨i0, hi, hz0, hz1, _⟩ := info_parts obInfo
  unfold Program.builtSlice
  simp only [hi, hz0, hz1]
  rw [if_neg (by decide)]
  simp only [Instr.fill]
  have hc : (Value.agg cs).cells = cs := rfl
  rw [hc, if_neg (by simp [h])]
  have := fold_set cs.toList 0 ((Array.range (1 * 38)).map ((Value.agg #[.int .i64 0, .int .i64 0, .int .i64 0, .int .i64 0, .int .i64 0, .int .i64 0, .slice none 0 0, .slice none 0 0, .string ⟨#[]⟩, .slice none 0 0, .int .i64 0, .slice none 0 0, .int .i64 0, .int .i64 0, .int .u64 0, .int .u64 0, .int .u64 0, .int .u64 0, .int .u64 0, .int .u64 0, .int .u64 0, .int .u64 0, .int .u64 0, .int .u64 0, .int .u64 0, .int .u64 0, .int .u64 0, .int .u64 0, .int .u64 0, .int .u64 0, .int .u64 0, .int .u64 0, .int .i64 0, .int .i64 0, .int .i64 0, .slice none 0 0, .string ⟨#[]⟩, .string ⟨#[]⟩]).cells[· % (Value.agg #[.int .i64 0, .int .i64 0, .int .i64 0, .int .i64 0, .int .i64 0, .int .i64 0, .slice none 0 0, .slice none 0 0, .string ⟨#[]⟩, .slice none 0 0, .int .i64 0, .slice none 0 0, .int .i64 0, .int .i64 0, .int .u64 0, .int .u64 0, .int .u64 0, .int .u64 0, .int .u64 0, .int .u64 0, .int .u64 0, .int .u64 0, .int .u64 0, .int .u64 0, .int .u64 0, .int .u64 0, .int .u64 0, .int .u64 0, .int .u64 0, .int .u64 0, .int .u64 0, .int .u64 0, .int .i64 0, .int .i64 0, .int .i64 0, .slice none 0 0, .string ⟨#[]⟩, .string ⟨#[]⟩]).cells.size]!)) (by simp [h])
  rw [← Array.foldl_toList]
  simp only [Array.toList_zipIdx, Nat.zero_mul, Nat.zero_add]
  rw [List.take_zero, List.nil_append] at this
  exact congrArg some (this.trans (by simp))
theorem obsC_append (a b : List Ob) : obsC (a ++ b) = obsC a ++ obsC b := by
  induction a with
  | nil => rfl
  | cons o a ih => simp [obsC, ih]
/-- None of its rows lies in block g. -/
structure ObAp (g : Option Nat) (o : Ob) : Prop where
  L : ∀ a, o.L.p = some a → g ≠ some a.block
  ls : ∀ a, o.lp = some a → g ≠ some a.block
  ms : ∀ a, o.mp = some a → g ≠ some a.block
  C : ∀ a, o.C.p = some a → g ≠ some a.block
  al : ∀ a, o.ap = some a → g ≠ some a.block
/-- What is known of a copied object: whole, its rows at B or behind, its lists may be written. -/
structure ObNew (B : Nat) (w : World) (o : Ob) : Prop where
  ok : ObOk w o
  over : ObOver B w o
  wL : Wrt 50 (o.L.xs.length * 2) w o.L.p
  wl : Wrt 3 o.ls.length w o.lp
section
variable {w w' : World}
theorem cats_keep {p : Option Addr} {xs : List (Int × Int)} (h : CatsAt w p xs) (hz : w.heap.size ≤ w'.heap.size) (hs : ∀ a, p = some a → w'.heap[a.block]? = w.heap[a.block]?) : CatsAt w' p xs := fun k hk => by
  obtain ⟨b, off, hp, hb, c0, c1⟩ := h k hk
  have e := hs _ hp
  exact ⟨b, off, hp, Nat.lt_of_lt_of_le hb hz, (World.cell?_of_block (a := ⟨b, off + k * 2, none⟩) e).trans c0, (World.cell?_of_block (a := ⟨b, off + k * 2 + 1, none⟩) e).trans c1⟩
theorem ints_keep {p : Option Addr} {xs : List Int} (h : IntsAt w p xs) (hz : w.heap.size ≤ w'.heap.size) (hs : ∀ a, p = some a → w'.heap[a.block]? = w.heap[a.block]?) : IntsAt w' p xs := fun k hk => by
  obtain ⟨b, off, hp, hb, c0⟩ := h k hk
  have e := hs _ hp
  exact ⟨b, off, hp, Nat.lt_of_lt_of_le hb hz, (World.cell?_of_block (a := ⟨b, off + k, none⟩) e).trans c0⟩
theorem ms_keep {p : Option Addr} {xs : List Mp} (h : MsAt w p xs) (hz : w.heap.size ≤ w'.heap.size) (hs : ∀ a, p = some a → w'.heap[a.block]? = w.heap[a.block]?) : MsAt w' p xs := fun k hk => by
  obtain ⟨b, off, hp, hb, c0⟩ := h k hk
  have e := hs _ hp
  exact ⟨b, off, hp, Nat.lt_of_lt_of_le hb hz, fun f u hu => (World.cell?_of_block (a := ⟨b, off + k * 7 + f, none⟩) e).trans (c0 f u hu)⟩
theorem wrt_keep {t m : Nat} {p : Option Addr} (h : Wrt t m w p) (hs : ∀ a, p = some a → w'.heap[a.block]? = w.heap[a.block]?) : Wrt t m w' p := fun a e => by
  obtain ⟨c, h1, h2⟩ := h a e
  exact ⟨c, (hs a e).trans h1, h2⟩
theorem over_keep {B : Nat} {p : Option Addr} (h : Over B w p) (hz : w.heap.size ≤ w'.heap.size) : Over B w' p := fun a e => ⟨(h a e).1, Nat.lt_of_lt_of_le (h a e).2 hz⟩
/-- Behind a row that grew, of which it is apart. -/
theorem ObNew.grown {B : Nat} {o : Ob} {g : Option Nat} (h : ObNew B w o) (ha : ObAp g o) (hg : w.grownBy w' g) : ObNew B w' o := by
  have hz := hg.size
  have k : ∀ {p : Option Addr}, (∀ a, p = some a → g ≠ some a.block) → Over B w p → ∀ a, p = some a → w'.heap[a.block]? = w.heap[a.block]? := fun h1 h2 a e => hg.block a.block (h2 a e).2 (Ne.symm (h1 a e))
  exact ⟨⟨h.ok.st, cats_keep h.ok.L hz (k ha.L h.over.L), h.ok.Lm, ints_keep h.ok.ls hz (k ha.ls h.over.ls), h.ok.lm, ms_keep h.ok.ms hz (k ha.ms h.over.ms), h.ok.mm, cats_keep h.ok.C hz (k ha.C h.over.C), h.ok.Cm, ints_keep h.ok.al hz (k ha.al h.over.al), h.ok.am, h.ok.idr, h.ok.lsr, h.ok.nils, h.ok.lcap⟩,
    ⟨over_keep h.over.L hz, over_keep h.over.ls hz, over_keep h.over.ms hz, over_keep h.over.C hz, over_keep h.over.al hz⟩, wrt_keep h.wL (k ha.L h.over.L), wrt_keep h.wl (k ha.ls h.over.ls)⟩
theorem ObNew.below {B : Nat} {o : Ob} (h : ObNew B w o) (hb : Below w.heap.size w w') : ObNew B w' o :=
  h.grown (g := none) ⟨fun _ _ e => (by cases e), fun _ _ e => (by cases e), fun _ _ e => (by cases e), fun _ _ e => (by cases e), fun _ _ e => (by cases e)⟩ ⟨hb.os, hb.tape, hb.output, hb.size, fun k hk _ => hb.block k hk⟩
theorem ObOver.ap {B g : Nat} {o : Ob} (h : ObOver B w o) (hg : g < B) : ObAp (some g) o := by
  have k : ∀ {p : Option Addr}, Over B w p → ∀ a, p = some a → some g ≠ some a.block := fun h2 a e he => by
    have := (h2 a e).1
    simp only [Option.some.injEq] at he; omega
  exact ⟨k h.L, k h.ls, k h.ms, k h.C, k h.al⟩
theorem ObOver.ap_new {B g : Nat} {o : Ob} (h : ObOver B w o) (hg : w.heap.size ≤ g) : ObAp (some g) o := by
  have k : ∀ {p : Option Addr}, Over B w p → ∀ a, p = some a → some g ≠ some a.block := fun h2 a e he => by
    have := (h2 a e).2
    simp only [Option.some.injEq] at he; omega
  exact ⟨k h.L, k h.ls, k h.ms, k h.C, k h.al⟩
theorem ObOver.mono {B B' : Nat} {o : Ob} (h : ObOver B w o) (hb : B' ≤ B) : ObOver B' w o := ⟨Over.mono h.L hb, Over.mono h.ls hb, Over.mono h.ms hb, Over.mono h.C hb, Over.mono h.al hb⟩
end
theorem ObAp.none (o : Ob) : ObAp none o := ⟨fun _ _ e => (by cases e), fun _ _ e => (by cases e), fun _ _ e => (by cases e), fun _ _ e => (by cases e), fun _ _ e => (by cases e)⟩
def Ob.unl (o : Ob) : Ob := { o with links := 0 }
theorem cs_unl (o : Ob) : o.cs.setIfInBounds 4 (.int .i64 0) = o.unl.cs := by simp [Ob.cs, Ob.cl, Ob.hd, Ob.tl, Ob.unl]
theorem con_unl {a b : Ob} (h : a.con = b.con) : a.unl.con = b.unl.con := by
  have := congrArg Ob.unl h
  exact this
theorem ObNew.unl {B : Nat} {w : World} {o : Ob} (h : ObNew B w o) : ObNew B w o.unl :=
  ⟨⟨h.ok.st, h.ok.L, h.ok.Lm, h.ok.ls, h.ok.lm, h.ok.ms, h.ok.mm, h.ok.C, h.ok.Cm, h.ok.al, h.ok.am, h.ok.idr, h.ok.lsr, h.ok.nils, h.ok.lcap⟩, ⟨h.over.L, h.over.ls, h.over.ms, h.over.C, h.over.al⟩, h.wL, h.wl⟩
/-- What is seen of the object at a place. -/
def seeZ (d : List Ob) (z : Nat) : Ob := (d[z]?.getD default).unl.con
theorem seeZ_lt {d : List Ob} {z : Nat} (h : z < d.length) : seeZ d z = d[z].unl.con := by unfold seeZ; rw [List.getElem?_eq_getElem h]; rfl
/-- How far See is. -/
structure SI (d : List Ob) (B : Nat) (w1 wr : World) (zs : List Nat) (v : Value) (os : List Ob) : Prop where
  con : os.map Ob.con = zs.map (seeZ d)
  row : wr.ownsRow w1.heap.size 42 38 v os.length (obsC os)
  new : ∀ o ∈ os, ObNew B wr o
  ap : ∀ o ∈ os, ObAp v.ownBlock o
  bel : Below w1.heap.size w1 wr
theorem obs_row {w : World} {B : Nat} {p : Option Addr} {c : Nat} {os : List Ob} (h : w.ownsRow B 42 38 (.slice p os.length c) os.length (obsC os)) (ho : ∀ o ∈ os, ObOk w o) : ObsAt w p os := by
  intro k hk
  rcases h.2 with ⟨hv, h0⟩ | ⟨g, cap', cur, hv, _, hg, _⟩
  · omega
  · simp at hv
    obtain ⟨rfl, rfl⟩ := hv
    refine ⟨g, 0, rfl, (Array.getElem?_eq_some_iff.1 hg).1, fun f u hu => ?_, ho _ (List.getElem_mem _)⟩
    have hst : ∀ o ∈ os, o.st.length = 17 := fun o h => (ho o h).st
    have hf : f < 38 := by
      have := (Array.getElem?_eq_some_iff.1 hu).1
      rwa [Ob.size (hst _ (List.getElem_mem _))] at this
    rw [Nat.zero_add, h.cellAt (k * 38 + f) (by omega), obsC_get hst k hk f hf]
    simpa [Ob.cs] using hu
end Go.Proofs.Ytonhdkldacghoaa

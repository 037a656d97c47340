/- slices.SortFunc of a row of places in a dump, by the numbers of what stands there. -/
import Derived.Test.YtonhdkldacghoaaPlc
import Derived.Test.YtonhdkldacghoaaSortI
import Derived.Test.YtonhdkldacghoaaNamed
namespace Go.Proofs
open Go.Shelf
def Try.cmpInt_ren : Go.Shelf.Ren := ⟨fun | 5 => 46 | 7 => 62 | n => n, fun | 22 => 3 | 3 => 3 | 4 => 4 | n => n, fun | n => n⟩
theorem Try.cmpInt : Go.Proofs.SlLaysC2.n5 Try.prog Try.cmpInt_ren := {
  mixed := by kernel_rfl
  f5 := ⟨Try.f46.name, by decide, Try.func46.trans (congrArg some (by kernel_rfl))⟩
  f7 := ⟨Try.f62.name, by decide, Try.func62.trans (congrArg some (by kernel_rfl))⟩
  t3 := Try.underlying3
  a3 := Try.isAgg3
  z3 := Try.sizeOf3
  v3 := Try.zeroValue3
  t4 := Try.underlying4
  a4 := Try.isAgg4
  z4 := Try.sizeOf4
  v4 := Try.zeroValue4
  t22 := Try.underlying3
  a22 := Try.isAgg3
  z22 := Try.sizeOf3
  v22 := Try.zeroValue3 }
end Go.Proofs
namespace Go.Proofs.Ytonhdkldacghoaa
open Go.RowKit Go.Sort Go.Shelf

abbrev Ix (d : List Ob) : Type := { k : Nat // k < d.length }
def encK (d : List Ob) (x : Ix d) : Value := .int .i64 (x.1 : Int)
def cfK (d : List Ob) (x y : Ix d) : Int := Lib.compareInt (d[x.1]'x.2).id (d[y.1]'y.2).id
theorem ltK (d : List Ob) (x y : Ix d) : ltOf (cfK d) x y = decide ((d[x.1]'x.2).id < (d[y.1]'y.2).id) := by
  unfold ltOf cfK Lib.compareInt
  by_cases h1 : (d[x.1]'x.2).id < (d[y.1]'y.2).id
  · simp [h1]
  · by_cases h2 : (d[y.1]'y.2).id < (d[x.1]'x.2).id <;> simp [h1, h2]
theorem swoK (d : List Ob) : SWO (ltOf (cfK d)) := {
  irrefl := fun x => by rw [ltK]; simp
  trans := fun x y z h1 h2 => by rw [ltK] at *; simp at *; omega
  ntrans := fun x y z h1 h2 => by rw [ltK] at *; simp at *; omega }
theorem sortWorld_heap {α : Type} [Inhabited α] (enc : α → Value) (w : World) (blk off m : Nat) (dk : Array α) (os : Array Obj) (k : Nat) (hk : k < w.heap.size) (hne : k ≠ blk) : (sortWorld enc w blk off m dk os).heap[k]? = w.heap[k]? := by
  simp only [sortWorld, putRow, mapBlock, grow, Sort.ahead, Array.getElem?_append, Array.size_modify, Array.getElem?_modify]
  rw [if_pos hk, if_neg (Ne.symm hne)]
theorem sortWorld_size {α : Type} [Inhabited α] (enc : α → Value) (w : World) (blk off m : Nat) (dk : Array α) (os : Array Obj) : w.heap.size ≤ (sortWorld enc w blk off m dk os).heap.size := by
  simp [sortWorld, putRow, mapBlock, grow, Sort.ahead]
theorem cell_heap {W W' : World} {B : Nat} (h : W'.heap[B]? = W.heap[B]?) (o : Nat) : W'.cell? ⟨B, o, none⟩ = W.cell? ⟨B, o, none⟩ := by simp only [World.cell?, h]

set_option maxRecDepth 100000 in
set_option maxHeartbeats 1000000 in
/-- The comparing of two places: it reads the dump alone. -/
theorem cmpK_any (d : List Ob) (x y : Ix d) (Bd b off cap : Nat) (S : World) (cd : S.cell? ⟨Bd, 0, none⟩ = some (.slice (some ⟨b, off, none⟩) d.length cap))
    (cx : S.cell? ⟨b, off + x.1 * 38, none⟩ = some (.int .i64 (d[x.1]'x.2).id)) (cy : S.cell? ⟨b, off + y.1 * 38, none⟩ = some (.int .i64 (d[y.1]'y.2).id)) :
    Calls Try.prog 45 #[.int .i64 (x.1 : Int), .int .i64 (y.1 : Int), .pointer (some ⟨Bd, 0, none⟩)] S fun e w' => e = .returned (.int .i64 (cfK d x y)) ∧ ∃ q os', w' = grow (S.drewN q) os' := by
  have hcon := fun W' => AnyG.cmp_Compare_int Try.cmpInt (d[x.1]'x.2).id (d[y.1]'y.2).id W'
  change ∀ W', Calls Try.prog 46 _ _ _ at hcon
  unfold cfK
  obtain ⟨x, hx⟩ := x
  obtain ⟨y, hy⟩ := y
  simp only at cx cy hcon ⊢
  generalize Lib.compareInt d[x].id d[y].id = r at hcon ⊢
  generalize d[x].id = xi at *
  generalize d[y].id = yi at *
  have hxi : (x : Int) < (d.length : Int) := by omega
  have hyi : (y : Int) < (d.length : Int) := by omega
  go_enter Try.func45, Try.ntmps45
  go_wp2
  have dd : ∀ n, (S.drewN n).cell? ⟨Bd, 0, none⟩ = some (.slice (some ⟨b, off, none⟩) d.length cap) := fun n => cd
  have dx : ∀ n, (S.drewN n).cell? ⟨b, off + x * 38, none⟩ = some (.int .i64 xi) := fun n => cx
  have dy : ∀ n, (S.drewN n).cell? ⟨b, off + y * 38, none⟩ = some (.int .i64 yi) := fun n => cy
  refine wp_region_quiet_tail (C := fun w' => ∃ k, w' = S.drewN k) 12 (by kernel_rfl) (by kernel_rfl) ⟨1, rfl⟩ ?_
  simp only [List.take_succ_cons, List.take_zero, List.drop_succ_cons, List.drop_zero]
  repeat (quiet_step (fail))
  refine wpQuiet_nil ?_
  intro _ hw'
  obtain ⟨nq, hw''⟩ := hw'
  subst hw''
  clear dd dx dy cd cx cy
  go_wp2_with (go_at_call 46; refine (hcon _).mono ?_; rintro e w' ⟨rfl, rfl⟩)
  go_ret
  exact ⟨rfl, nq, #[], by rw [grow_empty]⟩
theorem cmpK_lays (d : List Ob) [Inhabited (Ix d)] (Bd b off cap blk n : Nat) (W : World) (hBd : Bd < W.heap.size) (hb : b < W.heap.size) (h1 : Bd ≠ blk) (h2 : b ≠ blk) (cd : W.cell? ⟨Bd, 0, none⟩ = some (.slice (some ⟨b, off, none⟩) d.length cap))
    (cs : ∀ k (hk : k < d.length), W.cell? ⟨b, off + k * 38, none⟩ = some (.int .i64 d[k].id)) : CmpLays1 Try.prog 45 #[.pointer (some ⟨Bd, 0, none⟩)] (encK d) (cfK d) blk 0 n W := by
  intro m os dk hs x y
  have e1 := sortWorld_heap (encK d) W blk 0 m dk os Bd hBd h1
  have e2 := sortWorld_heap (encK d) W blk 0 m dk os b hb h2
  exact cmpK_any d x y Bd b off cap _ ((cell_heap e1 0).trans cd) ((cell_heap e2 _).trans (cs x.1 x.2)) ((cell_heap e2 _).trans (cs y.1 y.2))
def nvs (l : List Nat) : List Value := icells (l.map fun (k : Nat) => (k : Int))
/-- Rising by the numbers of what stands at the places. -/
def UpIds (d : List Ob) (zs : List Nat) : Prop := ∀ i j, (hij : i < j) → (hj : j < zs.length) → ∀ (h1 : zs[i] < d.length) (h2 : zs[j] < d.length), d[zs[i]].id ≤ d[zs[j]].id
theorem nvs_get (l : List Nat) (j : Nat) (h : j < l.length) : (nvs l)[j]? = some (.int .i64 (l[j] : Int)) := by
  simp [nvs, icells, h]

set_option maxHeartbeats 1000000 in
theorem SortK_any (d : List Ob) (zs : List Nat) (Bd b off cap blk cap2 B : Nat) (W : World) (hBd : Bd < W.heap.size) (hb : b < W.heap.size) (h1 : Bd ≠ blk) (h2 : b ≠ blk) (cd : W.cell? ⟨Bd, 0, none⟩ = some (.slice (some ⟨b, off, none⟩) d.length cap))
    (cs : ∀ k (hk : k < d.length), W.cell? ⟨b, off + k * 38, none⟩ = some (.int .i64 d[k].id)) (hz : ∀ k ∈ zs, k < d.length) (hpos : 0 < zs.length) (hsz : zs.length < 1000000)
    (hown : W.ownsRow B 3 1 (.slice (some ⟨blk, 0, none⟩) zs.length cap2) zs.length (nvs zs)) :
    Calls Try.prog 44 #[.slice (some ⟨blk, 0, none⟩) zs.length cap2, .func (.func 45) #[] #[.pointer (some ⟨Bd, 0, none⟩)]] W fun e w' => e = .returned (.tuple #[]) ∧ ∃ ys : List Nat, ys.Perm zs ∧ UpIds d ys ∧ IntsAt w' (some ⟨blk, 0, none⟩) (ys.map fun (k : Nat) => (k : Int)) ∧ Below blk W w' := by
  have hd0 : 0 < d.length := Nat.lt_of_le_of_lt (Nat.zero_le _) (hz zs[0] (List.getElem_mem _))
  letI : Inhabited (Ix d) := ⟨⟨0, hd0⟩⟩
  have eg : ∀ args w, (callFunc 45 args).run Try.prog w = .ok (.enter 45 args) w := enters_of Try.func45 (by kernel_rfl) rfl
  obtain ⟨xs, has⟩ : ∃ xs : List (Ix d), xs.map (·.1) = zs := by
    refine ⟨zs.attach.map fun x => ⟨x.1, hz x.1 x.2⟩, ?_⟩
    rw [List.map_map]
    exact List.attach_map_subtype_val zs
  have hal : xs.length = zs.length := by rw [← has, List.length_map]
  have hg : blk < W.heap.size := (hown.lt blk rfl).2
  have hH : Holds (encK d) W blk 0 xs.toArray := by
    intro j hj
    have hj' : j < zs.length := by rw [← hal]; simpa using hj
    rw [Nat.zero_add]
    refine ⟨?_, hown.frozenAt j⟩
    rw [hown.cellAt j (by omega), nvs_get zs j hj', getElem!_pos xs.toArray j hj]
    have : zs[j] = (xs[j]'(by omega)).1 := by
      have := congrArg (fun l => l[j]?) has
      simp only [List.getElem?_map, List.getElem?_eq_getElem hj', List.getElem?_eq_getElem (show j < xs.length by omega), Option.map_some, Option.some.injEq] at this
      exact this.symm
    rw [this]; rfl
  have hcon := Any.slices_SortFunc Try.sortI (encK d) (fun _ => rfl) (cfK d) (swoK d) 45 #[.pointer (some ⟨Bd, 0, none⟩)] blk 0 cap2 xs.toArray W eg (cmpK_lays d Bd b off cap blk xs.toArray.size W hBd hb h1 h2 cd cs) hH hg (by simp; omega)
  change Calls Try.prog 44 _ _ _ at hcon
  rw [List.size_toArray, hal] at hcon
  refine hcon.mono ?_
  rintro e w' ⟨rfl, d', n, os, ⟨hs1, hs2, hs3⟩, hso, rfl⟩
  have hl : d'.toList.length = zs.length := by rw [← hal]; simpa using hs1
  have hp : d'.toList.Perm xs := by
    have e1 : (d'.extract 0 zs.length).toList = d'.toList := by rw [Array.toList_extract]; simp only [← hl, Array.length_toList, List.extract_eq_take_drop, Nat.sub_zero, List.drop_zero]; exact List.take_of_length_le (by simp)
    have e2 : (xs.toArray.extract 0 zs.length).toList = xs := by rw [← hal]; simp
    rw [e1, e2] at hs3
    exact hs3
  refine ⟨rfl, d'.toList.map (·.1), has ▸ hp.map _, ?_, ?_, ?_⟩
  · intro i j hij hj h1 h2
    have hj' : j < zs.length := by rw [List.length_map] at hj; omega
    have h := hso i j (Nat.zero_le _) hij hj'
    rw [ltK, getElem!_pos d' j (by rw [← Array.length_toList]; omega), getElem!_pos d' i (by rw [← Array.length_toList]; omega)] at h
    simp only [decide_eq_false_iff_not, Int.not_lt] at h
    simpa using h
  · intro k hk
    have hk' : k < d'.size := by simpa using hk
    have := holds_sortWorld (encK d) W blk 0 n xs.toArray d' os hg hH hs1 k hk'
    refine ⟨blk, 0, rfl, lt_sortWorld (encK d) W blk 0 n d' os hg, ?_⟩
    rw [this.1, getElem!_pos d' k hk']
    simp [encK]
  · refine ⟨rfl, rfl, rfl, sortWorld_size _ _ _ _ _ _ _, fun k hk => sortWorld_heap _ _ _ _ _ _ _ k (by omega) (by omega)⟩
end Go.Proofs.Ytonhdkldacghoaa

/- What few of the statements' package and At of the reference answer, for every row of objects; how an object is laid in a block of its own. -/
import Derived.Test.YtonhdkldacghoaaRch
import Derived.Test.YtonhdkldacghoaaSameI
namespace Go.Proofs.Ytonhdkldacghoaa
open Go.RowKit Go.Sort

theorem heap_new (w : World) (o : Obj) : (w.alloc o).heap[w.heap.size]? = some o := by show (w.heap.push o)[w.heap.size]? = _; simp
theorem heap_setRow (w : World) (g : Nat) (old cs : Array Value) (t : TypeId) (h : w.heap[g]? = some (.cells old t (0, 0))) : (w.setRow g cs).heap[g]? = some (.cells cs t (0, 0)) := by
  unfold World.setRow
  show (w.heap.modify g _)[g]? = _
  simp [Array.getElem?_modify, h]
theorem heap_setRow_ne (w : World) (g : Nat) (cs : Array Value) {k : Nat} (h : k ≠ g) : (w.setRow g cs).heap[k]? = w.heap[k]? := by
  unfold World.setRow
  show (w.heap.modify g _)[k]? = _
  rw [Array.getElem?_modify, if_neg (Ne.symm h)]
theorem below_setRowW {n : Nat} {w w' : World} (h : Below n w w') {g : Nat} (hg : n ≤ g) (cs : Array Value) : Below n w (w'.setRow g cs) :=
  ⟨h.os, h.tape, h.output, by rw [size_setRow]; exact h.size, fun k hk => (heap_setRow_ne _ _ _ (by omega)).trans (h.block k hk)⟩
/-- Behind an object's block that is made and filled. -/
theorem ob_laid (w : World) (cs : Array Value) : ∃ W : World, (w.alloc (.cells #[.int .i64 0, .int .i64 0, .int .i64 0, .int .i64 0, .int .i64 0, .int .i64 0, .slice none 0 0, .slice none 0 0, .string ⟨#[]⟩, .slice none 0 0, .int .i64 0, .slice none 0 0, .int .i64 0, .int .i64 0, .int .u64 0, .int .u64 0, .int .u64 0, .int .u64 0, .int .u64 0, .int .u64 0, .int .u64 0, .int .u64 0, .int .u64 0, .int .u64 0, .int .u64 0, .int .u64 0, .int .u64 0, .int .u64 0, .int .u64 0, .int .u64 0, .int .u64 0, .int .u64 0, .int .i64 0, .int .i64 0, .int .i64 0, .slice none 0 0, .string ⟨#[]⟩, .string ⟨#[]⟩] 42)).setRow w.heap.size cs = W ∧ W.heap[w.heap.size]? = some (.cells cs 42 (0, 0)) ∧ Below w.heap.size w W :=
  ⟨_, rfl, heap_setRow _ _ _ _ _ (heap_new _ _), below_setRowW ((Below.refl _ _).alloc (Nat.le_refl _) _) (Nat.le_refl _) _⟩
theorem ob_zero (w : World) : (w.alloc (.cells #[.int .i64 0, .int .i64 0, .int .i64 0, .int .i64 0, .int .i64 0, .int .i64 0, .slice none 0 0, .slice none 0 0, .string ⟨#[]⟩, .slice none 0 0, .int .i64 0, .slice none 0 0, .int .i64 0, .int .i64 0, .int .u64 0, .int .u64 0, .int .u64 0, .int .u64 0, .int .u64 0, .int .u64 0, .int .u64 0, .int .u64 0, .int .u64 0, .int .u64 0, .int .u64 0, .int .u64 0, .int .u64 0, .int .u64 0, .int .u64 0, .int .u64 0, .int .u64 0, .int .u64 0, .int .i64 0, .int .i64 0, .int .i64 0, .slice none 0 0, .string ⟨#[]⟩, .string ⟨#[]⟩] 42)).heap[w.heap.size]? = some (.cells #[.int .i64 0, .int .i64 0, .int .i64 0, .int .i64 0, .int .i64 0, .int .i64 0, .slice none 0 0, .slice none 0 0, .string ⟨#[]⟩, .slice none 0 0, .int .i64 0, .slice none 0 0, .int .i64 0, .int .i64 0, .int .u64 0, .int .u64 0, .int .u64 0, .int .u64 0, .int .u64 0, .int .u64 0, .int .u64 0, .int .u64 0, .int .u64 0, .int .u64 0, .int .u64 0, .int .u64 0, .int .u64 0, .int .u64 0, .int .u64 0, .int .u64 0, .int .u64 0, .int .u64 0, .int .i64 0, .int .i64 0, .int .i64 0, .slice none 0 0, .string ⟨#[]⟩, .string ⟨#[]⟩] 42 (0, 0)) := heap_new w _
def atI (d : List Ob) (x : Int) : Int := match firstAt d x with
  | some k => (k : Int)
  | none => -1
theorem atI_some {d : List Ob} {x : Int} {k : Nat} (h : firstAt d x = some k) : atI d x = k := by unfold atI; rw [h]
theorem atI_none {d : List Ob} {x : Int} (h : firstAt d x = none) : atI d x = -1 := by unfold atI; rw [h]
theorem firstAt_here {d : List Ob} {x : Int} {k : Nat} (h : k < d.length) (hn : firstAt (d.take k) x = none) (he : d[k].id = x) : firstAt d x = some k := by
  have e := firstAt_snoc d k h x
  rw [hn, if_pos he] at e
  unfold firstAt at e ⊢
  have := List.findIdx?_append (xs := d.take (k + 1)) (ys := d.drop (k + 1)) (p := fun o : Ob => o.id == x)
  rw [List.take_append_drop, e] at this
  rw [this]; rfl
theorem firstAt_on {d : List Ob} {x : Int} {k : Nat} (h : k < d.length) (hn : firstAt (d.take k) x = none) (he : ¬ d[k].id = x) : firstAt (d.take (k + 1)) x = none := by
  rw [firstAt_snoc d k h x, hn, if_neg he]; rfl
set_option maxRecDepth 100000 in
set_option maxHeartbeats 1000000 in
theorem OAt_any (w : World) (p : Option Addr) (cap : Nat) (d : List Ob) (x : Int) (h : ObsAt w p d) (hm : d.length ≤ maxLen) :
    Calls Try.prog 11 #[.slice p d.length cap, .int .i64 x] w fun e w' => e = .returned (.int .i64 (atI d x)) ∧ w' = w := by
  unfold maxLen at hm
  have HA := Lib.hid h
  clear h
  go_enter Try.func11, Try.ntmps11
  go_wp2_with fail
  go_loopw [8] (fun y wr => ∃ k : Nat, y = .int .i64 k ∧ k ≤ d.length ∧ firstAt (d.take k) x = none ∧ w = wr) (fun y _ => (d.length - (RowKit.intOf y).toNat))
  case atStart => exact ⟨0, rfl, Nat.zero_le _, by simp [firstAt], rfl⟩
  case round =>
    obtain ⟨k, rfl, hk, htk, rfl⟩ := hrel
    have HTK := Lib.hid htk
    clear htk
    by_cases hlt : k < d.length
    · have hki : (k : Int) < (d.length : Int) := by omega
      obtain ⟨b, off, rfl, hbl, hat, _⟩ := HA.out k hlt
      have c0 : w.cell? ⟨b, off + k * 38, none⟩ = some (.int .i64 d[k].id) := hat 0 _ (by rw [Ob.head _ _ (by decide)]; rfl)
      have HH := Lib.hid (fun he => firstAt_here hlt HTK.out (x := x) he)
      have HO := Lib.hid (fun he => firstAt_on hlt HTK.out (x := x) he)
      obtain ⟨xa, hxa⟩ : ∃ xa, d[k].id = xa := ⟨_, rfl⟩
      rw [hxa] at c0 HH HO
      clear hxa hat
      by_cases he : xa = x
      · have heb : (xa == x) = true := by simp [he]
        have HF := Lib.hid (HH.out he)
        clear HH HO he
        go_wp2_with fail
        go_ret
        exact ⟨by rw [atI_some HF.out]; rfl, rfl⟩
      · have heb : (xa == x) = false := by simp [he]
        have HF := Lib.hid (HO.out he)
        clear HH HO he
        go_wp2_with fail
        go_roundw
        case rel => exact ⟨k + 1, by go_num, by omega, HF.out, trivial⟩
        case measure => simp [RowKit.intOf]; omega
    · obtain rfl : k = d.length := by omega
      have hkk : ¬ (d.length : Int) < (d.length : Int) := by omega
      go_wp2_with fail
      go_ret
      have := HTK.out
      rw [List.take_length] at this
      exact ⟨by rw [atI_none this]; rfl, rfl⟩
def fewO (o : Ob) : Bool := !(decide (100 < o.ls.length)) && !(decide (100 < o.L.xs.length))
def fewB (d : List Ob) : Bool := d.all fewO && decide (d.length ≤ 100)
theorem fewB_no {d : List Ob} {k : Nat} (h : k < d.length) (hn : fewO d[k] = false) : fewB d = false := by
  unfold fewB
  rw [Bool.and_eq_false_iff]; left
  rw [List.all_eq_false]
  exact ⟨_, List.getElem_mem h, by simp [hn]⟩
theorem fewB_end {d : List Ob} (h : (d.take d.length).all fewO = true) : fewB d = decide ((d.length : Int) ≤ 100) := by
  unfold fewB
  rw [List.take_length] at h
  rw [h, Bool.true_and]
  congr 1
  exact propext (by omega)
theorem few_next {d : List Ob} {k : Nat} (h : k < d.length) (ht : (d.take k).all fewO = true) (ho : fewO d[k] = true) : (d.take (k + 1)).all fewO = true := by
  rw [List.take_succ_eq_append_getElem h, List.all_append, ht]; simp [ho]
set_option maxRecDepth 100000 in
set_option maxHeartbeats 2000000 in
theorem few_any (w : World) (p : Option Addr) (cap : Nat) (d : List Ob) (h : ObsAt w p d) (hm : d.length ≤ maxLen) :
    Calls Try.prog 9 #[.slice p d.length cap] w fun e w' => e = .returned (.bool (fewB d)) ∧ Below w.heap.size w w' := by
  unfold maxLen at hm
  have HA := Lib.hid h
  clear h
  go_enter Try.func9, Try.ntmps9
  go_wp2_with fail
  go_loopw [7] (fun y wr => ∃ k : Nat, y = .int .i64 k ∧ k ≤ d.length ∧ (d.take k).all fewO = true ∧ Below w.heap.size w wr) (fun y _ => (d.length - (RowKit.intOf y).toNat))
  case atStart => exact ⟨0, rfl, Nat.zero_le _, by simp, Below.refl _ _⟩
  case round =>
    obtain ⟨k, rfl, hk, htk, hB⟩ := hrel
    have HTK := Lib.hid htk
    clear htk
    by_cases hlt : k < d.length
    · have hki : (k : Int) < (d.length : Int) := by omega
      obtain ⟨b, off, rfl, hbl, hat, hok⟩ := HA.out k hlt
      have hatr := hat.below hB hbl
      have hld := load_ob hatr hok.st
      have hbr : b < wr.heap.size := by have := hB.size; omega
      have hsz := Ob.size hok.st
      have HI : Hid ((Try.prog.info? 42).map (·.size) = some d[k].cs.size) := Lib.hid (by rw [hsz]; exact infoOb)
      have hone := Ob.one (o := d[k])
      have HN := Lib.hid (fewB_no hlt)
      have HX := Lib.hid (few_next hlt HTK.out)
      have hLm := hok.Lm
      have hlm := hok.lm
      unfold maxLen at hLm hlm
      have k7 : d[k].cs[7]? = some (.slice d[k].lp d[k].ls.length d[k].lc) := by rw [Ob.head _ _ (by decide)]; rfl
      have k6 : d[k].cs[6]? = some (.slice d[k].L.p d[k].L.xs.length d[k].L.cap) := by rw [Ob.head _ _ (by decide)]; rfl
      obtain ⟨o, ho⟩ : ∃ o, d[k] = o := ⟨_, rfl⟩
      rw [ho] at hld hsz HI hone HN HX hLm hlm k7 k6
      obtain ⟨cs, hcs⟩ : ∃ cs, o.cs = cs := ⟨_, rfl⟩
      rw [hcs] at hld hsz HI hone k7 k6
      obtain ⟨W, hW, hWn, hWb⟩ := ob_laid wr cs
      have hz0 := ob_zero wr
      have c7 : W.cell? ⟨wr.heap.size, 7, none⟩ = some (.slice o.lp o.ls.length o.lc) := heap_cells hWn k7
      have c6 : W.cell? ⟨wr.heap.size, 6, none⟩ = some (.slice o.L.p o.L.xs.length o.L.cap) := heap_cells hWn k6
      have hsW : wr.heap.size < W.heap.size := (Array.getElem?_eq_some_iff.1 hWn).1
      have HW := Lib.hid hW
      have HS := Lib.hid hsz
      have HBW : Hid (Below w.heap.size w W) := Lib.hid (hB.trans (hWb.mono hB.size))
      have HF : Hid (fewO o = (!(decide (100 < o.ls.length)) && !(decide (100 < o.L.xs.length)))) := Lib.hid rfl
      clear hat hok hatr hW ho hcs hWn hWb k7 k6 hsz hB
      by_cases h1 : (100 : Int) < (o.ls.length : Int)
      · have hd1 : decide ((100 : Int) < (o.ls.length : Int)) = true := by simp only [h1, decide_true]
        have HNo := Lib.hid (HN.out (by rw [HF.out, decide_eq_true (show 100 < o.ls.length by omega)]; rfl))
        go_wp2_with (first
          | (refine wpList_load_at rfl 42 _ rfl ⟨b, off + k * 38, none⟩ rfl (.agg cs) hld ?_)
          | (refine wpList_store_row rfl 42 _ _ rfl wr.heap.size cs rfl rfl 42 _ hz0 HI.out (by rw [HS.out]; rfl) hone ?_; rw [HW.out]))
        go_ret
        exact ⟨by rw [HNo.out]; rfl, HBW.out⟩
      · by_cases h2 : (100 : Int) < (o.L.xs.length : Int)
        · have HNo := Lib.hid (HN.out (by rw [HF.out, decide_eq_true (show 100 < o.L.xs.length by omega)]; simp))
          go_wp2_with (first
            | (refine wpList_load_at rfl 42 _ rfl ⟨b, off + k * 38, none⟩ rfl (.agg cs) hld ?_)
            | (refine wpList_store_row rfl 42 _ _ rfl wr.heap.size cs rfl rfl 42 _ hz0 HI.out (by rw [HS.out]; rfl) hone ?_; rw [HW.out]))
          go_ret
          exact ⟨by rw [HNo.out]; rfl, HBW.out⟩
        · have HYe := Lib.hid (HX.out (by rw [HF.out, decide_eq_false (show ¬ 100 < o.ls.length by omega), decide_eq_false (show ¬ 100 < o.L.xs.length by omega)]; rfl))
          go_wp2_with (first
            | (refine wpList_load_at rfl 42 _ rfl ⟨b, off + k * 38, none⟩ rfl (.agg cs) hld ?_)
            | (refine wpList_store_row rfl 42 _ _ rfl wr.heap.size cs rfl rfl 42 _ hz0 HI.out (by rw [HS.out]; rfl) hone ?_; rw [HW.out]))
          go_roundw
          case rel => exact ⟨k + 1, by go_num, by omega, HYe.out, HBW.out⟩
          case measure => simp [RowKit.intOf]; omega
    · obtain rfl : k = d.length := by omega
      have hkk : ¬ (d.length : Int) < (d.length : Int) := by omega
      have HE := Lib.hid (fewB_end HTK.out)
      go_wp2_with fail
      go_ret
      exact ⟨by rw [HE.out]; rfl, hB⟩
end Go.Proofs.Ytonhdkldacghoaa

/- What Low and Owner of package view answer, for every label and every object. -/
import Derived.Test.YtonhdkldacghoaaLevels
import Derived.Test.YtonhdkldacghoaaLeq
import Derived.Test.YtonhdkldacghoaaOb
import Derived.Lib.Hide
namespace Go.Proofs.Ytonhdkldacghoaa
open Go.RowKit Go.Sort Go.Shelf
attribute [local go_sem] Oper.semAt_some

def telS (l : Lab) (o : Lab) : Bool := freeS l.d l.xs && plainS o.d o.xs
def whS (x : Int × Int) : Bool := (x.1 == 0) && decide (x.2 < 4)
theorem isWithheld_any (x : Int × Int) (w : World) : Calls Try.prog 30 #[.int .i64 x.1, .int .i64 x.2] w fun e w' => e = .returned (.bool (whS x)) ∧ w' = w := by
  by_cases h1 : x.1 = 0
  · by_cases h2 : x.2 < 4 <;>
    · go_enter Try.func30, Try.ntmps30
      go_wp2
      go_ret
      exact ⟨by simp [whS, h1, h2], rfl⟩
  · go_enter Try.func30, Try.ntmps30
    go_wp2
    go_ret
    exact ⟨by simp [whS, h1], rfl⟩
theorem heap_cells {w : World} {b : Nat} {cs : Array Value} {t : TypeId} {fr : Nat × Nat} (h : w.heap[b]? = some (.cells cs t fr)) {f : Nat} {u : Value} (hu : cs[f]? = some u) : w.cell? ⟨b, f, none⟩ = some u := by
  rw [cell_of_row w b f cs t fr h]; exact hu
theorem box_ob {w : World} {b : Nat} {o : Ob} {t : TypeId} {fr : Nat × Nat} (h : w.heap[b]? = some (.cells o.cs t fr)) : ObAt w b 0 o := fun f u hu => by
  rw [Nat.zero_add]; exact heap_cells h hu

set_option maxHeartbeats 1000000 in
theorem canTell_any (l : Lab) (o : Ob) (w : World) (hl : CatsAt w l.p l.xs) (hm : l.xs.length ≤ maxLen) (ho : ObOk w o) :
    Calls Try.prog 28 #[l.val, .agg o.cs] w fun e w' => e = .returned (.bool (telS l o.L)) ∧ Below w.heap.size w w' := by
  obtain ⟨cs, hcs⟩ : ∃ cs, o.cs = cs := ⟨_, rfl⟩
  rw [hcs]
  have k5 : cs[5]? = some (.int .i64 o.L.d) := by rw [← hcs, Ob.head _ _ (by decide)]; rfl
  have k6 : cs[6]? = some (.slice o.L.p o.L.xs.length o.L.cap) := by rw [← hcs, Ob.head _ _ (by decide)]; rfl
  have HO := Lib.hid ho
  clear hcs ho
  obtain ⟨W, hW⟩ : ∃ W, (w.alloc (.cells #[.int .i64 l.d, .slice l.p l.xs.length l.cap] 25)).alloc (.cells cs 42) = W := ⟨_, rfl⟩
  have hB : Below w.heap.size w W := by rw [← hW]; go_grown
  have hz : W.heap.size = w.heap.size + 2 := by rw [← hW]; simp
  have c0 : W.cell? ⟨w.heap.size, 0, none⟩ = some (.int .i64 l.d) := by rw [← hW]; simp [go_sem]
  have c1 : W.cell? ⟨w.heap.size, 1, none⟩ = some (.slice l.p l.xs.length l.cap) := by rw [← hW]; simp [go_sem]
  have hH : W.heap[w.heap.size + 1]? = some (.cells cs 42) := by rw [← hW]; simpa using heap_alloc_new (w.alloc (.cells #[.int .i64 l.d, .slice l.p l.xs.length l.cap] 25)) (.cells cs 42)
  have d5 := heap_cells hH k5
  have d6 := heap_cells hH k6
  have HF := Lib.hid (Free_any l.d l.p l.cap l.xs W hm (hl.below hB))
  have HP := Lib.hid (fun X (hX : Below W.heap.size W X) => Plain_any o.L.d o.L.p o.L.cap o.L.xs X HO.out.Lm ((HO.out.below (hB.trans (hX.mono hB.size))).L))
  have hn0 : w.heap.size < W.heap.size := by omega
  have hn1 : w.heap.size + 1 < W.heap.size := by omega
  clear hl k5 k6 hH HO hz
  unfold Lab.val
  by_cases hf : freeS l.d l.xs = true
  · go_enter Try.func28, Try.ntmps28
    go_wp2_with (go_at_call 47; refine HF.out.mono ?_; rintro e w1 ⟨rfl, hb1⟩; refine Hid.out ?_)
    refine Lib.hid ?_
    have e5 := (hb1.cell (p := ⟨w.heap.size + 1, 5, none⟩) hn1).trans d5
    have e6 := (hb1.cell (p := ⟨w.heap.size + 1, 6, none⟩) hn1).trans d6
    clear d5 d6 c0 c1 hW
    go_wp2_with (go_at_call 48; refine (HP.out _ hb1).mono ?_; rintro e w2 ⟨rfl, hb2⟩)
    go_ret
    exact ⟨ret_bool (by simp [telS, hf]), hB.trans ((hb1.trans (hb2.mono hb1.size)).mono hB.size)⟩
  · have hf' : freeS l.d l.xs = false := by simpa using hf
    go_enter Try.func28, Try.ntmps28
    go_wp2_with (go_at_call 47; refine HF.out.mono ?_; rintro e w1 ⟨rfl, hb1⟩)
    go_ret
    exact ⟨ret_bool (by simp [telS, hf']), hB.trans (hb1.mono hB.size)⟩

def lowS (l o : Lab) : Bool := telS l o && (allV o.d l.d o.xs l.xs).all fun x => !(decide (x.2 < x.1) || whS x)
def ownS (k : Int) (l o : Lab) : Bool := (k == 4 || k == 5) && (telS l o && (allV o.d l.d o.xs l.xs).any whS)
theorem levels_any (va vb : Value) (da db : Int) (p q : Option Addr) (nx ny cx cy : Nat) (w : World) (ha : va = .agg #[.int .i64 da, .slice p nx cx]) (hb : vb = .agg #[.int .i64 db, .slice q ny cy]) :
    Calls Try.prog 29 #[va, vb] w fun e w' => e = .returned (.func (.func 49) #[] #[.pointer (some ⟨w.heap.size, 0, none⟩), .pointer (some ⟨w.heap.size + 1, 0, none⟩)]) ∧
      w' = (w.alloc (.cells #[.int .i64 da, .slice p nx cx] 25)).alloc (.cells #[.int .i64 db, .slice q ny cy] 25) := by
  subst ha hb
  go_enter Try.func29, Try.ntmps29
  go_wp2
  go_ret
  exact ⟨rfl, rfl⟩
theorem levels_stops (n : Nat) (hn : 1 ≤ n) (Ba Bb n₀ : Nat) (da db : Int) (p q : Option Addr) (cx cy : Nat) (xs ys : List (Int × Int)) (w : World)
    (hmx : xs.length ≤ maxLen) (hmy : ys.length ≤ maxLen) (hn₀ : n₀ ≤ w.heap.size) (hBa : Ba < w.heap.size) (hBb : Bb < w.heap.size)
    (a0 : w.cell? ⟨Ba, 0, none⟩ = some (.int .i64 da)) (a1 : w.cell? ⟨Ba, 1, none⟩ = some (.slice p xs.length cx)) (b0 : w.cell? ⟨Bb, 0, none⟩ = some (.int .i64 db)) (b1 : w.cell? ⟨Bb, 1, none⟩ = some (.slice q ys.length cy))
    (hx : CatsB n₀ w p xs) (hy : CatsB n₀ w q ys) :
    SeqStopsK Fence.wide n Try.prog 49 #[.pointer (some ⟨Ba, 0, none⟩), .pointer (some ⟨Bb, 0, none⟩)] encV (KpP n₀ Ba Bb) (fun zs => zs = allV da db xs ys) (fun pre => pre <+: allV da db xs ys) (xs.length + ys.length + 1) w := fun l J Jx W hW hJ _ hY h0 =>
  levels1_in n hn l Ba Bb n₀ W.heap.size da db p q cx cy xs ys J Jx hJ hmx hmy hY W (Nat.le_trans hn₀ hW.size) (Nat.lt_of_lt_of_le hBa hW.size) (Nat.lt_of_lt_of_le hBb hW.size)
    ((hW.cell (p := ⟨Ba, 0, none⟩) hBa).trans a0) ((hW.cell (p := ⟨Ba, 1, none⟩) hBa).trans a1) ((hW.cell (p := ⟨Bb, 0, none⟩) hBb).trans b0) ((hW.cell (p := ⟨Bb, 1, none⟩) hBb).trans b1)
    (hx.keep (hW.mono hn₀)) (hy.keep (hW.mono hn₀)) h0
end Go.Proofs.Ytonhdkldacghoaa

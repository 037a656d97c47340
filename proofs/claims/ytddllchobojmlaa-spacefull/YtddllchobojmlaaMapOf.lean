/- What mapOf, serves and pieceOf of package space answer. -/
import Derived.Test.YtddllchobojmlaaPInv
import Derived.Deep.Cut
namespace Go.Proofs.Ytddllchobojmlaa
open Go.RowKit Go.Sort
theorem end_b (m : Mp) (w : World) (h1 : -9223372036854775808 ≤ m.at_ + m.pg) (h2 : m.at_ + m.pg ≤ 9223372036854775807) : Calls Try.prog 22 #[mpV m] w fun e w' => e = .returned (.int .i64 (m.at_ + m.pg)) ∧ Below w.heap.size w w' :=
  (end_any m w h1 h2).mono fun _ _ ⟨he, hw⟩ => ⟨he, by rw [hw]; exact (Below.refl _ _).alloc (Nat.le_refl _) _⟩
def inM (g : Int) (m : Mp) : Bool := decide (m.at_ ≤ g) && decide (g < m.at_ + m.pg)
def findM (l : List Mp) (g : Int) : Option Mp := l.find? (inM g)
theorem findM_step (l : List Mp) (g : Int) (k : Nat) (h : k < l.length) : findM (l.drop k) g = if inM g l[k] = true then some l[k] else findM (l.drop (k + 1)) g := by
  unfold findM
  rw [List.drop_eq_getElem_cons h, List.find?_cons]
  split <;> simp_all
def mp0 : Mp := ⟨0, 0, 0, 0, 0, false, false⟩
def foundV : Option Mp → Value
  | some m => .tuple #[mpV m, .bool true]
  | none => .tuple #[mpV mp0, .bool false]
theorem mpB_cells {w : World} {B : Nat} {m : Mp} (h : w.heap[B]? = some (mpB m)) : MpAt w B 0 m ∧ ∀ i, w.frozen? ⟨B, i, none⟩ = false :=
  ⟨⟨by simp [World.cell?, h, mpB], by simp [World.cell?, h, mpB], by simp [World.cell?, h, mpB], by simp [World.cell?, h, mpB], by simp [World.cell?, h, mpB], by simp [World.cell?, h, mpB], by simp [World.cell?, h, mpB]⟩, fun i => by simp [World.frozen?, h, mpB]⟩
theorem mpB_at (w : World) (m : Mp) : MpAt (w.alloc (mpB m)) w.heap.size 0 m := ⟨by simp [mpB, go_sem], by simp [mpB, go_sem], by simp [mpB, go_sem], by simp [mpB, go_sem], by simp [mpB, go_sem], by simp [mpB, go_sem], by simp [mpB, go_sem]⟩
theorem set7_below {n B : Nat} {w w' : World} (h : Below n w w') (hB : n ≤ B) (v0 v1 v2 v3 v4 v5 v6 : Value) : Below n w (((((((w'.setCell ⟨B, 0, none⟩ v0).setCell ⟨B, 1, none⟩ v1).setCell ⟨B, 2, none⟩ v2).setCell ⟨B, 3, none⟩ v3).setCell ⟨B, 4, none⟩ v4).setCell ⟨B, 5, none⟩ v5).setCell ⟨B, 6, none⟩ v6) :=
  ((((((h.setCell (p := ⟨B, 0, none⟩) hB v0).setCell (p := ⟨B, 1, none⟩) hB v1).setCell (p := ⟨B, 2, none⟩) hB v2).setCell (p := ⟨B, 3, none⟩) hB v3).setCell (p := ⟨B, 4, none⟩) hB v4).setCell (p := ⟨B, 5, none⟩) hB v5).setCell (p := ⟨B, 6, none⟩) hB v6
set_option maxRecDepth 100000 in
set_option maxHeartbeats 2000000 in
theorem mapOf_any (p : Option Addr) (cap : Nat) (l : List Mp) (a : Int) (w : World) (h16 : l.length ≤ 16) (hg : ∀ x ∈ l, goodM x = true) (ha : 0 ≤ a) (ha2 : a < 18446744073709551616) (hc : MsAt w p l) :
    Calls Try.prog 28 #[.slice p l.length cap, .int .u64 a] w fun e w' => e = .returned (foundV (findM l (a / 64))) ∧ Below w.heap.size w w' := by
  go_enter Try.func28, Try.ntmps28
  go_wp2_with fail
  obtain ⟨W1, hW1⟩ : ∃ W1, w.alloc (.cells #[.int .i64 0, .int .i64 0, .int .i64 0, .int .i64 0, .int .i64 0, .bool false, .bool false] 24) = W1 := ⟨_, rfl⟩
  have hb1 : Below w.heap.size w W1 := by rw [← hW1]; exact (Below.refl _ _).alloc (Nat.le_refl _) _
  have hs1 : W1.heap.size = w.heap.size + 1 := by rw [← hW1]; simp
  have hB0 : W1.heap[w.heap.size]? = some (mpB mp0) := by rw [← hW1]; exact heap_new w _
  rw [hW1]
  clear hW1
  go_loopw [13] (fun i wr => ∃ k : Nat, k ≤ l.length ∧ i = .int .i64 k ∧ findM l (a / 64) = findM (l.drop k) (a / 64) ∧ Below W1.heap.size W1 wr) (fun i _ => l.length - (intOf i).toNat)
  case atStart => exact ⟨0, Nat.zero_le _, rfl, by simp, Below.refl _ _⟩
  case round =>
    obtain ⟨k, hk, rfl, hr, hb⟩ := hrel
    have HR := Lib.hid hr; clear hr
    have hbw : Below w.heap.size w wr := hb1.trans (hb.mono hb1.size)
    have hbs := hb.size
    have hB0r : wr.heap[w.heap.size]? = some (mpB mp0) := (hb.block _ (by omega)).trans hB0
    by_cases hlt : k < l.length
    · obtain ⟨b, off, rfl, hbl, hq⟩ := hc k hlt
      obtain ⟨c0, c1, c2, c3, c4, c5, c6⟩ := hq.below hbw hbl
      have hbr : b < wr.heap.size := Nat.lt_of_lt_of_le hbl hbw.size
      have HS := Lib.hid (findM_step l (a / 64) k hlt)
      have hki : (k : Int) < (l.length : Int) := by omega
      have hgk := ((goodM_iff _).1 (hg _ (List.getElem_mem hlt))).1
      have hu1 : IntKind.u64.wrap l[k].at_ = l[k].at_ := by rw [IntKind.wrap_u64]; omega
      have hu2 : IntKind.u64.wrap (l[k].at_ + l[k].pg) = l[k].at_ + l[k].pg := by rw [IntKind.wrap_u64]; omega
      clear hc hq
      by_cases h1 : l[k].at_ ≤ a / 64
      · by_cases h2 : a / 64 < l[k].at_ + l[k].pg
        · go_upto_region 6 with (go_at_call 22; refine (end_any l[k] _ (by omega) (by omega)).mono ?_; rintro e w1 ⟨rfl, hw1⟩; rw [hw1]; clear hw1 w1)
          obtain ⟨V, hV⟩ : ∃ V, (wr.alloc (.cells #[.int .i64 l[k].at_, .int .i64 l[k].pg, .int .i64 l[k].inn, .int .i64 l[k].id, .int .i64 l[k].fr, .bool l[k].wr, .bool l[k].rn] 24)).alloc (mpB l[k]) = V := ⟨_, rfl⟩
          have hbV : Below wr.heap.size wr V := by rw [← hV]; exact ((Below.refl _ _).alloc (Nat.le_refl _) _).alloc (by simp) _
          obtain ⟨z0, z1, z2, z3, z4, z5, z6⟩ : MpAt V wr.heap.size 0 l[k] := by rw [← hV]; exact (mpB_at wr l[k]).below ((Below.refl _ _).alloc (Nat.le_refl _) _) (by simp)
          have hB0v : V.heap[w.heap.size]? = some (mpB mp0) := (hbV.block _ (by omega)).trans hB0r
          obtain ⟨⟨y0, y1, y2, y3, y4, y5, y6⟩, hfz⟩ := mpB_cells hB0v
          have r0 := hfz 0; have r1 := hfz 1; have r2 := hfz 2; have r3 := hfz 3; have r4 := hfz 4; have r5 := hfz 5; have r6 := hfz 6
          rw [hV]
          clear hV hfz hB0v c0 c1 c2 c3 c4 c5 c6
          go_wp2
          refine bodyPost_ret (v := .tuple #[mpV l[k], .bool true]) (by simp [results, Try.results28, go_sem, mpV, y0, y1, y2, y3, y4, y5, y6]) rfl ⟨by rw [HR.out, HS.out, if_pos (by simp [inM]; omega)]; rfl, ?_⟩
          exact set7_below (hbw.trans (hbV.mono hbw.size)) (Nat.le_refl _) _ _ _ _ _ _ _
        · go_wp2_with (go_at_call 22; refine (end_any l[k] _ (by omega) (by omega)).mono ?_; rintro e w1 ⟨rfl, hw1⟩; rw [hw1]; clear hw1 w1)
          go_roundw
          case rel => exact ⟨k + 1, by omega, by go_num, by rw [HR.out, HS.out, if_neg (by simp [inM]; omega)], (hb.alloc hb.size _).alloc (by simp; omega) _⟩
          case measure => simp [intOf]; omega
      · go_wp2
        go_roundw
        case rel => exact ⟨k + 1, by omega, by go_num, by rw [HR.out, HS.out, if_neg (by simp [inM]; omega)], hb.alloc hb.size _⟩
        case measure => simp [intOf]; omega
    · obtain rfl : k = l.length := by omega
      have hkk : ¬ (l.length : Int) < (l.length : Int) := by omega
      obtain ⟨⟨y0, y1, y2, y3, y4, y5, y6⟩, hfz⟩ := mpB_cells hB0r
      have r0 := hfz 0; have r1 := hfz 1; have r2 := hfz 2; have r3 := hfz 3; have r4 := hfz 4; have r5 := hfz 5; have r6 := hfz 6
      clear hfz hc
      go_wp2
      refine bodyPost_ret (v := .tuple #[mpV mp0, .bool false]) (by simp [results, Try.results28, go_sem, mpV, mp0, y0, y1, y2, y3, y4, y5, y6]) rfl ⟨by rw [HR.out, List.drop_length]; rfl, ?_⟩
      exact set7_below hbw (Nat.le_refl _) _ _ _ _ _ _ _
end Go.Proofs.Ytddllchobojmlaa

/- With of both, names: as they are called. -/
import Derived.Test.YtnjmgholoigpkaaGen2
import Derived.Test.YtnjmgholoigpkaaRWith
import Derived.Test.YtnjmgholoigpkaaMake3
namespace Go.Proofs.Ytnjmgholoigpkaa
open Go.RowKit Go.Sort
/-- A label whose row lies at B or behind. -/
def RV (B : Nat) (l : ML) (v : Value) (W : World) : Prop := ∃ s, v = .agg #[.int .i64 l.1, s] ∧ Rw B W s l.2
theorem RV.below {B : Nat} {l : ML} {v : Value} {W W' : World} (h : RV B l v W) (hb : Below W.heap.size W W') : RV B l v W' := by
  obtain ⟨s, h1, h2⟩ := h
  exact ⟨s, h1, h2.below hb⟩
theorem RV.set {B : Nat} {l : ML} {v : Value} {W : World} (h : RV B l v W) {a : Addr} (ha : a.block < B) (u : Value) : RV B l v (W.setCell a u) := by
  obtain ⟨s, h1, h2⟩ := h
  exact ⟨s, h1, h2.set ha u⟩
theorem RV.mono {B B' : Nat} {l : ML} {v : Value} {W : World} (h : RV B l v W) (hB : B' ≤ B) : RV B' l v W := by
  obtain ⟨s, h1, h2⟩ := h
  exact ⟨s, h1, h2.mono hB⟩
theorem RV.zero (B : Nat) (W : World) : RV B (0, []) (.agg #[.int .i64 0, .slice none 0 0]) W := ⟨_, rfl, .inl ⟨rfl, rfl⟩⟩
theorem RV.form {B : Nat} {l : ML} {v : Value} {W : World} (h : RV B l v W) : ∃ p cap, v = .agg #[.int .i64 l.1, .slice p l.2.length cap] ∧ CatsAt W p l.2 ∧ l.2.length ≤ cap := by
  obtain ⟨s, rfl, hR⟩ := h
  obtain ⟨p, cap, rfl, h1, h2⟩ := hR.out
  exact ⟨p, cap, rfl, h1, h2⟩
def labM (l : ML) : Lab := ⟨l.1, none, 0, l.2⟩
def wM (l : ML) (cat lv : Int) : ML := (wD (labM l) cat lv, wL (labM l) cat lv)
def wX (l : ML) (cat lv : Int) : Int := wE (labM l) cat lv
theorem rOk_can {d : Int} : ∀ {l : Int} {xs : List (Int × Int)}, rOk d l xs = true → ∀ x ∈ xs, can x = true
  | _, [], _, x, hx => by simp at hx
  | l, y :: xs, h, x, hx => by
    simp only [rOk, Bool.and_eq_true] at h
    rcases List.mem_cons.1 hx with rfl | hx
    · exact h.1.1.1
    · exact rOk_can h.2 x hx
theorem right_can {l : ML} (h : rightM l = true) : ∀ x ∈ l.2, can x = true := by
  unfold rightM rightS at h
  rw [Bool.and_eq_true] at h
  exact rOk_can h.2
theorem With_c {l : ML} {v : Value} {W : World} (h : LV l v W) (hr : rightM l = true) (cat lv : Int) : Calls Try.prog 43 #[v, .int .i64 cat, .int .i64 lv] W fun e W' => ∃ x, e = .returned (.tuple #[x, .int .i64 (wX l cat lv)]) ∧ Below W.heap.size W W' ∧ RV W.heap.size (wM l cat lv) x W' := by
  obtain ⟨p, cap, rfl, h1, h2, h3⟩ := h
  refine (With_any ⟨l.1, p, cap, l.2⟩ cat lv W hr (right_can hr) h1).mono ?_
  rintro e W' ⟨v, rfl, hR, hb⟩
  exact ⟨_, rfl, hb, v, rfl, hR⟩
theorem rWith_c {l : ML} {v : Value} {W : World} (h : LV l v W) (cat lv : Int) : Calls Try.prog 45 #[v, .int .i64 cat, .int .i64 lv] W fun e W' => ∃ x, e = .returned (.tuple #[x, .int .i64 (wX l cat lv)]) ∧ Below W.heap.size W W' ∧ RV W.heap.size (wM l cat lv) x W' := by
  obtain ⟨p, cap, rfl, h1, h2, h3⟩ := h
  refine (rWith_any ⟨l.1, p, cap, l.2⟩ cat lv W (by show l.2.length ≤ _; omega) h1).mono ?_
  rintro e W' ⟨v, rfl, hR, hb⟩
  exact ⟨_, rfl, hb, v, rfl, hR⟩
theorem wM_len (l : ML) (cat lv : Int) : (wM l cat lv).2.length ≤ 16 := by
  show (wL (labM l) cat lv).length ≤ 16
  unfold wL
  split
  · unfold fitL; split <;> simp_all
  · simp
set_option maxRecDepth 100000 in
set_option maxHeartbeats 1000000 in
theorem IndexI_c {cs : List Int} {v : Value} {w : World} (h : IV cs v w) (x : Int) (hn : cs.length < 1000000) :
    Calls Try.prog 89 #[v, .int .i64 x] w fun e w' => e = .returned (.int .i64 (idxP (fun y => x == y) cs 0)) ∧ w' = w := by
  obtain ⟨p, cap, rfl⟩ := h.form
  have HI := Lib.hid h
  clear h
  go_enter Try.func89, Try.ntmps89
  go_wp2_with fail
  go_loopw [8] (fun y wr => ∃ k : Nat, y = .int .i64 k ∧ k ≤ cs.length ∧ idxP (fun y => x == y) cs 0 = idxP (fun y => x == y) (cs.drop k) k ∧ w = wr) (fun y _ => (cs.length - (RowKit.intOf y).toNat))
  case atStart => exact ⟨0, rfl, Nat.zero_le _, by simp, rfl⟩
  case round =>
    obtain ⟨k, rfl, hk, hx, rfl⟩ := hrel
    have HX := Lib.hid hx
    clear hx
    by_cases hlt : k < cs.length
    · have hki : (k : Int) < (cs.length : Int) := by omega
      obtain ⟨g, rfl, hg, c0⟩ := iv_cell HI.out k hlt
      have HST := Lib.hid (idxP_step (fun y => x == y) cs k hlt)
      by_cases he : (x == cs[k]) = true
      · go_wp2
        go_ret
        exact ⟨by rw [HX.out, HST.out, if_pos he]; rfl, rfl⟩
      · have he' : (x == cs[k]) = false := by simpa using he
        go_wp2
        go_roundw
        case rel => exact ⟨k + 1, by go_num, by omega, by rw [HX.out, HST.out, if_neg he], trivial⟩
        case measure => simp [RowKit.intOf]; omega
    · obtain rfl : k = cs.length := by omega
      have hkk : ¬ (cs.length : Int) < (cs.length : Int) := by omega
      go_wp2
      go_ret
      exact ⟨by rw [HX.out, List.drop_length]; rfl, rfl⟩
theorem ContainsI_c {cs : List Int} {v : Value} {w : World} (h : IV cs v w) (x : Int) (hn : cs.length < 1000000) :
    Calls Try.prog 66 #[v, .int .i64 x] w fun e w' => e = .returned (.bool (cs.any fun y => x == y)) ∧ w' = w := by
  have H := Lib.hid (IndexI_c h x hn)
  obtain ⟨p, cap, rfl⟩ := h.form
  have hd := Lib.hid (idxP_any (fun y => x == y) cs 0)
  clear h
  go_enter Try.func66, Try.ntmps66
  go_wp2_with (go_at_call 89; refine H.out.mono ?_; rintro e w1 ⟨rfl, hw1⟩; rw [hw1]; clear hw1 w1)
  go_ret
  exact ⟨by show Ending.returned (Value.bool (decide _)) = _; rw [hd.out], rfl⟩
def nmB (l : ML) (cat : Int) : Bool := (namL [l]).any fun y => cat == y
set_option maxRecDepth 100000 in
theorem names_c {l : ML} {v u : Value} {w : World} {cat : Int} (h : LV l v w) (hu : u = .int .i64 cat) : Calls Try.prog 42 #[v, u] w fun e w' => ∃ v', e = .returned v' ∧ Below w.heap.size w w' ∧ v' = .bool (nmB l cat) := by
  subst hu
  obtain ⟨p, cap, rfl, h1, h2, h3⟩ := id h
  have hA : Below w.heap.size w (w.alloc (.cells #[.int .i64 l.1, .slice p l.2.length cap] 24)) := by go_grown
  have hlen : (namL [l]).length < 1000000 := by
    have := namL_len [l] (fun x hx => by simp at hx; subst hx; exact h3)
    simp at this; omega
  have hL : LsV [l] (.slice (some ⟨w.heap.size + 1, 0, none⟩) 1 1) ((w.alloc (.cells #[.int .i64 l.1, .slice p l.2.length cap] 24)).alloc (.cells #[.int .i64 l.1, .slice p l.2.length cap] 24)) :=
    ⟨_, rfl, by simp, fun j hj => by
      obtain rfl : j = 0 := by simp at hj; omega
      exact ⟨p, cap, by simp, by simp [go_sem], by simp [go_sem], h1.below (by go_grown), h2, h3⟩⟩
  have HN := Lib.hid (named_c hL (by simp))
  have hA2 : Below w.heap.size w ((w.alloc (.cells #[.int .i64 l.1, .slice p l.2.length cap] 24)).alloc (.cells #[.int .i64 l.1, .slice p l.2.length cap] 24)) := by go_grown
  clear hL h1 h
  go_enter Try.func42, Try.ntmps42
  go_wp2_with (first
    | (go_at_call 47; refine HN.out.mono ?_; rintro e w1 ⟨v1, rfl, hb1, hI⟩; have HC := Lib.hid (ContainsI_c hI cat hlen); obtain ⟨p1, c1, rfl⟩ := hI.form; clear hI)
    | (go_at_call 66; refine HC.out.mono ?_; rintro e w2 ⟨rfl, hw2⟩; rw [hw2]; clear hw2 w2))
  go_ret
  exact ⟨_, rfl, hA2.trans (hb1.mono (by simp <;> omega)), rfl⟩
end Go.Proofs.Ytnjmgholoigpkaa

/- The reference's table in memory, and what At, box, Links answer. -/
import Derived.Test.YtebcnlhgkpaghaaSameX
namespace Go.Proofs.Ytebcnlhgkpaghaa
open Go.RowKit Go.Sort
/-- A thing of the reference's table, and where its label's entries and its own entries lie. -/
structure Th where
  id : Int
  kind : Int
  quota : Int
  df : Int
  cp : Option Addr
  cc : Nat
  cats : List (Int × Int)
  lp : Option Addr
  lc : Nat
  ents : List Int
def thC (t : Th) : List Value := [.int .i64 t.id, .int .i64 t.kind, .int .i64 t.quota, .int .i64 t.df, .slice t.cp t.cats.length t.cc, .slice t.lp t.ents.length t.lc]
def thsC : List Th → List Value
  | [] => []
  | t :: l => thC t ++ thsC l
theorem thsC_len : ∀ l : List Th, (thsC l).length = l.length * 6
  | [] => rfl
  | t :: l => by rw [thsC, List.length_append, thsC_len l]; simp [thC]; omega
theorem thsC_app : ∀ a b : List Th, thsC (a ++ b) = thsC a ++ thsC b
  | [], b => rfl
  | t :: a, b => by rw [List.cons_append, thsC, thsC, thsC_app a b, List.append_assoc]
theorem thsC_one (t : Th) : thsC [t] = thC t := by simp [thsC]
theorem thC_cell (t : Th) : ∀ u ∈ thC t, u.oneCell' = true := fun u hu => by
  simp only [thC, List.mem_cons, List.not_mem_nil, or_false] at hu
  rcases hu with rfl | rfl | rfl | rfl | rfl | rfl <;> rfl
theorem thsC_cell : ∀ l : List Th, ∀ u ∈ thsC l, u.oneCell' = true
  | [], u, h => by cases h
  | t :: l, u, h => by
    rcases List.mem_append.1 h with h | h
    · exact thC_cell t u h
    · exact thsC_cell l u h
theorem thsC_at : ∀ (l : List Th) (k : Nat) (hk : k < l.length) (j : Nat), j < 6 → (thsC l)[k * 6 + j]? = (thC l[k])[j]?
  | [], k, hk, _, _ => by cases hk
  | t :: l, 0, _, j, hj => by
    rw [thsC, List.getElem?_append_left (by simp [thC]; omega)]; simp
  | t :: l, k + 1, hk, j, hj => by
    have hl : (thC t).length = 6 := rfl
    rw [thsC, List.getElem?_append_right (by rw [hl]; omega), hl, show (k + 1) * 6 + j - 6 = k * 6 + j from by omega]
    exact thsC_at l k (by simpa using hk) j hj
/-- A slice that lies outside some blocks, if it has anything. -/
def Off (P : Nat → Prop) (p : Option Addr) (n : Nat) : Prop := 0 < n → ∀ a, p = some a → ¬ P a.block
/-- The reference's table lies at rb, its things at g; what they name lies elsewhere, and outside F. -/
structure RS (w : World) (rb g cap : Nat) (cs : Array Value) (root : Int) (L : List Th) (F : Nat → Prop) : Prop where
  tab : w.heap[rb]? = some (.cells #[.int .i64 root, .slice (some ⟨g, 0, none⟩) L.length cap] 63 (0, 0))
  blk : w.heap[g]? = some (.cells cs 60 (0, 0))
  sz : cs.size = cap * 6
  le : L.length ≤ cap
  cel : ∀ (j : Nat) (u : Value), (thsC L)[j]? = some u → cs[j]? = some u
  cat : ∀ t ∈ L, CatsAt w t.cp t.cats ∧ IntsAt w t.lp t.ents
  out : ∀ t ∈ L, Off (fun b => b = rb ∨ b = g ∨ F b) t.cp t.cats.length ∧ Off (fun b => b = rb ∨ b = g ∨ F b) t.lp t.ents.length
  frb : ¬ F rb
  frg : ¬ F g
  nd : (L.map (·.id)).Nodup
  lim : L.length ≤ 4096 ∧ ∀ t ∈ L, t.cats.length < 1000000 ∧ t.ents.length < 1000000
  cpl : cap ≤ maxLen
  fl : ∀ k, F k → k < w.heap.size
theorem RS.ne {w : World} {rb g cap : Nat} {cs : Array Value} {root : Int} {L : List Th} {F : Nat → Prop} (h : RS w rb g cap cs root L F) : rb ≠ g := fun e => by
  have h1 := h.tab
  rw [e, h.blk] at h1
  simp at h1
theorem RS.rl {w : World} {rb g cap : Nat} {cs : Array Value} {root : Int} {L : List Th} {F : Nat → Prop} (h : RS w rb g cap cs root L F) : rb < w.heap.size ∧ g < w.heap.size :=
  ⟨(Array.getElem?_eq_some_iff.1 h.tab).1, (Array.getElem?_eq_some_iff.1 h.blk).1⟩
theorem cats_keep {w w' : World} {p : Option Addr} {xs : List (Int × Int)} {P : Nat → Prop} (h : CatsAt w p xs) (ho : Off P p xs.length) (hs : ∀ k, k < w.heap.size → ¬ P k → w'.heap[k]? = w.heap[k]?) (hz : w.heap.size ≤ w'.heap.size) : CatsAt w' p xs := fun j hj => by
  obtain ⟨b, off, hp, hbl, c0, c1⟩ := h j hj
  have e := hs b hbl (ho (Nat.lt_of_le_of_lt (Nat.zero_le _) hj) _ hp)
  exact ⟨b, off, hp, Nat.lt_of_lt_of_le hbl hz, (World.cell?_of_block (a := ⟨b, off + j * 2, none⟩) e).trans c0, (World.cell?_of_block (a := ⟨b, off + j * 2 + 1, none⟩) e).trans c1⟩
theorem ints_keep {w w' : World} {p : Option Addr} {xs : List Int} {P : Nat → Prop} (h : IntsAt w p xs) (ho : Off P p xs.length) (hs : ∀ k, k < w.heap.size → ¬ P k → w'.heap[k]? = w.heap[k]?) (hz : w.heap.size ≤ w'.heap.size) : IntsAt w' p xs := fun j hj => by
  obtain ⟨b, off, hp, hbl, c0⟩ := h j hj
  have e := hs b hbl (ho (Nat.lt_of_le_of_lt (Nat.zero_le _) hj) _ hp)
  exact ⟨b, off, hp, Nat.lt_of_lt_of_le hbl hz, (World.cell?_of_block (a := ⟨b, off + j, none⟩) e).trans c0⟩
section
variable {w : World} {rb g cap : Nat} {cs : Array Value} {root : Int} {L : List Th} {F : Nat → Prop}
/-- Where nothing turns but what lies in F (hold's own), and that stays apart. -/
theorem RS.keep {w' : World} {F' : Nat → Prop} (h : RS w rb g cap cs root L F) (hs : ∀ k, k < w.heap.size → ¬ F k → w'.heap[k]? = w.heap[k]?) (hz : w.heap.size ≤ w'.heap.size) (hF : ∀ k, F' k → F k ∨ w.heap.size ≤ k) (hl : ∀ k, F' k → k < w'.heap.size) : RS w' rb g cap cs root L F' := by
  have hr := h.rl
  have no : ∀ k, k < w.heap.size → ¬ F k → ¬ F' k := fun k hk hn hf => by
    rcases hF k hf with h1 | h1
    · exact hn h1
    · omega
  refine ⟨(hs rb hr.1 h.frb).trans h.tab, (hs g hr.2 h.frg).trans h.blk, h.sz, h.le, h.cel, fun t ht => ?_, fun t ht => ?_, no rb hr.1 h.frb, no g hr.2 h.frg, h.nd, h.lim, h.cpl, hl⟩
  · obtain ⟨c1, c2⟩ := h.cat t ht
    obtain ⟨o1, o2⟩ := h.out t ht
    have hs' : ∀ k, k < w.heap.size → ¬ (k = rb ∨ k = g ∨ F k) → w'.heap[k]? = w.heap[k]? := fun k hk hn => hs k hk (fun hf => hn (.inr (.inr hf)))
    exact ⟨cats_keep c1 o1 hs' hz, ints_keep c2 o2 hs' hz⟩
  · obtain ⟨c1, c2⟩ := h.cat t ht
    obtain ⟨o1, o2⟩ := h.out t ht
    refine ⟨fun hn a ha hb => ?_, fun hn a ha hb => ?_⟩
    · rcases hb with hb | hb | hb
      · exact o1 hn a ha (.inl hb)
      · exact o1 hn a ha (.inr (.inl hb))
      · obtain ⟨b, off, hp, hbl, _⟩ := c1 0 hn
        rw [ha] at hp; cases hp
        exact no _ hbl (fun hf => o1 hn _ ha (.inr (.inr hf))) hb
    · rcases hb with hb | hb | hb
      · exact o2 hn a ha (.inl hb)
      · exact o2 hn a ha (.inr (.inl hb))
      · obtain ⟨b, off, hp, hbl, _⟩ := c2 0 hn
        rw [ha] at hp; cases hp
        exact no _ hbl (fun hf => o2 hn _ ha (.inr (.inr hf))) hb
theorem RS.below {w' : World} (h : RS w rb g cap cs root L F) (hb : Below w.heap.size w w') : RS w' rb g cap cs root L F :=
  h.keep (fun k hk _ => hb.block k hk) hb.size (fun _ hk => .inl hk) (fun k hk => Nat.lt_of_lt_of_le (h.fl k hk) hb.size)
theorem RS.own (h : RS w rb g cap cs root L F) (b : Nat) (hb : b ≤ g) : w.ownsRow b 60 6 (.slice (some ⟨g, 0, none⟩) L.length cap) L.length (thsC L) := by
  have hl := thsC_len L
  have hsz := h.sz
  have hle := h.le
  refine ⟨hl, .inr ⟨g, cap, cs, rfl, hb, h.blk, h.le, h.cpl, h.sz, ?_⟩⟩
  apply List.ext_getElem? 
  intro j
  by_cases hj : j < L.length * 6
  · have hj' : j < (thsC L).length := by rw [hl]; exact hj
    rw [List.getElem?_take_of_lt hj, List.getElem?_eq_getElem hj', Array.getElem?_toList]
    exact h.cel j _ (List.getElem?_eq_getElem hj')
  · rw [List.getElem?_eq_none (by simp; omega), List.getElem?_eq_none (by omega)]
theorem RS.hd (h : RS w rb g cap cs root L F) : w.cell? ⟨rb, 0, none⟩ = some (.int .i64 root) ∧ w.cell? ⟨rb, 1, none⟩ = some (.slice (some ⟨g, 0, none⟩) L.length cap) :=
  ⟨by simp [World.cell?, h.tab], by simp [World.cell?, h.tab]⟩
theorem RS.at_ (h : RS w rb g cap cs root L F) {k : Nat} (hk : k < L.length) (j : Nat) (hj : j < 6) {u : Value} (hu : (thC L[k])[j]? = some u) : w.cell? ⟨g, k * 6 + j, none⟩ = some u := by
  have := h.cel (k * 6 + j) u (by rw [thsC_at L k hk j hj]; exact hu)
  simp [World.cell?, h.blk, this]
theorem RS.six (h : RS w rb g cap cs root L F) {k : Nat} (hk : k < L.length) :
    w.cell? ⟨g, k * 6, none⟩ = some (.int .i64 L[k].id) ∧ w.cell? ⟨g, k * 6 + 1, none⟩ = some (.int .i64 L[k].kind) ∧ w.cell? ⟨g, k * 6 + 2, none⟩ = some (.int .i64 L[k].quota) ∧ w.cell? ⟨g, k * 6 + 3, none⟩ = some (.int .i64 L[k].df) ∧ w.cell? ⟨g, k * 6 + 4, none⟩ = some (.slice L[k].cp L[k].cats.length L[k].cc) ∧ w.cell? ⟨g, k * 6 + 5, none⟩ = some (.slice L[k].lp L[k].ents.length L[k].lc) :=
  ⟨h.at_ hk 0 (by omega) rfl, h.at_ hk 1 (by omega) rfl, h.at_ hk 2 (by omega) rfl, h.at_ hk 3 (by omega) rfl, h.at_ hk 4 (by omega) rfl, h.at_ hk 5 (by omega) rfl⟩
/-- Where the thing of a number is, -1: nowhere. -/
def atL : List Th → Int → Nat → Int
  | [], _, _ => -1
  | t :: l, id, k => if t.id = id then (k : Int) else atL l id (k + 1)
theorem atL_step {L : List Th} {k : Nat} (hk : k < L.length) (id : Int) : atL (L.drop k) id k = if L[k].id = id then (k : Int) else atL (L.drop (k + 1)) id (k + 1) := by
  rw [List.drop_eq_getElem_cons hk]; rfl
set_option maxRecDepth 100000 in
set_option maxHeartbeats 1000000 in
theorem rAt_any (h : RS w rb g cap cs root L F) (id : Int) : Calls Try.prog 51 #[.pointer (some ⟨rb, 0, none⟩), .int .i64 id] w fun e w' => e = .returned (.int .i64 (atL L id 0)) ∧ w' = w := by
  obtain ⟨h0, h1⟩ := h.hd
  have hl := h.lim.1
  have H6 := Lib.hid (fun k hk => h.six (k := k) hk)
  have HS := Lib.hid (fun k hk => atL_step (L := L) (k := k) hk id)
  clear h
  go_enter Try.func51, Try.ntmps51
  go_wp2_with fail
  go_loopw [11] (fun y wr => ∃ k : Nat, y = .int .i64 k ∧ k ≤ L.length ∧ atL L id 0 = atL (L.drop k) id k ∧ w = wr) (fun y _ => (L.length - (RowKit.intOf y).toNat))
  case atStart => exact ⟨0, rfl, Nat.zero_le _, rfl, rfl⟩
  case round =>
    obtain ⟨k, rfl, hk, htk, rfl⟩ := hrel
    have HT := Lib.hid htk
    clear htk
    by_cases hlt : k < L.length
    · have hki : (k : Int) < (L.length : Int) := by omega
      obtain ⟨c0, _⟩ := H6.out k hlt
      have hs := HS.out k hlt
      by_cases he : L[k].id = id
      · have heb : (L[k].id == id) = true := by simp [he]
        rw [if_pos he] at hs
        have HH := Lib.hid (HT.out.trans hs)
        clear hs
        go_wp2_with fail
        go_ret
        exact ⟨by rw [HH.out]; rfl, rfl⟩
      · have heb : (L[k].id == id) = false := by simp [he]
        rw [if_neg he] at hs
        have HH := Lib.hid (HT.out.trans hs)
        clear hs
        go_wp2_with fail
        go_roundw
        case rel => exact ⟨k + 1, by go_num, by omega, HH.out, trivial⟩
        case measure => simp [RowKit.intOf]; omega
    · obtain rfl : k = L.length := by omega
      have hkk : ¬ (L.length : Int) < (L.length : Int) := by omega
      have HH : Hid (atL L id 0 = -1) := by simp only [Hid]; rw [HT.out, List.drop_of_length_le (Nat.le_refl _)]; rfl
      go_wp2_with fail
      go_ret
      exact ⟨by rw [HH.out]; rfl, rfl⟩
/-- How many things have it as an entry, and one more for the root. -/
def lkC (L : List Th) (id : Int) : Nat := (L.filter fun t => inB t.ents id).length
theorem lkC_step {L : List Th} {k : Nat} (hk : k < L.length) (id : Int) : lkC (L.take (k + 1)) id = lkC (L.take k) id + (if inB L[k].ents id = true then 1 else 0) := by
  unfold lkC
  rw [List.take_succ_eq_append_getElem hk, List.filter_append, List.length_append]
  congr 1
  by_cases h : inB L[k].ents id = true <;> simp [h]
theorem lkC_le (L : List Th) (id : Int) : lkC L id ≤ L.length := List.length_filter_le _ _
def lkL (root : Int) (L : List Th) (id : Int) : Int := (if id = root then 1 else 0) + lkC L id
set_option maxRecDepth 100000 in
set_option maxHeartbeats 2000000 in
theorem rLinks_any (h : RS w rb g cap cs root L F) (id : Int) : Calls Try.prog 55 #[.pointer (some ⟨rb, 0, none⟩), .int .i64 id] w fun e w' => e = .returned (.int .i64 (lkL root L id)) ∧ w' = w := by
  obtain ⟨h0, h1⟩ := h.hd
  have hl := h.lim.1
  have H6 := Lib.hid (fun k hk => h.six (k := k) hk)
  have HI := Lib.hid (fun k (hk : k < L.length) => In_any w L[k].lp L[k].lc L[k].ents id (h.cat _ (List.getElem_mem hk)).2 (h.lim.2 _ (List.getElem_mem hk)).2)
  have HS := Lib.hid (fun k hk => lkC_step (L := L) (k := k) hk id)
  have HL := Lib.hid (fun k => lkC_le (L.take k) id)
  have key : ∀ z : Int, (z = 0 ∨ z = 1) → (z = if id = root then 1 else 0) → Hid (lkL root L id = z + lkC L id) := fun z _ hz => by simp only [Hid, lkL, hz]
  clear h
  by_cases hr : id = root
  all_goals
    go_enter Try.func55, Try.ntmps55
  · subst hr
    have HK := key 1 (.inr rfl) (by simp)
    clear key
    go_wp2_with fail
    go_loopw [5, 18] (fun z y wr => ∃ k : Nat, y = .int .i64 k ∧ k ≤ L.length ∧ z = .int .i64 (1 + lkC (L.take k) id) ∧ w = wr) (fun _ y _ => (L.length - (RowKit.intOf y).toNat))
    case atStart => exact ⟨0, rfl, Nat.zero_le _, rfl, rfl⟩
    case round =>
      obtain ⟨k, rfl, hk, rfl, rfl⟩ := hrel
      by_cases hlt : k < L.length
      · have hki : (k : Int) < (L.length : Int) := by omega
        obtain ⟨_, _, _, _, _, c5⟩ := H6.out k hlt
        have hs := Lib.hid (HS.out k hlt)
        have hli := HL.out k
        have hlk : (L.take k).length = k := by simp; omega
        rw [hlk] at hli
        have HIk := Lib.hid (HI.out k hlt)
        by_cases he : inB L[k].ents id = true
        · have HH : Hid (lkC (L.take (k + 1)) id = lkC (L.take k) id + 1) := by simp only [Hid]; rw [hs.out, if_pos he]
          go_wp2_with (go_at_call 54; refine (HIk.out).mono ?_; rintro e w' ⟨rfl, hw'⟩; rw [hw']; clear hw' w')
          go_roundw
          case rel => exact ⟨k + 1, by go_num, by omega, by rw [HH.out]; go_num, trivial⟩
          case measure => simp [RowKit.intOf]; omega
        · have he' : inB L[k].ents id = false := by simpa using he
          have HH : Hid (lkC (L.take (k + 1)) id = lkC (L.take k) id) := by simp only [Hid]; rw [hs.out, if_neg he]; rfl
          go_wp2_with (go_at_call 54; refine (HIk.out).mono ?_; rintro e w' ⟨rfl, hw'⟩; rw [hw']; clear hw' w')
          go_roundw
          case rel => exact ⟨k + 1, by go_num, by omega, by rw [HH.out], trivial⟩
          case measure => simp [RowKit.intOf]; omega
      · obtain rfl : k = L.length := by omega
        have hkk : ¬ (L.length : Int) < (L.length : Int) := by omega
        go_wp2_with fail
        go_ret
        exact ⟨by rw [HK.out]; first | rfl | (rw [List.take_length]; rfl), rfl⟩
  · have hrb : (id == root) = false := by simp [hr]
    have HK := key 0 (.inl rfl) (by simp [hr])
    clear key
    go_wp2_with fail
    go_loopw [5, 18] (fun z y wr => ∃ k : Nat, y = .int .i64 k ∧ k ≤ L.length ∧ z = .int .i64 (0 + lkC (L.take k) id) ∧ w = wr) (fun _ y _ => (L.length - (RowKit.intOf y).toNat))
    case atStart => exact ⟨0, rfl, Nat.zero_le _, rfl, rfl⟩
    case round =>
      obtain ⟨k, rfl, hk, rfl, rfl⟩ := hrel
      by_cases hlt : k < L.length
      · have hki : (k : Int) < (L.length : Int) := by omega
        obtain ⟨_, _, _, _, _, c5⟩ := H6.out k hlt
        have hs := Lib.hid (HS.out k hlt)
        have hli := HL.out k
        have hlk : (L.take k).length = k := by simp; omega
        rw [hlk] at hli
        have HIk := Lib.hid (HI.out k hlt)
        by_cases he : inB L[k].ents id = true
        · have HH : Hid (lkC (L.take (k + 1)) id = lkC (L.take k) id + 1) := by simp only [Hid]; rw [hs.out, if_pos he]
          go_wp2_with (go_at_call 54; refine (HIk.out).mono ?_; rintro e w' ⟨rfl, hw'⟩; rw [hw']; clear hw' w')
          go_roundw
          case rel => exact ⟨k + 1, by go_num, by omega, by rw [HH.out]; go_num, trivial⟩
          case measure => simp [RowKit.intOf]; omega
        · have he' : inB L[k].ents id = false := by simpa using he
          have HH : Hid (lkC (L.take (k + 1)) id = lkC (L.take k) id) := by simp only [Hid]; rw [hs.out, if_neg he]; rfl
          go_wp2_with (go_at_call 54; refine (HIk.out).mono ?_; rintro e w' ⟨rfl, hw'⟩; rw [hw']; clear hw' w')
          go_roundw
          case rel => exact ⟨k + 1, by go_num, by omega, by rw [HH.out]; simp, trivial⟩
          case measure => simp [RowKit.intOf]; omega
      · obtain rfl : k = L.length := by omega
        have hkk : ¬ (L.length : Int) < (L.length : Int) := by omega
        go_wp2_with fail
        go_ret
        exact ⟨by rw [HK.out, Int.zero_add]; rfl, rfl⟩
end
end Go.Proofs.Ytebcnlhgkpaghaa

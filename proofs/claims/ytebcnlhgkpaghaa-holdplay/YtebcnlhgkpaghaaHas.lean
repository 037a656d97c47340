/- has, entry, Link of package hold. -/
import Derived.Test.YtebcnlhgkpaghaaMake
namespace Go.Proofs.Ytebcnlhgkpaghaa
open Go.RowKit Go.Sort
/-- Where a number stands first; -1: nowhere. -/
def idxI (x : Int) : List Int → Nat → Int
  | [], _ => -1
  | y :: l, k => if (x == y) = true then (k : Int) else idxI x l (k + 1)
theorem idxI_step (x : Int) (l : List Int) (k : Nat) (h : k < l.length) : idxI x (l.drop k) k = if (x == l[k]) = true then (k : Int) else idxI x (l.drop (k + 1)) (k + 1) := by
  rw [List.drop_eq_getElem_cons h]; rfl
theorem idxI_any (x : Int) (l : List Int) (k : Nat) : decide (0 ≤ idxI x l k) = l.contains x := by
  induction l generalizing k with
  | nil => simp [idxI]
  | cons y l ih =>
    by_cases h : (x == y) = true
    · simp [idxI, h]; left; simpa using h
    · have h' : (x == y) = false := by simpa using h
      simp only [idxI, h', Bool.false_eq_true, if_false, ih (k + 1), List.contains_cons, Bool.false_or]
set_option maxRecDepth 100000 in
set_option maxHeartbeats 1000000 in
theorem Index_any (base : Nat) (iv : Value) (l : List Int) (x : Int) (w : World) (hn : l.length < 1000000) (hr : w.ownsRow base 3 1 iv l.length (ivs l)) :
    Calls Try.prog 72 #[iv, .int .i64 x] w fun e w' => e = .returned (.int .i64 (idxI x l 0)) ∧ w' = w := by
  obtain ⟨sp, cap, rfl⟩ := row_form hr
  have HR := Lib.hid hr
  clear hr
  go_enter Try.func72, Try.ntmps72
  go_wp2_with fail
  go_loopw [8] (fun y wr => ∃ k : Nat, y = .int .i64 k ∧ k ≤ l.length ∧ idxI x l 0 = idxI x (l.drop k) k ∧ w = wr) (fun y _ => (l.length - (RowKit.intOf y).toNat))
  case atStart => exact ⟨0, rfl, Nat.zero_le _, by simp, rfl⟩
  case round =>
    obtain ⟨k, rfl, hk, hx, rfl⟩ := hrel
    have HX := Lib.hid hx
    clear hx
    by_cases hlt : k < l.length
    · have hki : (k : Int) < (l.length : Int) := by omega
      have hst := idxI_step x l k hlt
      have HST := Lib.hid hst
      clear hst
      obtain ⟨g, rfl⟩ : ∃ g, sp = some ⟨g, 0, none⟩ := by
        rcases HR.out.2 with ⟨h', _⟩ | ⟨g', cap', cur, h', _⟩
        · simp at h'; omega
        · simp at h'; exact ⟨g', h'.1⟩
      have c0 : w.cell? ⟨g, k, none⟩ = some (.int .i64 l[k]) := (HR.out.cellAt k (by omega)).trans (by unfold ivs; simp [hlt])
      by_cases he : (x == l[k]) = true
      · go_wp2
        go_ret
        exact ⟨by rw [HX.out, HST.out, if_pos he]; rfl, rfl⟩
      · have he' : (x == l[k]) = false := by simpa using he
        go_wp2
        go_roundw
        case rel => exact ⟨k + 1, by go_num, by omega, by rw [HX.out, HST.out, if_neg he], trivial⟩
        case measure => simp [RowKit.intOf]; omega
    · obtain rfl : k = l.length := by omega
      have hkk : ¬ (l.length : Int) < (l.length : Int) := by omega
      go_wp2
      go_ret
      exact ⟨by rw [HX.out, List.drop_length]; rfl, rfl⟩
theorem Contains_any (base : Nat) (iv : Value) (l : List Int) (x : Int) (w : World) (hn : l.length < 1000000) (hr : w.ownsRow base 3 1 iv l.length (ivs l)) :
    Calls Try.prog 63 #[iv, .int .i64 x] w fun e w' => e = .returned (.bool (l.contains x)) ∧ w' = w := by
  have H := Lib.hid (Index_any base iv l x w hn hr)
  obtain ⟨sp, cap, rfl⟩ := row_form hr
  have hd := Lib.hid (idxI_any x l 0)
  clear hr
  go_enter Try.func63, Try.ntmps63
  go_wp2_with (go_at_call 72; refine H.out.mono ?_; rintro e w1 ⟨rfl, hw1⟩; rw [hw1]; clear hw1 w1)
  go_ret
  exact ⟨by show Ending.returned (Value.bool (decide _)) = _; rw [hd.out], rfl⟩
theorem has_any {w : World} {base : Nat} {r : Rc} (h : RAt w base r) (x : Int) (hn : r.ob.ents.length < 1000000) :
    Calls Try.prog 42 #[.pointer (some ⟨r.B, 7, none⟩), .int .i64 x] w fun e w' => e = .returned (.bool (r.ob.ents.contains x)) ∧ w' = w := by
  have H := Contains_any base r.iv r.ob.ents x w hn h.row
  obtain ⟨sp, cap, hv⟩ := row_form h.row
  have c7 : w.cell? ⟨r.B, 7, none⟩ = some (.slice sp r.ob.ents.length cap) := by rw [← hv]; simp [World.cell?, h.blk, cellsR]
  rw [hv] at H
  obtain ⟨b, hb⟩ : ∃ b, r.ob.ents.contains x = b := ⟨_, rfl⟩
  rw [hb] at H ⊢
  have HH := Lib.hid H
  clear h hv H hb
  go_enter Try.func42, Try.ntmps42
  go_wp2_with (go_at_call 63; refine HH.out.mono ?_; rintro e w1 ⟨rfl, hw1⟩; rw [hw1]; clear hw1 w1)
  go_ret
  exact ⟨rfl, rfl⟩
theorem entry_nil (i x : Int) (w : World) : Calls Try.prog 43 #[.pointer none, .int .i64 i, .int .i64 x] w fun e w' => e = .returned (.tuple #[.pointer none, .pointer none, .int .i64 4]) ∧ w' = w := by
  have H := Lib.hid (container_nil i w)
  go_enter Try.func43, Try.ntmps43
  go_wp2_with (go_at_call 37; refine H.out.mono ?_; rintro e w1 ⟨rfl, hw1⟩; rw [hw1]; clear hw1 w1)
  refine bodyPost_ret (by simp [results, Try.results43, go_sem]) rfl ⟨rfl, rfl⟩
set_option maxRecDepth 100000 in
set_option maxHeartbeats 1000000 in
/-- An entry that is there. -/
theorem entry_ok {w : World} {base tb mb : Nat} {D : DataW Unit} {T : Tab} (h : TAt w base tb mb D T) (i x : Int) (hi : i64 i) (hx : i64 x) (r : Rc) (hT : T i = some r) (hk : r.ob.kind = 1) (hn : r.ob.ents.length < 1000000) (hc : r.ob.ents.contains x = true) :
    Calls Try.prog 43 #[.pointer (some ⟨tb, 0, none⟩), .int .i64 i, .int .i64 x] w fun e w' => e = .returned (.tuple #[.pointer (some ⟨r.B, 0, none⟩), fnd T x, .int .i64 0]) ∧ w' = w := by
  have HC := container_any h i hi
  rw [show contP T i = .pointer (some ⟨r.B, 0, none⟩) from by unfold contP contE fnd; rw [hT]; simp [hk], show contE T i = 0 from by unfold contE; rw [hT]; simp [hk]] at HC
  have H1 := Lib.hid HC
  have H2 := has_any (h.obj i r hT).1 x hn
  rw [hc] at H2
  have H3 := Lib.hid H2
  have H4 := Lib.hid (find_any h x hx)
  clear h HC H2
  go_enter Try.func43, Try.ntmps43
  go_wp2_with (first
    | (go_at_call 37; refine H1.out.mono ?_; rintro e w1 ⟨rfl, hw1⟩; rw [hw1]; clear hw1 w1)
    | (go_at_call 42; refine H3.out.mono ?_; rintro e w1 ⟨rfl, hw1⟩; rw [hw1]; clear hw1 w1)
    | (go_at_call 39; refine H4.out.mono ?_; rintro e w1 ⟨rfl, hw1⟩; rw [hw1]; clear hw1 w1))
  refine bodyPost_ret (by simp [results, Try.results43, go_sem]) rfl ⟨rfl, rfl⟩
/-- Two objects of a table turn, where they lie. -/
theorem TAt.two {w w' : World} {base tb mb : Nat} {D : DataW Unit} {T : Tab} (h : TAt w base tb mb D T) {i j : Int} {r s : Rc} (hi : T i = some r) (hj : T j = some s) (hij : i ≠ j) (r' s' : Rc) (hr : RAt w' base r') (hs : RAt w' base s') (hrB : r'.B = r.B) (hsB : s'.B = s.B) (hri : r'.ob.id = r.ob.id) (hsi : s'.ob.id = s.ob.id)
    (fr : ∀ k, foot r' k → foot r k ∨ w.heap.size ≤ k) (fs : ∀ k, foot s' k → foot s k) (hF : Fm w w' (fun k => foot r k ∨ foot s k) (fun _ => False)) :
    TAt w' base tb mb D (upd (upd T i r') j s') ∧ Fm w w' (tfoot tb mb T) (tfoot tb mb (upd (upd T i r') j s')) := by
  have hupd : ∀ a t, upd (upd T i r') j s' a = some t → (a = j ∧ t = s') ∨ (a = i ∧ t = r') ∨ (a ≠ j ∧ a ≠ i ∧ T a = some t) := fun a t ht => by
    unfold upd at ht
    split at ht
    · exact .inl ⟨by assumption, by simpa using ht.symm⟩
    · split at ht
      · exact .inr (.inl ⟨by assumption, by simpa using ht.symm⟩)
      · exact .inr (.inr ⟨by assumption, by assumption, ht⟩)
  have hsame : ∀ k, k < w.heap.size → ¬ foot r k → ¬ foot s k → w'.heap[k]? = w.heap[k]? := fun k hk h1 h2 => hF.same k hk (fun e => e.elim h1 h2)
  have hold : ∀ a t, T a = some t → a ≠ i → a ≠ j → ∀ k, foot t k → ¬ foot r k ∧ ¬ foot s k := fun a t ht h1 h2 k hk => ⟨fun e => h.apart a i t r k ht hi h1 hk e, fun e => h.apart a j t s k ht hj h2 hk e⟩
  have hlt : ∀ a t, T a = some t → ∀ k, foot t k → k < w.heap.size := fun a t ht k hk => ((h.obj a t ht).1.lt hk).2
  refine ⟨⟨?_, ?_, ?_, ?_, ?_, ?_, h.lowt, h.lowm⟩, ⟨hF.os, hF.tape, hF.output, hF.size, ?_, ?_⟩⟩
  · rw [hsame tb (h.lt (.inl rfl)).2 (h.tbF hi) (h.tbF hj)]; exact h.blk
  · exact map_same h.map (hsame mb h.map.lt ((h.obj i r hi).1.mbF h.map) ((h.obj j s hj).1.mbF h.map))
  · intro k
    rw [h.has]
    unfold upd
    by_cases h1 : k = j
    · subst h1; rw [if_pos rfl, hj]; rfl
    · rw [if_neg h1]
      by_cases h2 : k = i
      · subst h2; rw [if_pos rfl, hi]; rfl
      · rw [if_neg h2]
  · intro k t ht z
    rcases hupd k t ht with ⟨rfl, rfl⟩ | ⟨rfl, rfl⟩ | ⟨h1, h2, h3⟩
    · rw [hsB]; exact h.at_ k s hj z
    · rw [hrB]; exact h.at_ k r hi z
    · exact h.at_ k t h3 z
  · intro k t ht
    rcases hupd k t ht with ⟨rfl, rfl⟩ | ⟨rfl, rfl⟩ | ⟨h1, h2, h3⟩
    · exact ⟨hs, hsi.trans (h.obj k s hj).2⟩
    · exact ⟨hr, hri.trans (h.obj k r hi).2⟩
    · exact ⟨(h.obj k t h3).1.same (fun a ha => hsame a (hlt k t h3 a ha) (hold k t h3 h2 h1 a ha).1 (hold k t h3 h2 h1 a ha).2), (h.obj k t h3).2⟩
  · have key : ∀ a t, T a = some t → a ≠ i → ∀ k, foot t k → foot r' k → False := fun a t ht ha k h1 h2 => by
      rcases fr k h2 with e | e
      · exact h.apart a i t r k ht hi ha h1 e
      · have := hlt a t ht k h1; omega
    intro a b t u k ha hb hab h1 h2
    rcases hupd a t ha with ⟨rfl, rfl⟩ | ⟨rfl, rfl⟩ | ⟨a1, a2, a3⟩
    · rcases hupd b u hb with ⟨rfl, rfl⟩ | ⟨rfl, rfl⟩ | ⟨b1, b2, b3⟩
      · exact hab rfl
      · exact key a s hj hab k (fs k h1) h2
      · exact h.apart b a u s k b3 hj b1 h2 (fs k h1)
    · rcases hupd b u hb with ⟨rfl, rfl⟩ | ⟨rfl, rfl⟩ | ⟨b1, b2, b3⟩
      · exact key b s hj (Ne.symm hab) k (fs k h2) h1
      · exact hab rfl
      · exact key b u b3 b2 k h2 h1
    · rcases hupd b u hb with ⟨rfl, rfl⟩ | ⟨rfl, rfl⟩ | ⟨b1, b2, b3⟩
      · exact h.apart a b t s k a3 hj hab h1 (fs k h2)
      · exact key a t a3 a2 k h1 h2
      · exact h.apart a b t u k a3 b3 hab h1 h2
  · intro k hk hf
    exact hsame k hk (fun e => hf (.inr (.inr ⟨i, r, hi, e⟩))) (fun e => hf (.inr (.inr ⟨j, s, hj, e⟩)))
  · intro k hk
    rcases hk with e | e | ⟨a, t, ht, e⟩
    · exact .inl (.inl e)
    · exact .inl (.inr (.inl e))
    · rcases hupd a t ht with ⟨rfl, rfl⟩ | ⟨rfl, rfl⟩ | ⟨a1, a2, a3⟩
      · exact .inl (.inr (.inr ⟨a, s, hj, fs k e⟩))
      · rcases fr k e with e | e
        · exact .inl (.inr (.inr ⟨a, r, hi, e⟩))
        · exact .inr e
      · exact .inl (.inr (.inr ⟨a, t, a3, e⟩))
set_option maxRecDepth 100000 in
set_option maxHeartbeats 1000000 in
theorem Link_ok {w : World} {base tb mb : Nat} {D : DataW Unit} {T : Tab} (h : TAt w base tb mb D T) (i x : Int) (hi : i64 i) (hx : i64 x) (r s : Rc) (hT : T i = some r) (hS : T x = some s) (hix : i ≠ x) (hk : r.ob.kind = 1) (hsk : s.ob.kind = 2) (hn : r.ob.ents.length < 1000000) (hc : r.ob.ents.contains x = false)
    (hq : s.ob.quota ≤ r.ob.quota - r.ob.used) (hu : 0 ≤ r.ob.used) (hqq : r.ob.quota ≤ 1099511627776) (hq0 : 0 ≤ s.ob.quota) (hl : 0 ≤ s.ob.links ∧ s.ob.links ≤ 1000000) :
    Calls Try.prog 11 #[.pointer (some ⟨tb, 0, none⟩), .int .i64 i, .int .i64 x] w fun e w' => e = .returned (.int .i64 0) ∧ ∃ iv, TAt w' base tb mb D (upd (upd T i (linkR r s iv)) x (upR s)) ∧ Fm w w' (tfoot tb mb T) (tfoot tb mb (upd (upd T i (linkR r s iv)) x (upR s))) := by
  have H1 := find_any h i hi
  have H2 := find_any h x hx
  rw [show fnd T i = .pointer (some ⟨r.B, 0, none⟩) from by unfold fnd; rw [hT]; rfl] at H1
  rw [show fnd T x = .pointer (some ⟨s.B, 0, none⟩) from by unfold fnd; rw [hS]; rfl] at H2
  have H3 := has_any (h.obj i r hT).1 x hn
  rw [hc] at H3
  have HH1 := Lib.hid H1
  have HH2 := Lib.hid H2
  have HH3 := Lib.hid H3
  have HH := Lib.hid h
  have ro := (h.obj i r hT).1
  have so := (h.obj x s hS).1
  have k1 : ∀ q, (w.drewN q).cell? ⟨r.B, 1, none⟩ = some (.int .i64 1) := fun q => show w.cell? _ = _ by rw [← hk]; simp [World.cell?, ro.blk, cellsR]
  have k2 : ∀ q, (w.drewN q).cell? ⟨s.B, 1, none⟩ = some (.int .i64 2) := fun q => show w.cell? _ = _ by rw [← hsk]; simp [World.cell?, so.blk, cellsR]
  have k3 : ∀ q, (w.drewN q).cell? ⟨s.B, 2, none⟩ = some (.int .i64 s.ob.quota) := fun q => show w.cell? _ = _ by simp [World.cell?, so.blk, cellsR]
  have l1 : w.cell? ⟨r.B, 1, none⟩ = some (.int .i64 1) := k1 0
  have l2 : w.cell? ⟨s.B, 1, none⟩ = some (.int .i64 2) := k2 0
  have l3 : w.cell? ⟨s.B, 2, none⟩ = some (.int .i64 s.ob.quota) := k3 0
  have hb : ∀ q, RowKit.Below w.heap.size w (w.drewN q) := fun q => ⟨rfl, rfl, rfl, Nat.le_refl _, fun _ _ => rfl⟩
  have HRm := Lib.hid (fun q => Calls.quiet_of (room_any (w := w.drewN q) (base := base) (ro.same (fun _ _ => rfl)) (by unfold i64; omega)))
  have HLk := Lib.hid (fun q => link_any base r s (w.drewN q) (ro.same (fun _ _ => rfl)) (so.same (fun _ _ => rfl)) (fun k h1 h2 => h.apart i x r s k hT hS hix h1 h2) hn (by unfold i64; omega) (by unfold i64; omega))
  have g6 : ¬ r.ob.quota - r.ob.used < s.ob.quota := by omega
  clear h H1 H2 H3 ro so
  go_enter Try.func11, Try.ntmps11
  go_wp2_with (first
    | (go_at_call 39; refine HH1.out.mono ?_; rintro e w1 ⟨rfl, hw1⟩; rw [hw1]; clear hw1 w1; refine Hid.out ?_))
  refine Lib.hid ?_
  go_wp2_with (first
    | (go_at_call 39; refine HH2.out.mono ?_; rintro e w1 ⟨rfl, hw1⟩; rw [hw1]; clear hw1 w1)
    | (go_at_call 42; refine HH3.out.mono ?_; rintro e w1 ⟨rfl, hw1⟩; rw [hw1]; clear hw1 w1))
  go_quiet (first | (go_at_call 40; exact HRm.out _))
  go_wp2_with (first | (go_at_call 41; refine (HLk.out nq).mono ?_; rintro e w6 ⟨⟨v6, rfl⟩, iv, hr6, hs6, hnew6, hF6⟩; have HR6 := Lib.hid hr6; have HS6 := Lib.hid hs6; have HN6 := Lib.hid hnew6; have HF6 := Lib.hid hF6; clear hr6 hs6 hnew6 hF6))
  go_ret
  have h2 := HH.out.two hT hS hix (linkR r s iv) (upR s) HR6.out HS6.out rfl rfl rfl rfl HN6.out (fun k hk => hk) ⟨HF6.out.os, HF6.out.tape, HF6.out.output, HF6.out.size, HF6.out.same, HF6.out.new⟩
  exact ⟨rfl, iv, h2⟩
end Go.Proofs.Ytebcnlhgkpaghaa

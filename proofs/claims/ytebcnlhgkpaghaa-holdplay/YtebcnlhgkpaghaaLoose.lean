/- What loosen of package hold does. -/
import Derived.Test.YtebcnlhgkpaghaaCut
namespace Go.Proofs.Ytebcnlhgkpaghaa
open Go.RowKit Go.Sort
def del (T : Tab) (i : Int) : Tab := fun k => if k = i then none else T k
def decR (r : Rc) : Rc := { r with ob := { r.ob with links := r.ob.links - 1 } }
def foldF (f : Tab → Int → List Int → Option (Tab × List Int)) : List Int → Tab → List Int → Option (Tab × List Int)
  | [], T, g => some (T, g)
  | x :: l, T, g => match f T x g with
    | none => none
    | some p => foldF f l p.1 p.2
/-- What is left, and what is gone, when an object loses a link. -/
def loosF : Nat → Tab → Int → List Int → Option (Tab × List Int)
  | 0, _, _, _ => none
  | n + 1, T, i, gone => match T i with
    | none => none
    | some r => if 1 < r.ob.links then some (upd T i (decR r), gone) else foldF (loosF n) r.ob.ents (del T i) (gone ++ [i])
def GoodT (T : Tab) : Prop := ∀ k r, T k = some r → i64 k ∧ (∀ x ∈ r.ob.ents, i64 x) ∧ r.ob.ents.length < 1000000 ∧ 1 ≤ r.ob.links ∧ r.ob.links < 1000000
theorem GoodT.del {T : Tab} (h : GoodT T) (i : Int) : GoodT (del T i) := fun k r hr => by
  unfold Ytebcnlhgkpaghaa.del at hr
  split at hr
  · cases hr
  · exact h k r hr
theorem GoodT.dec {T : Tab} (h : GoodT T) {i : Int} {r : Rc} (hi : T i = some r) (hl : 1 < r.ob.links) : GoodT (upd T i (decR r)) := fun k t ht => by
  unfold upd at ht
  split at ht
  · subst k
    obtain rfl : decR r = t := by simpa using ht
    obtain ⟨h0, h1, h2, h3, h4⟩ := h i r hi
    exact ⟨h0, h1, h2, by show 1 ≤ r.ob.links - 1; omega, by show r.ob.links - 1 < 1000000; omega⟩
  · exact h k t ht
/-- One object of a table turns, where it lies. -/
theorem TAt.one {w w' : World} {base tb mb : Nat} {D : DataW Unit} {T : Tab} (h : TAt w base tb mb D T) {i : Int} {r : Rc} (hi : T i = some r) (r' : Rc) (hr : RAt w' base r') (hrB : r'.B = r.B) (hri : r'.ob.id = r.ob.id)
    (fr : ∀ k, foot r' k → foot r k ∨ w.heap.size ≤ k) (hF : Fm w w' (foot r) (fun _ => False)) :
    TAt w' base tb mb D (upd T i r') ∧ Fm w w' (tfoot tb mb T) (tfoot tb mb (upd T i r')) := by
  have hupd : ∀ a t, upd T i r' a = some t → (a = i ∧ t = r') ∨ (a ≠ i ∧ T a = some t) := fun a t ht => by
    unfold upd at ht
    split at ht
    · exact .inl ⟨by assumption, by simpa using ht.symm⟩
    · exact .inr ⟨by assumption, ht⟩
  have hold : ∀ a t, T a = some t → a ≠ i → ∀ k, foot t k → ¬ foot r k := fun a t ht h1 k hk e => h.apart a i t r k ht hi h1 hk e
  have hlt : ∀ a t, T a = some t → ∀ k, foot t k → k < w.heap.size := fun a t ht k hk => ((h.obj a t ht).1.lt hk).2
  refine ⟨⟨?_, ?_, ?_, ?_, ?_, ?_, h.lowt, h.lowm⟩, ⟨hF.os, hF.tape, hF.output, hF.size, ?_, ?_⟩⟩
  · rw [hF.same tb (h.lt (.inl rfl)).2 (h.tbF hi)]; exact h.blk
  · exact map_same h.map (hF.same mb h.map.lt ((h.obj i r hi).1.mbF h.map))
  · intro k
    rw [h.has]
    unfold upd
    by_cases h2 : k = i
    · subst h2; rw [if_pos rfl, hi]; rfl
    · rw [if_neg h2]
  · intro k t ht z
    rcases hupd k t ht with ⟨rfl, rfl⟩ | ⟨h2, h3⟩
    · rw [hrB]; exact h.at_ k r hi z
    · exact h.at_ k t h3 z
  · intro k t ht
    rcases hupd k t ht with ⟨rfl, rfl⟩ | ⟨h2, h3⟩
    · exact ⟨hr, hri.trans (h.obj k r hi).2⟩
    · exact ⟨(h.obj k t h3).1.same (fun a ha => hF.same a (hlt k t h3 a ha) (hold k t h3 h2 a ha)), (h.obj k t h3).2⟩
  · have key : ∀ a t, T a = some t → a ≠ i → ∀ k, foot t k → foot r' k → False := fun a t ht ha k h1 h2 => by
      rcases fr k h2 with e | e
      · exact h.apart a i t r k ht hi ha h1 e
      · have := hlt a t ht k h1; omega
    intro a b t u k ha hb hab h1 h2
    rcases hupd a t ha with ⟨rfl, rfl⟩ | ⟨a2, a3⟩
    · rcases hupd b u hb with ⟨rfl, rfl⟩ | ⟨b2, b3⟩
      · exact hab rfl
      · exact key b u b3 b2 k h2 h1
    · rcases hupd b u hb with ⟨rfl, rfl⟩ | ⟨b2, b3⟩
      · exact key a t a3 a2 k h1 h2
      · exact h.apart a b t u k a3 b3 hab h1 h2
  · intro k hk hf
    exact hF.same k hk (fun e => hf (.inr (.inr ⟨i, r, hi, e⟩)))
  · intro k hk
    rcases hk with e | e | ⟨a, t, ht, e⟩
    · exact .inl (.inl e)
    · exact .inl (.inr (.inl e))
    · rcases hupd a t ht with ⟨rfl, rfl⟩ | ⟨a2, a3⟩
      · rcases fr k e with e | e
        · exact .inl (.inr (.inr ⟨a, r, hi, e⟩))
        · exact .inr e
      · exact .inl (.inr (.inr ⟨a, t, a3, e⟩))
theorem loosF_some {n : Nat} {T : Tab} {x : Int} {g : List Int} {p : Tab × List Int} (h : loosF n T x g = some p) : ∃ s, T x = some s := by
  cases n with
  | zero => cases h
  | succ n =>
    unfold loosF at h
    cases hT : T x with
    | none => rw [hT] at h; cases h
    | some s => exact ⟨s, rfl⟩
theorem foldF_step {f : Tab → Int → List Int → Option (Tab × List Int)} {l : List Int} {k : Nat} (hk : k < l.length) {T : Tab} {g : List Int} {q : Tab × List Int} (h : foldF f (l.drop k) T g = some q) : ∃ p, f T l[k] g = some p ∧ foldF f (l.drop (k + 1)) p.1 p.2 = some q := by
  rw [List.drop_eq_getElem_cons hk] at h
  unfold foldF at h
  cases hf : f T l[k] g with
  | none => rw [hf] at h; cases h
  | some p => rw [hf] at h; exact ⟨p, rfl, h⟩
structure LPost (w w' : World) (base tb mb gb : Nat) (D : DataW Unit) (T T' : Tab) (gone gone' : List Int) (gv gv' : Value) : Prop where
  tab : ∃ D', TAt w' base tb mb D' T' ∧ gone'.length + Maps.size D' = gone.length + Maps.size D
  row : w'.ownsRow gb 3 1 gv' gone'.length (ivs gone')
  rblk : ∀ k, gv'.ownBlock = some k → gv.ownBlock = some k ∨ w.heap.size ≤ k
  fm : Fm w w' (fun k => tfoot tb mb T k ∨ gv.ownBlock = some k) (fun _ => False)
  sub : ∀ k, tfoot tb mb T' k → tfoot tb mb T k
  good : GoodT T'
set_option maxRecDepth 100000 in
set_option maxHeartbeats 1000000 in
theorem loosen_any : ∀ (n : Nat) (T : Tab) (i : Int) (gone : List Int) (T' : Tab) (gone' : List Int), loosF n T i gone = some (T', gone') → ∀ (w : World) (base tb mb gb : Nat) (D : DataW Unit) (r : Rc) (gv : Value), TAt w base tb mb D T → T i = some r → GoodT T → w.ownsRow gb 3 1 gv gone.length (ivs gone) → gb ≤ w.heap.size →
    (∀ k, gv.ownBlock = some k → ¬ tfoot tb mb T k) → gone.length + Maps.size D < 1000000 →
    Calls Try.prog 45 #[.pointer (some ⟨tb, 0, none⟩), .pointer (some ⟨r.B, 0, none⟩), gv] w fun e w' => ∃ gv', e = .returned gv' ∧ LPost w w' base tb mb gb D T T' gone gone' gv gv' := by
  intro n
  induction n with
  | zero => intro T i gone T' gone' h; cases h
  | succ n ih =>
    intro T i gone T' gone' hF w base tb mb gb D r gv h hi hgood hrow hgb hgd hsz
    obtain ⟨sp, cap, rfl⟩ := row_form hrow
    have hro := (h.obj i r hi).1
    have hri := (h.obj i r hi).2
    obtain ⟨_, hents, hlen, hlk1, hlk2⟩ := hgood i r hi
    have c4 : w.cell? ⟨r.B, 4, none⟩ = some (.int .i64 r.ob.links) := by simp [World.cell?, hro.blk, cellsR]
    have f4 : w.frozen? ⟨r.B, 4, none⟩ = false := by simp [World.frozen?, hro.blk]
    have hd : RAt (w.setCell ⟨r.B, 4, none⟩ (.int .i64 (r.ob.links - 1))) base (decR r) := by
      refine ⟨?_, row_same hro.cat (fun k hk => heap_ne _ _ _ (fun e => by subst e; exact hro.catB hk)), row_same hro.row (fun k hk => heap_ne _ _ _ (fun e => by subst e; exact hro.rowB hk)), hro.low⟩
      rw [show (decR r).B = r.B from rfl, heap_setCell_same _ _ _ _ _ _ hro.blk]; rfl
    unfold loosF at hF
    rw [hi] at hF
    simp only at hF
    by_cases hlt : 1 < r.ob.links
    · rw [if_pos hlt] at hF
      obtain ⟨rfl, rfl⟩ : upd T i (decR r) = T' ∧ gone = gone' := by simpa using hF
      have hl2 : (0 : Int) < r.ob.links - 1 := by omega
      have HD := Lib.hid hd
      have HH := Lib.hid h
      have HR := Lib.hid hrow
      clear hd h hrow hro hF
      go_enter Try.func45, Try.ntmps45
      go_wp2_with fail
      go_ret
      have h1 := HH.out.one hi (decR r) HD.out rfl rfl (fun k hk => .inl hk) ⟨rfl, rfl, rfl, by simp, fun k _ hf => heap_ne _ _ _ (fun e => hf (.inl e)), fun k hk => hk.elim⟩
      refine ⟨_, rfl, ⟨⟨D, h1.1, rfl⟩, row_same HR.out (fun k hk => heap_ne _ _ _ (fun e => hgd k hk (.inr (.inr ⟨i, r, hi, .inl e⟩)))), fun k hk => .inl hk, ⟨h1.2.os, h1.2.tape, h1.2.output, h1.2.size, fun k hk hf => h1.2.same k hk (fun e => hf (.inl e)), fun k hk => hk.elim⟩, ?_, hgood.dec hi hlt⟩⟩
      intro k hk
      rcases h1.2.new k hk with e | e
      · exact e
      · have := (h1.1.lt hk).2
        simp at this
        omega
    · rw [if_neg hlt] at hF
      have hl1 : r.ob.links = 1 := by omega
      have h1 := h.one (w' := w.setCell ⟨r.B, 4, none⟩ (.int .i64 (r.ob.links - 1))) hi (decR r) hd rfl rfl (fun k hk => .inl hk) ⟨rfl, rfl, rfl, by simp, fun k _ hf => heap_ne _ _ _ (fun e => hf (.inl e)), fun k hk => hk.elim⟩
      have hi64 := (hgood i r hi).1
      rw [hl1] at h1 hd c4
      obtain ⟨W1, hW1⟩ : ∃ W1, w.setCell ⟨r.B, 4, none⟩ (.int .i64 ((1 : Int) - 1)) = W1 := ⟨_, rfl⟩
      rw [hW1] at h1 hd
      have hwz : w.setCell ⟨r.B, 4, none⟩ (.int .i64 0) = W1 := hW1
      have hdb : W1.heap[r.B]? = some (.cells (cellsR (decR r)) 54 (0, 0)) := hd.blk
      have d0 : ∀ q, (W1.drewN q).cell? ⟨r.B, 0, none⟩ = some (.int .i64 i) := fun q => show W1.cell? _ = _ by rw [← hri]; simp [World.cell?, hdb, cellsR, decR]
      have d4 : W1.cell? ⟨r.B, 4, none⟩ = some (.int .i64 0) := by simp [World.cell?, hdb, cellsR, decR, hl1]
      have d1 : ∀ q, (W1.drewN q).cell? ⟨tb, 0, none⟩ = some (.map (some mb)) := fun q => show W1.cell? _ = _ by simp [World.cell?, h1.1.blk]
      have hrw1 : W1.ownsRow gb 3 1 (.slice sp gone.length cap) gone.length (ivs gone) := by
        rw [← hwz]; exact row_same hrow (fun k hk => heap_ne _ _ _ (fun e => hgd k hk (.inr (.inr ⟨i, r, hi, .inl e⟩))))
      have hz1 : W1.heap.size = w.heap.size := by rw [← hwz]; simp
      have HW1 := Lib.hid (show ∀ k, k ≠ r.B → W1.heap[k]? = w.heap[k]? from fun k hk => by rw [← hwz]; exact heap_ne _ _ _ hk)
      have HO1 := Lib.hid (show W1.os = w.os ∧ W1.tape = w.tape ∧ W1.output = w.output from by rw [← hwz]; exact ⟨rfl, rfl, rfl⟩)
      have HD := Lib.hid hd
      have HH := Lib.hid h
      have HH1 := Lib.hid h1
      have HR1 := Lib.hid hrw1
      clear hd h hrow hro h1 hrw1 hdb
      go_enter Try.func45, Try.ntmps45
      go_wp2_with fail
      refine wp_region_tail_d 9 (by kernel_rfl) (by kernel_rfl) ?_
      simp only [List.take_succ_cons, List.take_zero, List.drop_succ_cons, List.drop_zero]
      repeat (quiet_step (fail))
      refine wpQuiet_nil ?_
      intro _ hw'
      obtain ⟨nq, hw''⟩ := hw'
      subst hw''
      obtain ⟨W2, hdel, hm2, ht2⟩ := World.ownsMap.drop (w := W1.drewN nq) (map_same HH1.out.1.map rfl) keyedI um (keyI hi64) 0
      have hg2 := ht2.grown
      have hT1 := HH1.out.1
      have hmb := HH1.out.1.map.lt
      have hiT : upd T i (decR r) i = some (decR r) := by unfold upd; rw [if_pos rfl]
      have hs2 : ∀ k, k < W1.heap.size → k ≠ mb → W2.heap[k]? = W1.heap[k]? := fun k hk hne => hg2.block k hk (by simpa using hne)
      have hfm : ∀ k, foot r k → k ≠ mb := fun k hk e => by subst e; exact (hT1.obj i (decR r) hiT).1.mbF hT1.map hk
      have hd2 : RAt W2 base (decR r) := HD.out.same (fun k hk => hs2 k (HD.out.lt hk).2 (hfm k hk))
      have hd2b : W2.heap[r.B]? = some (.cells (cellsR (decR r)) 54 (0, 0)) := hd2.blk
      have e0 : W2.cell? ⟨r.B, 0, none⟩ = some (.int .i64 i) := by rw [← hri]; simp [World.cell?, hd2b, cellsR, decR]
      have hgm : ∀ k, (Value.slice sp gone.length cap).ownBlock = some k → k ≠ mb := fun k hk e => by subst e; exact hgd k hk (.inr (.inl rfl))
      have hr2 : W2.ownsRow gb 3 1 (.slice sp gone.length cap) gone.length (ivs gone) := row_same HR1.out (fun k hk => hs2 k (HR1.out.lt k hk).2 (hgm k hk))
      have hz2 := hg2.size
      have HM2 := Lib.hid hm2
      have HG2 := Lib.hid hg2
      have HS2 := Lib.hid hs2
      have HD2 := Lib.hid hd2
      have HR2 := Lib.hid (hr2.alloc (.cells #[.int .i64 i] 3))
      obtain ⟨i0, hii, hz0, hzz1, hzz2⟩ := info_parts intInfo
      have HNw : Hid (∀ j u, ([.int .i64 i] : List Value)[j]? = some u → (W2.alloc (.cells #[.int .i64 i] 3)).cell? ((⟨W2.heap.size, 0, none⟩ : Addr).add j) = some u) := cell_one_new W2 _ _
      have HOn : Hid (∀ u ∈ ([.int .i64 i] : List Value), u.oneCell' = true) := fun u hu => by simp at hu; rcases hu with rfl; rfl
      have hzw : W1.heap.size ≤ W2.heap.size := hz2
      clear hm2 hg2 hs2 hd2 hr2 ht2 hd2b hz2 hT1 hW1 hwz
      go_wp2_with (at_builtin; refine wpList_append_own_at _ rfl _ _ 41 rfl gb 3 i0 (.int .i64 0) 1 8 (by kernel_rfl) hii hz0 hzz1 hzz2 rfl (by decide) _ _ _ rfl HR2.out ⟨W2.heap.size, 0, none⟩ 1 1 [.int .i64 i] rfl rfl HNw.out HOn.out (by show _ ≤ 2 ^ 63 - 1; omega) (by omega) (by simp; omega) ?_; intro v' w4 hown4 hgrow4 hnil4 hat4; clear hnil4; obtain ⟨sp4, cap4, rfl⟩ := row_form hown4; have HW4 := Lib.hid hown4; have HG4 := Lib.hid hgrow4; have HA4 := Lib.hid hat4; clear hown4 hgrow4 hat4; refine Hid.out ?_)
      refine Lib.hid ?_
      have hgB : (Value.slice sp gone.length cap).ownBlock ≠ some r.B := fun e => hgd r.B e (.inr (.inr ⟨i, r, hi, .inl rfl⟩))
      have hd4 : RAt w4 base (decR r) := HD2.out.same (fun k hk => by
        have hkl := (HD2.out.lt hk).2
        rw [HG4.out.block k (by simp; omega) (fun e => hgd k e.symm (.inr (.inr ⟨i, r, hi, hk⟩))), Below.heap_alloc _ _ _ hkl])
      obtain ⟨spi, capi, hiv⟩ := row_form hd4.row
      have hd4b : w4.heap[r.B]? = some (.cells (cellsR (decR r)) 54 (0, 0)) := hd4.blk
      have e7 : w4.cell? ⟨r.B, 7, none⟩ = some (.slice spi r.ob.ents.length capi) := by
        have : (decR r).iv = .slice spi r.ob.ents.length capi := hiv
        rw [← this]; simp [World.cell?, hd4b, cellsR]
      have HD4 := Lib.hid hd4
      clear hd4 hd4b
      go_wp2_with fail
      have z4 := HG4.out.size
      simp at z4
      have hnd : ∀ b, foot r b → ¬ tfoot tb mb (del T i) b := fun b hb hf => by
        rcases hf with e | e | ⟨j, t, ht, e⟩
        · subst e; exact HH.out.tbF hi hb
        · subst e; exact (HH.out.obj i r hi).1.mbF HH.out.map hb
        · unfold del at ht
          split at ht
          · cases ht
          · exact HH.out.apart j i t r b ht hi (by assumption) e hb
      have hsub : ∀ b, tfoot tb mb (del T i) b → tfoot tb mb T b := fun b hf => by
        rcases hf with e | e | ⟨j, t, ht, e⟩
        · exact .inl e
        · exact .inr (.inl e)
        · unfold del at ht
          split at ht
          · cases ht
          · exact .inr (.inr ⟨j, t, ht, e⟩)
      have hTlt : ∀ b, tfoot tb mb T b → b < w.heap.size := fun b hb => (HH.out.lt hb).2
      have hs4 : ∀ k, k < w.heap.size → k ≠ mb → k ≠ r.B → (Value.slice sp gone.length cap).ownBlock ≠ some k → w4.heap[k]? = w.heap[k]? := fun k hk h1 h2 h3 => by
        rw [HG4.out.block k (by simp; omega) (fun e => h3 e.symm), Below.heap_alloc _ _ _ (by omega), HS2.out k (by omega) h1, HW1.out k h2]
      have hgn : ∀ k, tfoot tb mb T k → (Value.slice sp gone.length cap).ownBlock ≠ some k := fun k hk e => hgd k e hk
      have hm4 : MapAt w4 mb (D.del (ky i)) := by
        refine map_exact (map_same HM2.out ?_)
        have hl := HM2.out.lt
        rw [HG4.out.block mb (by simp; omega) (fun e => hgn mb (.inr (.inl rfl)) e.symm), Below.heap_alloc _ _ _ hl]
      have hTd : ∀ k t, del T i k = some t → k ≠ i ∧ T k = some t := fun k t ht => by
        unfold del at ht
        split at ht
        · cases ht
        · exact ⟨by assumption, ht⟩
      have hA4 : TAt w4 base tb mb (D.del (ky i)) (del T i) := by
        refine ⟨?_, hm4, ?_, ?_, ?_, ?_, HH.out.lowt, HH.out.lowm⟩
        · rw [hs4 tb (hTlt tb (.inl rfl)) HH.out.mbt (fun e => HH.out.tbF hi (.inl e)) (hgn tb (.inl rfl))]; exact HH.out.blk
        · intro k
          unfold del
          by_cases hk : k = i
          · subst hk; rw [if_pos rfl, Maps.has_del_same]; rfl
          · rw [if_neg hk, Maps.has_del_other (by simpa using hk)]; exact HH.out.has k
        · intro k t ht z
          obtain ⟨h1, h2⟩ := hTd k t ht
          rw [Maps.atKey_del_other (by simpa using h1)]; exact HH.out.at_ k t h2 z
        · intro k t ht
          obtain ⟨h1, h2⟩ := hTd k t ht
          refine ⟨(HH.out.obj k t h2).1.same (fun b hb => ?_), (HH.out.obj k t h2).2⟩
          have hbt : tfoot tb mb T b := .inr (.inr ⟨k, t, h2, hb⟩)
          exact hs4 b (hTlt b hbt) (fun e => by subst e; exact (HH.out.obj k t h2).1.mbF HH.out.map hb) (fun e => HH.out.apart k i t r b h2 hi h1 hb (.inl e)) (hgn b hbt)
        · intro a b t u k ha hb hab h1 h2
          exact HH.out.apart a b t u k (hTd a t ha).2 (hTd b u hb).2 hab h1 h2
      have hsd : Maps.size (D.del (ky i)) + 1 = Maps.size D := by
        have := Maps.size_del (k := ky i) (HH.out.map.tidy keyedI)
        rw [HH.out.has i, hi] at this
        simpa using this
      have hb4 : ∀ b, (Value.slice sp4 (gone.length + 1) cap4).ownBlock = some b → (Value.slice sp gone.length cap).ownBlock = some b ∨ w.heap.size ≤ b := fun b hb => by
        rcases HA4.out with e | e
        · have e' : (Value.slice sp4 (gone.length + 1) cap4).ownBlock = (Value.slice sp gone.length cap).ownBlock := e
          exact .inl (by rw [← e']; exact hb)
        · rw [e] at hb
          have : b = W2.heap.size + 1 := by simpa using hb.symm
          exact .inr (by omega)
      have hF4 : Fm w w4 (fun k => tfoot tb mb T k ∨ (Value.slice sp gone.length cap).ownBlock = some k) (fun _ => False) := by
        refine ⟨?_, ?_, ?_, by omega, fun k hk hf => hs4 k hk (fun e => hf (.inl (.inr (.inl e)))) (fun e => hf (.inl (.inr (.inr ⟨i, r, hi, .inl e⟩)))) (fun e => hf (.inr e)), fun k hk => hk.elim⟩
        · rw [HG4.out.os]; show W2.os = _; rw [HG2.out.os]; exact HO1.out.1
        · rw [HG4.out.tape]; show W2.tape = _; rw [HG2.out.tape]; exact HO1.out.2.1
        · rw [HG4.out.output]; show W2.output = _; rw [HG2.out.output]; exact HO1.out.2.2
      have hrow4 : w4.ownsRow gb 3 1 (.slice sp4 (gone.length + 1) cap4) (gone ++ [i]).length (ivs (gone ++ [i])) := by
        rw [List.length_append, show ivs (gone ++ [i]) = ivs gone ++ [.int .i64 i] from by unfold ivs; rw [List.map_append]; rfl]; exact HW4.out
      have HI4 := Lib.hid (And.intro hA4 (And.intro hF4 (And.intro hb4 hrow4)))
      have HHs := Lib.hid (And.intro hnd (And.intro hsub hTlt))
      clear hA4 hF4 hb4 hrow4 hnd hsub hTlt hm4 hs4 hTd hgn
      go_loopw [2, 8, 48] (fun a _ b wr => ∃ (k : Nat) (Tk : Tab) (gk : List Int) (Dk : DataW Unit), b = .int .i64 k ∧ k ≤ r.ob.ents.length ∧ foldF (loosF n) (r.ob.ents.drop k) Tk gk = some (T', gone') ∧ TAt wr base tb mb Dk Tk ∧ wr.ownsRow gb 3 1 a gk.length (ivs gk) ∧ RAt wr base (decR r) ∧ (∀ c, a.ownBlock = some c → (Value.slice sp gone.length cap).ownBlock = some c ∨ w.heap.size ≤ c) ∧ (∀ c, tfoot tb mb Tk c → tfoot tb mb (del T i) c) ∧ GoodT Tk ∧ gk.length + Maps.size Dk = gone.length + Maps.size D ∧ Fm w wr (fun k => tfoot tb mb T k ∨ (Value.slice sp gone.length cap).ownBlock = some k) (fun _ => False)) (fun _ _ b _ => (r.ob.ents.length - (RowKit.intOf b).toNat))
      case atStart => exact ⟨0, del T i, gone ++ [i], D.del (ky i), rfl, Nat.zero_le _, by rw [List.drop_zero]; exact hF, HI4.out.1, HI4.out.2.2.2, HD4.out, HI4.out.2.2.1, fun c hc => hc, hgood.del i, by rw [List.length_append]; simp; omega, HI4.out.2.1⟩
      case round =>
        obtain ⟨k, Tk, gk, Dk, rfl, hk, hfo, hAk, hrk, hdk, hbk, hsk, hgk, hzk, hFk⟩ := hrel
        obtain ⟨spk, capk, rfl⟩ := row_form hrk
        by_cases hlt2 : k < r.ob.ents.length
        · have hki : (k : Int) < (r.ob.ents.length : Int) := by omega
          obtain ⟨p, hp, hrest⟩ := foldF_step hlt2 hfo
          obtain ⟨s, hs⟩ := loosF_some hp
          have hxi : i64 r.ob.ents[k] := hents _ (List.getElem_mem hlt2)
          have hlook := look_any hAk r.ob.ents[k] hxi
          rw [show fnd Tk r.ob.ents[k] = .pointer (some ⟨s.B, 0, none⟩) from by unfold fnd; rw [hs]; rfl] at hlook
          have t0 : wr.cell? ⟨tb, 0, none⟩ = some (.map (some mb)) := by simp [World.cell?, hAk.blk]
          obtain ⟨gi, rfl⟩ : ∃ gi, spi = some ⟨gi, 0, none⟩ := by
            have h1 : (decR r).iv = .slice spi r.ob.ents.length capi := hiv
            have h2 := hdk.row
            rcases h2.2 with ⟨h', h0⟩ | ⟨g', cap', cur, h', _⟩
            · have h00 : r.ob.ents.length = 0 := h0
              omega
            · rw [h1] at h'; simp at h'; exact ⟨g', h'.1⟩
          have c0 : wr.cell? ⟨gi, k, none⟩ = some (.int .i64 r.ob.ents[k]) := by
            have h2 := hdk.row
            rw [show (decR r).iv = .slice (some ⟨gi, 0, none⟩) r.ob.ents.length capi from hiv] at h2
            exact (h2.cellAt k (by show k < r.ob.ents.length * 1; omega)).trans (by show (ivs r.ob.ents)[k]? = _; unfold ivs; simp [hlt2])
          have hTl : ∀ c, tfoot tb mb Tk c → c < w.heap.size := fun c hc => HHs.out.2.2 c (HHs.out.2.1 c (hsk c hc))
          have HIH := Lib.hid (ih Tk r.ob.ents[k] gk p.1 p.2 hp wr base tb mb gb Dk s (.slice spk gk.length capk) hAk hs hgk hrk (by have := hFk.size; omega) (fun c hc hf => by
            rcases hbk c hc with e | e
            · exact hgd c e (HHs.out.2.1 c (hsk c hf))
            · have := hTl c hf; omega) (by omega))
          have HAk := Lib.hid hAk
          have HRk := Lib.hid hrk
          have HDk := Lib.hid hdk
          have HRest := Lib.hid hrest
          have HFk := Lib.hid hFk
          clear hAk hrk hdk hfo hrest hFk hp
          go_wp2_with (first | (go_at_call 45; refine HIH.out.mono ?_; rintro e w5 ⟨gv5, rfl, hL5⟩; obtain ⟨sp5, cap5, hv5⟩ := row_form hL5.row; subst hv5; have HL5 := Lib.hid hL5; clear hL5))
          have z5 := HL5.out.fm.size
          have z9 := HFk.out.size
          refine ⟨⟨k + 1, p.1, p.2, (HL5.out.tab).choose, by go_num, by omega, HRest.out, (HL5.out.tab).choose_spec.1, HL5.out.row, ?_, ?_, fun c hc => hsk c (HL5.out.sub c hc), HL5.out.good, by have := (HL5.out.tab).choose_spec.2; omega, ?_⟩, by simp [RowKit.intOf]; omega⟩
          · refine HDk.out.same (fun c hc => HL5.out.fm.same c (HDk.out.lt hc).2 (fun hf => ?_))
            rcases hf with hf | hf
            · exact HHs.out.1 c hc (hsk c hf)
            · rcases hbk c hf with e | e
              · exact hgd c e (.inr (.inr ⟨i, r, hi, hc⟩))
              · have := HHs.out.2.2 c (.inr (.inr ⟨i, r, hi, hc⟩)); omega
          · intro c hc
            rcases HL5.out.rblk c hc with e | e
            · exact hbk c e
            · exact .inr (by omega)
          · refine ⟨HL5.out.fm.os.trans HFk.out.os, HL5.out.fm.tape.trans HFk.out.tape, HL5.out.fm.output.trans HFk.out.output, by omega, fun c hc hf => ?_, fun c hc => hc.elim⟩
            rw [HL5.out.fm.same c (by omega) (fun e => ?_), HFk.out.same c hc hf]
            rcases e with e | e
            · exact hf (.inl (HHs.out.2.1 c (hsk c e)))
            · rcases hbk c e with e | e
              · exact hf (.inr e)
              · omega
        · obtain rfl : k = r.ob.ents.length := by omega
          have hkk : ¬ (r.ob.ents.length : Int) < (r.ob.ents.length : Int) := by omega
          rw [List.drop_length] at hfo
          obtain ⟨rfl, rfl⟩ : Tk = T' ∧ gk = gone' := by unfold foldF at hfo; simpa using hfo
          have HAk := Lib.hid hAk
          have HRk := Lib.hid hrk
          have HFk := Lib.hid hFk
          clear hAk hrk hfo hFk hdk
          go_wp2
          go_ret
          exact ⟨_, rfl, ⟨⟨Dk, HAk.out, hzk⟩, HRk.out, hbk, HFk.out, fun c hc => HHs.out.2.1 c (hsk c hc), hgk⟩⟩
end Go.Proofs.Ytebcnlhgkpaghaa

/- What Drop of package hold does. -/
import Derived.Test.YtebcnlhgkpaghaaLoose
namespace Go.Proofs.Ytebcnlhgkpaghaa
open Go.RowKit Go.Sort
/-- The box without an entry, and without its quota. -/
def dropR (r s : Rc) (x : Int) (iv : Value) : Rc := { r with iv := iv, ob := { r.ob with ents := without x r.ob.ents, used := r.ob.used - s.ob.quota } }
theorem GoodT.drop {T : Tab} (h : GoodT T) {i : Int} {r s : Rc} (hi : T i = some r) (x : Int) (iv : Value) : GoodT (upd T i (dropR r s x iv)) := fun k t ht => by
  unfold upd at ht
  split at ht
  · subst k
    obtain rfl : dropR r s x iv = t := by simpa using ht
    obtain ⟨h0, h1, h2, h3, h4⟩ := h i r hi
    refine ⟨h0, fun y hy => h1 y ?_, ?_, h3, h4⟩
    · exact (List.mem_filter.1 hy).1
    · exact Nat.lt_of_le_of_lt (List.length_filter_le _ _) h2
  · exact h k t ht
set_option maxRecDepth 100000 in
set_option maxHeartbeats 1000000 in
theorem Drop_ok {w : World} {base tb mb : Nat} {D : DataW Unit} {T : Tab} (h : TAt w base tb mb D T) (i x : Int) (hi : i64 i) (hx : i64 x) (r s : Rc) (hT : T i = some r) (hS : T x = some s) (hix : i ≠ x) (hk : r.ob.kind = 1) (hc : r.ob.ents.contains x = true) (hg : GoodT T) (hsz : Maps.size D < 1000000) (hu : i64 (r.ob.used - s.ob.quota))
    (n : Nat) (hF : ∀ iv, ∃ p, loosF n (upd T i (dropR r s x iv)) x [] = some p) :
    Calls Try.prog 12 #[.pointer (some ⟨tb, 0, none⟩), .int .i64 i, .int .i64 x] w fun e w' => ∃ iv T' gone' gv D', loosF n (upd T i (dropR r s x iv)) x [] = some (T', gone') ∧ e = .returned (.tuple #[gv, .int .i64 0]) ∧ TAt w' base tb mb D' T' ∧ w'.ownsRow w.heap.size 3 1 gv gone'.length (ivs gone') ∧ gone'.length + Maps.size D' = Maps.size D ∧ (∀ k, tfoot tb mb T' k → tfoot tb mb T k) ∧ GoodT T' ∧ Fm w w' (tfoot tb mb T) (fun _ => False) := by
  have hn := (hg i r hT).2.2.1
  have hfx : fnd T x = .pointer (some ⟨s.B, 0, none⟩) := by unfold fnd; rw [hS]; rfl
  have HE := entry_ok h i x hi hx r hT hk hn hc
  rw [hfx] at HE
  have HE1 := Lib.hid HE
  have ro := (h.obj i r hT).1
  have so := (h.obj x s hS).1
  have HC := Lib.hid (cut_any base r x w ro hn (by simpa using hc))
  have hap : ∀ k, foot r k → foot s k → False := fun k h1 h2 => h.apart i x r s k hT hS hix h1 h2
  have HH := Lib.hid h
  have HRo := Lib.hid ro
  have HSo := Lib.hid so
  have HAp := Lib.hid hap
  have hw1 : wrap64 (r.ob.used - s.ob.quota) = r.ob.used - s.ob.quota := by unfold i64 at hu; unfold wrap64; omega
  clear h HE ro so hap
  go_enter Try.func12, Try.ntmps12
  go_wp2_with (first
    | (go_at_call 43; refine HE1.out.mono ?_; rintro e w1 ⟨rfl, hw1'⟩; rw [hw1']; clear hw1' w1)
    | (go_at_call 44; refine HC.out.mono ?_; rintro e w2 ⟨⟨v2, rfl⟩, iv, hr2, hiv2, hF2⟩; refine Hid.out ?_))
  refine Lib.hid ?_
  have hs2 : RAt w2 base s := HSo.out.same (fun k hk => hF2.same k (HSo.out.lt hk).2 (fun e => HAp.out k e hk))
  have hr2b : w2.heap[r.B]? = some (.cells (cellsR (cutR r x iv)) 54 (0, 0)) := hr2.blk
  have q3 : ∀ q, (w2.drewN q).cell? ⟨r.B, 3, none⟩ = some (.int .i64 r.ob.used) := fun q => show w2.cell? _ = _ by simp [World.cell?, hr2b, cellsR, cutR]
  have qf : ∀ q, (w2.drewN q).frozen? ⟨r.B, 3, none⟩ = false := fun q => show w2.frozen? _ = _ by simp [World.frozen?, hr2b]
  have t2 : ∀ q, (w2.drewN q).cell? ⟨s.B, 2, none⟩ = some (.int .i64 s.ob.quota) := fun q => show w2.cell? _ = _ by simp [World.cell?, hs2.blk, cellsR]
  have HR2 := Lib.hid hr2
  have HS2 := Lib.hid hs2
  have HF2 := Lib.hid hF2
  clear hr2 hs2 hF2 hr2b
  go_wp2_with fail
  refine wp_region_tail_d 14 (by kernel_rfl) (by kernel_rfl) ?_
  simp only [List.take_succ_cons, List.take_zero, List.drop_succ_cons, List.drop_zero]
  repeat (quiet_step (fail))
  refine wpQuiet_nil ?_
  intro _ hw'
  obtain ⟨n2, hw''⟩ := hw'
  subst hw''
  obtain ⟨W3, hW3⟩ : ∃ W3, (w2.drewN n2).setCell ⟨r.B, 3, none⟩ (.int .i64 (r.ob.used - s.ob.quota)) = W3 := ⟨_, rfl⟩
  have h3s : ∀ k, k ≠ r.B → W3.heap[k]? = w2.heap[k]? := fun k hk => by rw [← hW3]; exact heap_ne _ _ _ hk
  have h3r : RAt W3 base (dropR r s x iv) := by
    refine ⟨?_, row_same HR2.out.cat (fun k hk => h3s k (fun e => by subst e; exact HR2.out.catB hk)), row_same HR2.out.row (fun k hk => h3s k (fun e => by subst e; exact HR2.out.rowB hk)), HR2.out.low⟩
    have hb2 : w2.heap[r.B]? = some (.cells (cellsR (cutR r x iv)) 54 (0, 0)) := HR2.out.blk
    rw [← hW3, show (dropR r s x iv).B = r.B from rfl, heap_setCell_same (w2.drewN n2) _ _ _ _ _ hb2]; rfl
  have h3z : W3.heap.size = w2.heap.size := by rw [← hW3]; simp
  have h3F : Fm w W3 (foot r) (fun _ => False) := by
    refine ⟨?_, ?_, ?_, by have := HF2.out.size; omega, fun k hk hf => ?_, fun k hk => hk.elim⟩
    · rw [← hW3]; exact HF2.out.os
    · rw [← hW3]; exact HF2.out.tape
    · rw [← hW3]; exact HF2.out.output
    · rw [h3s k (fun e => hf (.inl e)), HF2.out.same k hk hf]
  have hfo : ∀ k, foot (dropR r s x iv) k → foot r k := fun k hk => by
    rcases hk with e | e | e
    · exact .inl e
    · exact .inr (.inl e)
    · exact .inr (.inr (by rw [← hiv2]; exact e))
  have hA3 := HH.out.one hT (dropR r s x iv) h3r rfl rfl (fun k hk => .inl (hfo k hk)) h3F
  obtain ⟨p, hp⟩ := hF iv
  have hS3 : upd T i (dropR r s x iv) x = some s := by unfold upd; rw [if_neg (Ne.symm hix)]; exact hS
  have HL := Lib.hid (loosen_any n (upd T i (dropR r s x iv)) x [] p.1 p.2 hp W3 base tb mb w.heap.size D s (.slice none 0 0) hA3.1 hS3 (hg.drop hT x iv) (World.ownsRow_nil _ _ _ _) h3F.size (fun k hk => by cases hk) (by simpa using hsz))
  have hsub : ∀ k, tfoot tb mb (upd T i (dropR r s x iv)) k → tfoot tb mb T k := fun k hk => by
    rcases hA3.2.new k hk with e | e
    · exact e
    · rcases hk with e2 | e2 | ⟨a, t, ht, e2⟩
      · exact .inl e2
      · exact .inr (.inl e2)
      · unfold upd at ht
        split at ht
        · subst a
          obtain rfl : dropR r s x iv = t := by simpa using ht
          exact .inr (.inr ⟨i, r, hT, hfo k e2⟩)
        · exact .inr (.inr ⟨a, t, ht, e2⟩)
  have HA3 := Lib.hid hA3
  have HSub := Lib.hid hsub
  have HP := Lib.hid hp
  clear hA3 hsub hp h3F h3r h3s hfo hF
  go_wp2_with (first | (go_at_call 45; first | rw [hW3] | skip; refine HL.out.mono ?_; rintro e w5 ⟨gv5, rfl, hL5⟩; obtain ⟨sp5, cap5, hv5⟩ := row_form hL5.row; subst hv5; have HL5 := Lib.hid hL5; clear hL5))
  go_ret2
  obtain ⟨D', hD'⟩ := HL5.out.tab
  refine ⟨iv, p.1, p.2, _, D', HP.out, rfl, hD'.1, HL5.out.row, by simpa using hD'.2, fun k hk => HSub.out k (HL5.out.sub k hk), HL5.out.good, ?_⟩
  have z5 := HL5.out.fm.size
  have z3 := HA3.out.2.size
  refine ⟨HL5.out.fm.os.trans HA3.out.2.os, HL5.out.fm.tape.trans HA3.out.2.tape, HL5.out.fm.output.trans HA3.out.2.output, by omega, fun k hk hf => ?_, fun k hk => hk.elim⟩
  rw [HL5.out.fm.same k (by omega) (fun e => ?_), HA3.out.2.same k hk hf]
  rcases e with e | e
  · exact hf (HSub.out k e)
  · cases e
end Go.Proofs.Ytebcnlhgkpaghaa

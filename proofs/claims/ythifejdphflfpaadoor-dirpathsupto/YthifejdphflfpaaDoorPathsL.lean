/- DirPaths: the law's walk. -/
import Derived.Test.YthifejdphflfpaaDoorRef5
import Derived.Test.YthifejdphflfpaaDoorJoin
namespace Go.Proofs.YthifejdphflfpaaDoor
open Go.RowKit Go.Sort
theorem refSplit_long (s : ByteArray) (w : World) (hs : 256 < s.size) : Calls Tryd.prog 24 #[.string s] w fun e w' => e = .returned (.tuple #[.slice none 0 0, .int .i64 32]) ∧ w' = w := by
  have h1 : (256 : Int) < (s.size : Int) := by omega
  go_enter Tryd.func24, Tryd.ntmps24
  go_wp2
  go_ret2
  exact ⟨rfl, rfl⟩
/-- Both ways of splitting come to the same. -/
theorem splits (s : ByteArray) : ∃ (E : Int) (L : List ByteArray), L.length < 1000000 ∧ (∀ w, Env w → Calls Tryd.prog 23 #[.string s] w fun e w' => ∃ v, e = .returned (.tuple #[v, .int .i64 E]) ∧ w'.ownsRow w.heap.size 9 1 v L.length (svs L) ∧ Below w.heap.size w w') ∧
    (∀ w, Calls Tryd.prog 24 #[.string s] w fun e w' => ∃ v, e = .returned (.tuple #[v, .int .i64 E]) ∧ w'.ownsRow w.heap.size 9 1 v L.length (svs L) ∧ Below w.heap.size w w') := by
  by_cases hs : s.size ≤ 256
  · refine ⟨(splE [] (partsOf s)).1, (splE [] (partsOf s)).2, ?_, fun w hE => ?_, fun w => refSplit_any s w hs⟩
    · have key : ∀ (ps ns : List ByteArray), (splE ns ps).2.length ≤ 16 := fun ps => by
        induction ps with
        | nil => intro ns; rw [splE]; split <;> simp; omega
        | cons q ps ih => intro ns; rw [splE]; split; exact ih _; simp
      have := key (partsOf s) []
      omega
    · obtain ⟨m, hm⟩ := hE.ml
      exact Split_all s m w hs hm
  · refine ⟨32, [], by simp, fun w _ => ?_, fun w => ?_⟩
    · exact (Split_long s w (by omega)).mono fun e w' ⟨he, hw⟩ => ⟨_, he, World.ownsRow_nil _ _ _ _, by rw [hw]; exact Below.refl _ _⟩
    · exact (refSplit_long s w (by omega)).mono fun e w' ⟨he, hw⟩ => ⟨_, he, World.ownsRow_nil _ _ _ _, by rw [hw]; exact Below.refl _ _⟩
set_option maxRecDepth 100000 in
set_option maxHeartbeats 2000000 in
theorem DirPaths_any (s : ByteArray) (p : Option Addr) (cap : Nat) (l : List ByteArray) (w : World) (hE : Env w) (hl : sumS l ≤ 1048576) (hc : TsAt w p l) (hcap : l.length ≤ cap) :
    Calls Tryd.prog 6 #[.string s, .slice p l.length cap] w fun e w' => e = .returned (.bool true) ∧ Below w.heap.size w w' := by
  obtain ⟨E, L, hL, hS1, hS2⟩ := splits s
  have HLv := Lib.hid (lives_any w hE)
  have HS1 := Lib.hid hS1
  have HS2 := Lib.hid hS2
  clear hS1 hS2
  go_enter Tryd.func6, Tryd.ntmps6
  go_wp2_with (go_at_call 9; refine HLv.out.mono ?_; rintro e w1 ⟨rfl, hb1⟩; refine Hid.out ?_)
  refine Lib.hid ?_
  have HB1 := Lib.hid hb1
  clear hb1
  go_wp2_with (go_at_call 23; refine (HS1.out _ (hE.below HB1.out)).mono ?_; rintro e w2 ⟨v2, rfl, ho2, hb2⟩; refine Hid.out ?_)
  refine Lib.hid ?_
  obtain ⟨p2, c2, rfl, hT2⟩ := own_ts ho2 rfl
  have HB2 := Lib.hid (HB1.out.trans (hb2.mono HB1.out.size))
  clear ho2 hb2
  go_wp2_with (go_at_call 24; refine (HS2.out _).mono ?_; rintro e w3 ⟨v3, rfl, ho3, hb3⟩; refine Hid.out ?_)
  refine Lib.hid ?_
  obtain ⟨p3, c3, rfl, hT3⟩ := own_ts ho3 rfl
  have HB3 := Lib.hid (HB2.out.trans (hb3.mono HB2.out.size))
  have HSm := Lib.hid (SameTexts_any p2 p3 c2 c3 L L w3 hL (hT2.below hb3) hT3)
  rw [decide_eq_true rfl] at HSm
  have HJ1 : Hid (∀ W, Below w.heap.size w W → Calls Tryd.prog 26 #[.slice p l.length cap] W fun e w' => e = .returned (.string (pathB l)) ∧ Below W.heap.size W w') := fun W h => Join_any p cap l W hl (fun j hj => by
    obtain ⟨b, off, hp, hb, hcj⟩ := hc j hj
    exact ⟨b, off, hp, Nat.lt_of_lt_of_le hb h.size, (h.cell (p := ⟨b, off + j, none⟩) hb).trans hcj⟩) hcap
  have HJ2 : Hid (∀ W, Below w.heap.size w W → Calls Tryd.prog 27 #[.slice p l.length cap] W fun e w' => e = .returned (.string (pathB l)) ∧ Below W.heap.size W w') := fun W h => refJoin_any p cap l W hl (fun j hj => by
    obtain ⟨b, off, hp, hb, hcj⟩ := hc j hj
    exact ⟨b, off, hp, Nat.lt_of_lt_of_le hb h.size, (h.cell (p := ⟨b, off + j, none⟩) hb).trans hcj⟩)
  clear hT2 hT3 ho3 hb3 hc HS1 HS2 HLv hE hl hcap
  generalize pathB l = P at HJ1 HJ2
  go_wp2_with (first
    | (go_at_call 25; refine HSm.out.mono ?_; rintro e w4 ⟨rfl, hb4⟩; have HB4 := Lib.hid (HB3.out.trans (hb4.mono HB3.out.size)); clear hb4)
    | (go_at_call 26; refine (HJ1.out _ HB4.out).mono ?_; rintro e w5 ⟨rfl, hb5⟩; have HB5 := Lib.hid (HB4.out.trans (hb5.mono HB4.out.size)); clear hb5)
    | (go_at_call 27; refine (HJ2.out _ HB5.out).mono ?_; rintro e w6 ⟨rfl, hb6⟩))
  go_ret
  exact ⟨ret_bool (by simp), HB5.out.trans (hb6.mono HB5.out.size)⟩
end Go.Proofs.YthifejdphflfpaaDoor

/- IsaParses (P2.1): for every text, whatever its bytes are: Parse of package isa answers the instruction that the reference answers, or none where it has none, and the law answers true; condition: the package variables that the card lists lie as their text lays them (the card ties them to it). -/
import Derived.Test.YtgldkmabhmlijaaGreatDoorRParse1
import Derived.Test.YtgldkmabhmlijaaGreatDoorRParse2
import Derived.Test.YtgldkmabhmlijaaGreatDoorRParse3
import Derived.Test.YtgldkmabhmlijaaGreatDoorRParse4
import Derived.Test.YtgldkmabhmlijaaGreatDoorRParse5
import Derived.Test.YtgldkmabhmlijaaGreatDoorRParse6
import Derived.Test.YtgldkmabhmlijaaGreatDoorRParse7
import Derived.Test.YtgldkmabhmlijaaGreatDoorCodesLaw
import Derived.Test.YtgldkmabhmlijaaGreatDoorOpenI
import Derived.Test.YtgldkmabhmlijaaGreatDoorLives
import Derived.ChangeMaps5
/- What Parse of the reference answers, for every text; and that it is what Parse of package isa answers. -/
namespace Go.Proofs.YtgldkmabhmlijaaGreatDoor
open Go.RowKit Go.Sort
theorem opN_lim (l : List UInt8) : opN l < 0 ∨ (0 ≤ opN l ∧ opN l ≤ 26) := by
  unfold opN; split <;> omega
theorem rParse_any (s : ByteArray) (w : World) (hs : s.size < 100000) : Calls Tryz.prog 7 #[.string s] w (RP s w) := by
  rcases opN_lim ((wdA 32 [] s.data.toList).getD 0 []) with h | h
  · exact rParse_no s w hs _ rfl h
  · rcases sh_cases (opN ((wdA 32 [] s.data.toList).getD 0 [])) with e | e | e | e | e | e | e
    · exact rParse_0 s w hs _ rfl h e
    · exact rParse_1 s w hs _ rfl h e
    · exact rParse_2 s w hs _ rfl h e
    · exact rParse_3 s w hs _ rfl h e
    · exact rParse_4 s w hs _ rfl h e
    · exact rParse_5 s w hs _ rfl h e
    · exact rParse_6 s w hs _ rfl h e
theorem parC_rpar (s : ByteArray) (c : Cod) : parC s = some c ↔ rpar s.data.toList = some (c, []) := by
  rw [parC_iff]
  constructor
  · rintro ⟨h1, h2⟩; rw [← h2]; exact rpar_text c h1
  · intro h
    obtain ⟨hr, ⟨_, ht⟩ | ⟨hnm, _⟩⟩ := rpar_some h
    · exact ⟨hr, ht⟩
    · exact absurd hnm (by decide)
end Go.Proofs.YtgldkmabhmlijaaGreatDoor
/- IsaParses walks. -/
namespace Go.Proofs.YtgldkmabhmlijaaGreatDoor
open Go.RowKit Go.Sort
set_option maxRecDepth 100000 in
set_option maxHeartbeats 4000000 in
theorem IsaParses_long (hL : Lives) (s : ByteArray) (w : World) (hE : Env w) (hs : 2000 < s.size) : Calls Tryz.prog 3 #[.string s] w fun e w' => e = .returned (.bool true) ∧ Below w.heap.size w w' := by
  have HL := Lib.hid hL
  have hsi : (2000 : Int) < (s.size : Int) := by omega
  clear hL hs
  go_enter Tryz.func3, Tryz.ntmps3
  go_wp2_with (first | (go_at_call 5; refine (HL.out _ hE).mono ?_; rintro e w1 ⟨rfl, hb1⟩))
  go_ret
  exact ⟨rfl, hb1⟩
set_option maxRecDepth 100000 in
set_option maxHeartbeats 4000000 in
theorem IsaParses_no (hL : Lives) (s : ByteArray) (w : World) (hE : Env w) (hs : s.size ≤ 2000) (h1 : parC s = none) : Calls Tryz.prog 3 #[.string s] w fun e w' => e = .returned (.bool true) ∧ Below w.heap.size w w' := by
  have HL := Lib.hid hL
  have hsi : ¬ (2000 : Int) < (s.size : Int) := by omega
  have H1 := Lib.hid (fun W hW => Parse_any s W hW (by omega))
  rw [h1] at H1
  have H1' : Hid (∀ W, Env W → Calls Tryz.prog 6 #[.string s] W fun e w' => e = .returned (.tuple #[.agg #[.int .i64 0, .int .i64 0, .int .i64 0, .int .i64 0, .int .i64 0], .int .i64 2]) ∧ Below W.heap.size W w') := H1
  have H2 := Lib.hid (fun W => rParse_any s W (by omega))
  have HNo : Hid (∀ c, rpar s.data.toList ≠ some (c, [])) := fun c h => by have := (parC_rpar s c).2 h; rw [h1] at this; cases this
  clear hL H1 h1 hs
  go_enter Tryz.func3, Tryz.ntmps3
  go_wp2_with (first | (go_at_call 5; refine (HL.out _ hE).mono ?_; rintro e w1 ⟨rfl, hb1⟩; have hE1 := hE.below hb1) | (go_at_call 6; refine (H1'.out _ hE1).mono ?_; rintro e w2 ⟨rfl, hb2⟩; refine Hid.out ?_))
  refine Lib.hid ?_
  have k0 := At5.new w2 c0 24
  go_wp2_with (first | (go_at_call 7; refine (H2.out _).mono ?_; rintro e w3 ⟨⟨c', nm, ok, rfl, hrp⟩, hb3⟩; refine Hid.out ?_))
  refine Lib.hid ?_
  obtain ⟨cl, ⟨b0, b1, b2, b3, b4⟩, bf⟩ := k0.below hb3 (by simp)
  simp only [c0] at b0 b1 b2 b3 b4
  have q2 := hb1.trans (hb2.mono hb1.size)
  have q3 : Below w.heap.size w w3 := (q2.alloc q2.size _).trans (hb3.mono (by have := q2.size; simp; omega))
  have HQ := Lib.hid (q3.alloc q3.size (.cells #[.int .i64 c'.op, .int .i64 c'.a, .int .i64 c'.b, .int .i64 c'.c, .int .i64 c'.n] 24))
  have HQ3 := Lib.hid q3
  unfold Cod.v
  cases ok with
  | false =>
    clear hrp q2 q3 hb2 hb3 bf
    go_wp2
    go_ret
    first | exact ⟨rfl, HQ.out⟩ | exact ⟨rfl, HQ.out.alloc HQ.out.size _⟩
  | true =>
    have hne : nm.toList.isEmpty = false := by
      rcases hq : nm.toList.isEmpty with _ | _
      · rfl
      · exfalso
        rw [if_pos rfl] at hrp
        have : nm.data.toList = [] := by rw [ByteArray.toList_eq] at hq; simpa using hq
        rw [this] at hrp
        exact HNo.out c' hrp
    clear hrp q2 q3 hb2 hb3 bf
    go_wp2
    go_ret
    first | exact ⟨rfl, HQ.out⟩ | exact ⟨rfl, HQ.out.alloc HQ.out.size _⟩
set_option maxRecDepth 100000 in
set_option maxHeartbeats 4000000 in
theorem IsaParses_yes (hL : Lives) (s : ByteArray) (c : Cod) (w : World) (hE : Env w) (hs : s.size ≤ 2000) (h1 : parC s = some c) : Calls Tryz.prog 3 #[.string s] w fun e w' => e = .returned (.bool true) ∧ Below w.heap.size w w' := by
  have HL := Lib.hid hL
  have hsi : ¬ (2000 : Int) < (s.size : Int) := by omega
  obtain ⟨hr, ht⟩ := parC_some h1
  have hrp0 := (parC_rpar s c).1 h1
  have H1 := Lib.hid (fun W hW => Parse_any s W hW (by omega))
  rw [h1] at H1
  have H1' : Hid (∀ W, Env W → Calls Tryz.prog 6 #[.string s] W fun e w' => e = .returned (.tuple #[c.v, .int .i64 0]) ∧ Below W.heap.size W w') := H1
  have H2 : Hid (∀ W, Calls Tryz.prog 7 #[.string s] W fun e w' => e = .returned (.tuple #[c.v, .string ⟨#[]⟩, .bool true]) ∧ Below W.heap.size W w') := fun W => (rParse_any s W (by omega)).mono fun e w' ⟨⟨c', nm, ok, he, hrp⟩, hb⟩ => by
    refine ⟨?_, hb⟩
    rw [hrp0] at hrp
    cases ok with
    | false => cases hrp
    | true =>
      rw [if_pos rfl] at hrp
      have e := Option.some.inj hrp
      have e1 : c = c' := congrArg Prod.fst e
      have e2 : [] = nm.data.toList := congrArg Prod.snd e
      have e3 : nm = ⟨#[]⟩ := ByteArray.ext (Array.toList_inj.1 e2.symm)
      rw [he, e1, e3]
  have H3 : Hid (∀ W, Calls Tryz.prog 8 #[c.v] W fun e w' => e = .returned (.string s) ∧ Below W.heap.size W w') := fun W => by
    have := rText_any c W hr
    rw [ht] at this
    exact this
  unfold Cod.v at H1' H2 H3
  clear hL h1 H1 hr ht hrp0 hs
  have hss : (s.toList == s.toList) = true := by simp
  go_enter Tryz.func3, Tryz.ntmps3
  go_wp2_with (first | (go_at_call 5; refine (HL.out _ hE).mono ?_; rintro e w1 ⟨rfl, hb1⟩; have hE1 := hE.below hb1) | (go_at_call 6; refine (H1'.out _ hE1).mono ?_; rintro e w2 ⟨rfl, hb2⟩; refine Hid.out ?_))
  refine Lib.hid ?_
  have k0 := At5.new w2 c 24
  go_wp2_with (first | (go_at_call 7; refine (H2.out _).mono ?_; rintro e w3 ⟨rfl, hb3⟩; refine Hid.out ?_))
  refine Lib.hid ?_
  have q2 := hb1.trans (hb2.mono hb1.size)
  have q3 : Below w.heap.size w w3 := (q2.alloc q2.size _).trans (hb3.mono (by have := q2.size; simp; omega))
  have z2 : w2.heap.size < w3.heap.size := by have := hb3.size; simp at this; omega
  obtain ⟨cl, ⟨b0, b1, b2, b3, b4⟩, bf⟩ := k0.below hb3 (by simp)
  go_wp2_with (first | (go_at_call 8; refine (H3.out _).mono ?_; rintro e w4 ⟨rfl, hb4⟩))
  go_ret
  exact ⟨rfl, (q3.alloc q3.size _).trans (hb4.mono (by have := q3.size; simp; omega))⟩
theorem IsaParses_any (hL : Lives) (s : ByteArray) (w : World) (hE : Env w) : Calls Tryz.prog 3 #[.string s] w fun e w' => e = .returned (.bool true) ∧ Below w.heap.size w w' := by
  by_cases hs : 2000 < s.size
  · exact IsaParses_long hL s w hE hs
  · rcases h : parC s with _ | c
    · exact IsaParses_no hL s w hE (by omega) h
    · exact IsaParses_yes hL s c w hE (by omega) h
end Go.Proofs.YtgldkmabhmlijaaGreatDoor
namespace Go.Proofs.YtgldkmabhmlijaaGreatDoor.isaParses
open Go.ChangeShapes Go.WideShapes Go.ChangeAt Go.RowKit

set_option maxRecDepth 100000 in
theorem contract (H : Type) (enc : TypeId × Value → H) (W : World) (base : Nat) (args : Array Value) (ds gs : List (DataW H)) (before : List MemPlace)
    (hval : ∀ (j : Nat) t v, Tryz.f3.params[j]? = some t → args[j]? = some v → Value.okWide Tryz.prog W .any base t v)
    (hW : DataW.Whole enc Tryz.prog Tryz.f3.params.toList Rows.isaParsesSpec.vars false W args.toList ds gs before) (hE : Env W) :
    Calls Tryz.prog 3 args W fun e W' => ∃ v, e = .returned v ∧ Rows.isaParsesSpec.post enc Tryz.prog Tryz.f3 false true false false W args v W' := by
  have hW' := hW
  obtain ⟨p, q, hA0, hV, rfl, hfz, hnd⟩ := hW
  have hA : DataW.TrodAll enc Tryz.prog W 0 (fun _ => true) true Tryz.f3.params.toList args.toList ds p := hA0
  obtain ⟨rfl, rfl⟩ := trodVars_none hV
  rw [Tryz.params3] at hA hval
  obtain ⟨v0, vs0, d0, ds0, p0, q0, hargs, rfl, rfl, h0, r0⟩ := trodAll_cons hA
  obtain ⟨rfl, rfl, rfl⟩ := trodAll_nil r0
  obtain rfl : args = #[v0] := by cases args; simp_all
  obtain ⟨x0, rfl, rfl, rfl, hm0⟩ := Go.ChangeMaps.open_string Tryz.underlying9 (hval 0 9 v0 rfl rfl) h0
  refine (IsaParses_any lives_any x0 W hE).mono fun e W' ⟨he, hb⟩ => ?_
  subst he
  exact ⟨_, rfl, law_post (by kernel_rfl) (by rw [Tryz.params3]; intro t ht; simp at ht; subst ht; exact ⟨by kernel_rfl, of_decide_eq_true (by kernel_rfl)⟩) rfl hW' rfl rfl rfl hb⟩

theorem laid_same : Rows.isaParsesRow.laid = laidI := rfl
theorem reads (os : Os) {H : Type} (enc : TypeId × Value → H) : ∃ places, DataW.whole enc Tryz.prog ((wit os).forCall (fun _ _ => 0) ⟨#[], #[.string ⟨#[]⟩], []⟩).memory Tryz.f3.params.toList Rows.isaParsesSpec.vars false #[Value.string ⟨#[]⟩].toList 8 = some ([.lit (.string [])], [], places) :=
  ⟨[], by kernel_rfl⟩

set_option maxRecDepth 100000 in
theorem lifted (os : Os) (started : os.Started) (H : Type) (enc : TypeId × Value → H) (F : Stop.Interp) :
    ReturnsInHanded {} Tryz.checked os 3 .any ((OpenSpec.ofChange Rows.isaParsesSpec).preRow enc Tryz.prog Tryz.f3 Rows.isaParsesRow.domain false Rows.isaParsesRow.laid) (((OpenSpec.ofChange Rows.isaParsesSpec).at F).post enc Tryz.prog Tryz.f3 false true false false) := by
  obtain ⟨places, hx⟩ := reads os enc
  refine returnsInHanded_of_row (C := Tryz.checked) (s := OpenSpec.ofChange Rows.isaParsesSpec) own started (by kernel_rfl) Tryz.func3
    (witness_row_atRef (enc := enc) (C := Tryz.checked) false (wit os) #[.string ⟨#[]⟩] rfl (by kernel_rfl) (by kernel_rfl) (by kernel_rfl)
      (OpenSpec.preRow_of_cond 8 hx (by kernel_rfl) (fun k hk => by cases hk) (by kernel_rfl) (wit_met os _))) ?_
  intro W base args ds gs before hval hW _ _ _ hL hS _
  exact contract H enc W base args ds gs before hval hW (env_of hL hS)

theorem said : Rows.IsaParsesSaid :=
  OpenClaim.holds_of_cond 3 Tryz.f3 rfl rfl rfl rfl rfl rfl rfl ⟨rfl, rfl, rfl, rfl, rfl⟩ rfl rfl rfl rfl rfl (by kernel_rfl) Tryz.func3 (by kernel_rfl)
    (of_decide_eq_true (by kernel_rfl)) (by unfold Func.isWrapper; first | (rw [if_pos (by decide +kernel)]; kernel_rfl) | (rw [if_neg (by decide +kernel)]; exact ⟨rfl, rfl⟩))
    (fun os started H enc _ F => by rw [OpenClaim.pre_eq_preRow]; exact lifted os started H enc F)

theorem plain (f : FuncId) (fn : Func) (hf : Tryz.pinned.checked.prog.funcNamed Rows.isaParsesRow.func = some f) (hfn : Tryz.pinned.checked.prog.funcs[f]? = some fn) :
    true = Tryz.pinned.checked.prog.looks [] ∧ ∀ (j : Nat) t, fn.params[j]? = some t → Tryz.pinned.checked.prog.wantsStandIn t = false := by
  obtain rfl : f = 3 := Option.some.inj ((show Tryz.prog.funcNamed Rows.isaParsesRow.func = some 3 by kernel_rfl).symm.trans hf) |>.symm
  obtain rfl : fn = Tryz.f3 := (Option.some.inj (Tryz.func3.symm.trans hfn)).symm
  refine ⟨by kernel_rfl, fun j t ht => ?_⟩
  rw [Tryz.params3] at ht
  have hm := Array.mem_of_getElem? ht
  simp at hm
  subst hm
  exact (show Tryz.prog.wantsStandIn 9 = false by kernel_rfl)

theorem card : Rows.IsaParsesCardSaid :=
  Claim7.holds_tied_plain_at .later [] _ _ _ _ said (fun _ h => by cases h) (by kernel_rfl) (fun _ h => by cases h) isaParses_row_tie rfl ⟨rfl, rfl⟩ (by kernel_rfl) rfl plain (by kernel_rfl)
end Go.Proofs.YtgldkmabhmlijaaGreatDoor.isaParses

namespace Go.Proofs.YtgldkmabhmlijaaGreatDoor
theorem isaParses_holds : Rows.IsaParsesCardSaid := isaParses.card
end Go.Proofs.YtgldkmabhmlijaaGreatDoor

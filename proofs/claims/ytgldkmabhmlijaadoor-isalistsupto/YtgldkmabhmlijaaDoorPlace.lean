/- What addPlace of package isa does, for every map of its own. -/
import Derived.Test.YtgldkmabhmlijaaDoorStep
import Derived.Maps.OwnSet
namespace Go.Proofs.YtgldkmabhmlijaaDoor
open Go.RowKit Go.Sort Go.Shelf
attribute [local go_sem] Oper.semAt_some
open Go.Maps (Keyed)
/-- Block mb is a map of names that reads as D. -/
abbrev MapAt (w : World) (mb n : Nat) (D : DataW Unit) : Prop := w.ownsMap Tryd.prog 9 (plainElem Tryd.prog 3) mb n D
def keyS (s : ByteArray) : Lit := .string s.data.toList
/-- May the name be added? -/
def plOk (D : DataW Unit) (s : ByteArray) : Bool := !Maps.has D (keyS s) && nameL s.data.toList
def plPut (D : DataW Unit) (s : ByteArray) (len : Nat) : DataW Unit := if plOk D s = true then D.put (keyS s) (.lit (.int .i64 len)) else D
theorem grown_below {w w' : World} (h : Below w.heap.size w w') (r : Option Nat) : w.grownBy w' r := ⟨h.os, h.tape, h.output, h.size, fun k hk _ => h.block k hk⟩
theorem us : Tryd.prog.underlying 9 = some .string := by kernel_rfl
theorem ui : Tryd.prog.underlying 3 = some (.int .i64) := by kernel_rfl
theorem um : Tryd.prog.underlying 52 = some (.map 9 3) := by kernel_rfl
theorem keyedS : Keyed Tryd.prog 9 := Maps.string_keyed us
theorem look_any {w : World} {mb n : Nat} {D : DataW Unit} (hm : MapAt w mb n D) (s : ByteArray) (hsz : s.size ≤ maxLen) :
    ∃ vi : Int, (Instr.lookup 52 (.map (some mb)) (.string s) true).run Tryd.prog w = .ok (.tuple #[.int .i64 vi, .bool (Maps.has D (keyS s))]) w ∧ D.atKey (keyS s) (.lit (.int .i64 0)) = .lit (.int .i64 vi) := by
  have hkey := WideMaps.keyOf_string_mk us hsz
  obtain ⟨v, ps, hrun, hR⟩ := World.ownsMap.look_ok hm keyedS um (z := .int .i64 0) (zd := .lit (.int .i64 0)) (zp := []) (by kernel_rfl) (plainElem_int ui (by decide)) hkey
  obtain ⟨vi, rfl, hvi, hwv⟩ := plainElem_int_inv ui hR
  exact ⟨vi, hrun, congrArg Prod.fst hvi⟩
set_option maxRecDepth 100000 in
set_option maxHeartbeats 1000000 in
theorem addPlace_any (Bp mb n len cap : Nat) (sp : Option Addr) (D : DataW Unit) (name : ByteArray) (w : World)
    (c0 : w.cell? ⟨Bp, 0, none⟩ = some (.slice sp len cap)) (c1 : w.cell? ⟨Bp, 1, none⟩ = some (.map (some mb)))
    (hsz : name.size ≤ maxLen) (hlen : len < 1000000) (hn : n < 1000000) (hBp : Bp < w.heap.size)
    (hm : MapAt w mb n D) :
    Calls Tryd.prog 34 #[.pointer (some ⟨Bp, 0, none⟩), .string name] w fun e w' => e = .returned (.bool (plOk D name)) ∧ MapAt w' mb (n + 1) (plPut D name len) ∧ w.grownBy w' (some mb) := by
  obtain ⟨vi, hrun, _⟩ := look_any hm name hsz
  have HN := Lib.hid (isName_any name)
  have HM := Lib.hid hm
  have hml := hm.lt
  clear hm
  by_cases hh : Maps.has D (keyS name) = true
  · have hok : plOk D name = false := by unfold plOk; rw [hh]; rfl
    have HP : Hid (plPut D name len = D) := by unfold plPut; rw [hok]; rfl
    have HO := Lib.hid hok
    rw [hh] at hrun
    clear hok hh
    go_enter Tryd.func34, Tryd.ntmps34
    go_wp2
    go_ret
    exact ⟨by rw [HO.out]; rfl, by rw [HP.out]; exact World.ownsMap.mono HM.out (by omega), grown_below (Below.refl _ _) _⟩
  · have hh' : Maps.has D (keyS name) = false := by simpa using hh
    rw [hh'] at hrun
    by_cases hq : nameL name.data.toList = true
    · have hok : plOk D name = true := by unfold plOk; rw [hh', hq]; rfl
      have HP : Hid (plPut D name len = D.put (keyS name) (.lit (.int .i64 len))) := by unfold plPut; rw [hok]; rfl
      have HO := Lib.hid hok
      rw [hq] at HN
      have hkey := Lib.hid (WideMaps.keyOf_string_mk us hsz)
      have hval : Hid (plainElem (H := Unit) Tryd.prog 3 (.int .i64 len) = some (.lit (.int .i64 len), [])) := plainElem_int ui (by simp [Lit.wf]; refine ⟨Int.le_trans (by decide : IntKind.min .i64 ≤ 0) (by omega), Int.le_trans (by omega : (len : Int) ≤ 1000000) (by decide)⟩)
      clear hok hh hh' hq
      go_enter Tryd.func34, Tryd.ntmps34
      go_wp2_with (go_at_call 43; refine (HN.out _).mono ?_; rintro e w1 ⟨rfl, hb1⟩; refine Hid.out ?_)
      refine Lib.hid ?_
      have HM1 : Hid (MapAt w1 mb n D) := World.ownsMap.kept HM.out (grown_below hb1 none) (by simp)
      have hB1 : Bp < w1.heap.size := Nat.lt_of_lt_of_le hBp hb1.size
      have g0 : ∀ n os, (gx w1 n os).cell? ⟨Bp, 0, none⟩ = some (.slice sp len cap) := cell_gx hB1 ((hb1.cell (p := ⟨Bp, 0, none⟩) hBp).trans c0)
      have g1 : ∀ n os, (gx w1 n os).cell? ⟨Bp, 1, none⟩ = some (.map (some mb)) := cell_gx hB1 ((hb1.cell (p := ⟨Bp, 1, none⟩) hBp).trans c1)
      have HB1 := Lib.hid hb1
      clear hb1 c0 c1
      go_wp2_with fail
      refine wp_region_tail_gx 10 (by kernel_rfl) (by kernel_rfl) ?_
      simp only [List.take_succ_cons, List.take_zero, List.drop_succ_cons, List.drop_zero]
      repeat (quiet_step (fail))
      refine wpQuiet_nil ?_
      intro _ hw'
      obtain ⟨⟨nq, osq⟩, hw''⟩ := hw'
      subst hw''
      go_wp2_with (at_mapUpdate; refine wpList_mapUpdate_own _ rfl _ _ _ 52 rfl 9 3 keyedS um _ mb n D rfl (World.ownsMap.kept HM1.out (grown_below (gx_below _ _ _) none) (by simp)) (by show n < 2 ^ 63 - 1; omega) _ _ _ rfl rfl hkey.out _ [] hval.out ?_; intro w2 hm2 hg2)
      go_ret
      exact ⟨by rw [HO.out]; rfl, by rw [HP.out]; exact hm2, World.grownBy.trans (grown_below (HB1.out.trans ((gx_below w1 nq osq).mono HB1.out.size)) (some mb)) hg2⟩
    · have hq' : nameL name.data.toList = false := by simpa using hq
      have hok : plOk D name = false := by unfold plOk; rw [hh', hq']; rfl
      have HP : Hid (plPut D name len = D) := by unfold plPut; rw [hok]; rfl
      have HO := Lib.hid hok
      rw [hq'] at HN
      clear hok hh hh' hq hq'
      go_enter Tryd.func34, Tryd.ntmps34
      go_wp2_with (go_at_call 43; refine (HN.out _).mono ?_; rintro e w1 ⟨rfl, hb1⟩; have HB := Lib.hid hb1)
      go_ret
      exact ⟨by rw [HO.out]; rfl, by rw [HP.out]; exact (World.ownsMap.kept HM.out (grown_below HB.out none) (by simp)).mono (by omega), grown_below HB.out _⟩
end Go.Proofs.YtgldkmabhmlijaaDoor

/- The law's lives answers true: Encode, Build and Text at the chapter's examples. -/
import Derived.Test.YtgldkmabhmlijaaDoorBuild
import Derived.Test.YtgldkmabhmlijaaDoorCodesLaw
namespace Go.Proofs.YtgldkmabhmlijaaDoor
open Go.RowKit Go.Sort Go.Shelf
/-- The text that lives builds. -/
def txt : ByteArray := ⟨#[97, 103, 97, 105, 110, 58, 10, 97, 100, 100, 32, 114, 49, 32, 114, 49, 32, 114, 50, 10, 103, 111, 32, 97, 103, 97, 105, 110, 10]⟩
set_option maxRecDepth 100000 in
theorem txt_lines : allLn txt = [(1, ⟨#[97, 103, 97, 105, 110, 58]⟩), (2, ⟨#[97, 100, 100, 32, 114, 49, 32, 114, 49, 32, 114, 50]⟩), (3, ⟨#[103, 111, 32, 97, 103, 97, 105, 110]⟩), (4, ⟨#[]⟩)] := by kernel_rfl
set_option maxRecDepth 100000 in
theorem txt_built : buildR txt = #[.string ⟨#[6, 1, 1, 2, 22, 0, 254, 255]⟩, .int .i64 0, .int .i64 0] := by kernel_rfl
theorem txt_text : (⟨(textC ⟨23, 1, 0, 0, -2⟩).toArray⟩ : ByteArray) = ⟨#[122, 101, 114, 111, 32, 114, 49, 32, 45, 50]⟩ := by kernel_rfl
theorem txt_enc : q4s (bytesC ⟨6, 1, 2, 15, 0⟩) = ⟨#[6, 1, 2, 15]⟩ := by kernel_rfl
set_option maxRecDepth 100000 in
set_option maxHeartbeats 1000000 in
theorem lives_any : Lives := fun w hE => by
  have H1 : Hid (∀ W, Calls Tryd.prog 6 #[.agg #[.int .i64 6, .int .i64 1, .int .i64 2, .int .i64 15, .int .i64 0]] W fun e w' => e = .returned (.tuple #[.string ⟨#[6, 1, 2, 15]⟩, .int .i64 0]) ∧ Below W.heap.size W w') := fun W => by
    have := Encode_yes ⟨6, 1, 2, 15, 0⟩ W (by kernel_rfl); rwa [txt_enc] at this
  have H2 : Hid (∀ W, Env W → Calls Tryd.prog 9 #[.string ⟨#[97, 103, 97, 105, 110, 58, 10, 97, 100, 100, 32, 114, 49, 32, 114, 49, 32, 114, 50, 10, 103, 111, 32, 97, 103, 97, 105, 110, 10]⟩] W fun e w' => e = .returned (.tuple #[.string ⟨#[6, 1, 1, 2, 22, 0, 254, 255]⟩, .int .i64 0, .int .i64 0]) ∧ Below W.heap.size W w') := fun W hW => by
    have := Build_any txt W hW (by decide); rwa [txt_built] at this
  have H3 : Hid (∀ W, Env W → Calls Tryd.prog 7 #[.agg #[.int .i64 23, .int .i64 1, .int .i64 0, .int .i64 0, .int .i64 (-2)]] W fun e w' => e = .returned (.tuple #[.string ⟨#[122, 101, 114, 111, 32, 114, 49, 32, 45, 50]⟩, .int .i64 0]) ∧ Below W.heap.size W w') := fun W hW => by
    have := Text_yes ⟨23, 1, 0, 0, -2⟩ W hW (by kernel_rfl); rwa [txt_text] at this
  go_enter Tryd.func5, Tryd.ntmps5
  go_wp2_with (first
    | (go_at_call 6; refine (H1.out _).mono ?_; rintro e w1 ⟨rfl, hb1⟩; have hE1 := hE.below hb1)
    | (go_at_call 9; refine (H2.out _ hE1).mono ?_; rintro e w2 ⟨rfl, hb2⟩; have hE2 := hE1.below hb2)
    | (go_at_call 7; refine (H3.out _ hE2).mono ?_; rintro e w3 ⟨rfl, hb3⟩))
  go_ret
  have q2 := hb1.trans (hb2.mono hb1.size)
  exact ⟨rfl, q2.trans (hb3.mono q2.size)⟩
end Go.Proofs.YtgldkmabhmlijaaDoor

/- ShaDigits: the law's walk. -/
import Derived.Test.YtpledmomljjfeaaDoorRUn
namespace Go.Proofs.YtpledmomljjfeaaDoor
open Go.RowKit Go.Sort
theorem un_hex (l : List UInt8) : unS (hexN l) = ⟨l.toArray⟩ ∧ unE (hexN l) = 0 := un_some (unhex_hex l)
theorem mk_data (s : ByteArray) : (⟨s.data.toList.toArray⟩ : ByteArray) = s := by
  apply ByteArray.ext; simp
set_option maxRecDepth 100000 in
set_option maxHeartbeats 2000000 in
theorem ShaDigits_any (s d : ByteArray) (w : World) (hE : Env w) (hs : s.size ≤ 1048576) (hd : d.size ≤ 1048576) : Calls Tryd.prog 5 #[.string s, .string d] w fun e w' => e = .returned (.bool true) ∧ Below w.heap.size w w' := by
  have hLv := lives_any w hE
  have hlen : (hexN s.data.toList).length = 2 * s.size := by rw [hex_len]; simp
  have HUd := Lib.hid (fun W => Unhex_any d W (by omega))
  have HRd := Lib.hid (fun W => refUnhex_any d W (by omega))
  have HH := Lib.hid (fun W => Hex_any s W (by omega))
  have HRH := Lib.hid (fun W => refHex_any s W (by omega))
  have HUh := Lib.hid (fun W => Unhex_any ⟨(hexN s.data.toList).toArray⟩ W (by show (hexN s.data.toList).toArray.size ≤ _; rw [List.size_toArray]; omega))
  rw [show (⟨(hexN s.data.toList).toArray⟩ : ByteArray).data.toList = hexN s.data.toList from rfl, (un_hex s.data.toList).1, (un_hex s.data.toList).2, mk_data] at HUh
  have hsz : (⟨(hexN s.data.toList).toArray⟩ : ByteArray).size = 2 * s.size := by show (hexN s.data.toList).toArray.size = _; rw [List.size_toArray, hlen]
  obtain ⟨h, hh⟩ : ∃ h : ByteArray, ⟨(hexN s.data.toList).toArray⟩ = h := ⟨_, rfl⟩
  rw [hh] at HH HRH HUh hsz
  obtain ⟨uS, huS⟩ : ∃ uS, unS d.data.toList = uS := ⟨_, rfl⟩
  obtain ⟨uE, huE⟩ : ∃ uE, unE d.data.toList = uE := ⟨_, rfl⟩
  rw [huS, huE] at HUd HRd
  have hszi : (h.size : Int) = 2 * (s.size : Int) := by omega
  have hs2 : 2 * (s.size : Int) ≤ 2097152 := by omega
  clear hh huS huE hlen hE
  go_enter Tryd.func5, Tryd.ntmps5
  go_wp2_with (first
    | (go_at_call 9; refine hLv.mono ?_; rintro e w1 ⟨rfl, hx⟩)
    | (go_at_call_of 17 (Value.string d); refine (HUd.out _).mono ?_; rintro e w' ⟨rfl, hb'⟩; replace hx := hx.trans (hb'.mono hx.size); clear hb')
    | (go_at_call 18; refine (HRd.out _).mono ?_; rintro e w' ⟨rfl, hb'⟩; replace hx := hx.trans (hb'.mono hx.size); clear hb')
    | (go_at_call 19; refine (HH.out _).mono ?_; rintro e w' ⟨rfl, hb'⟩; replace hx := hx.trans (hb'.mono hx.size); clear hb')
    | (go_at_call 20; refine (HRH.out _).mono ?_; rintro e w' ⟨rfl, hb'⟩; replace hx := hx.trans (hb'.mono hx.size); clear hb')
    | (go_at_call_of 17 (Value.string h); refine (HUh.out _).mono ?_; rintro e w' ⟨rfl, hb'⟩; replace hx := hx.trans (hb'.mono hx.size); clear hb'))
  go_ret
  exact ⟨rfl, hx⟩
end Go.Proofs.YtpledmomljjfeaaDoor

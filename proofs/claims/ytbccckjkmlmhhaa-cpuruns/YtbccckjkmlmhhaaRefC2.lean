/- Load of the reference. -/
import Derived.Test.YtbccckjkmlmhhaaLawB
import Derived.Laws.Slices
namespace Go.Proofs.Ytbccckjkmlmhhaa
open Go.RowKit Go.Lib
/-- A slice of bytes that can be read: it lies below the world's end. -/
def MemAt (w : World) (v : Value) (d : List UInt8) : Prop :=
  ∃ (p : Option Addr) (cap : Nat), v = .slice p d.length cap ∧ d.length ≤ cap ∧ (d = [] ∨ ∃ B off, p = some ⟨B, off, none⟩ ∧ B < w.heap.size ∧ ∀ j (h : j < d.length), w.cell? ⟨B, off + j, none⟩ = some (.int .u8 (d[j].toNat : Int)))
theorem MemAt.below {w w' : World} {v : Value} {d : List UInt8} (h : MemAt w v d) (hb : Below w.heap.size w w') : MemAt w' v d := by
  obtain ⟨p, cap, h1, h2, h3⟩ := h
  refine ⟨p, cap, h1, h2, ?_⟩
  rcases h3 with h3 | ⟨B, off, h3, h4, h5⟩
  · exact .inl h3
  · exact .inr ⟨B, off, h3, Nat.lt_of_lt_of_le h4 hb.size, fun j hj => (hb.cell (p := ⟨B, off + j, none⟩) h4).trans (h5 j hj)⟩
set_option maxRecDepth 100000 in
set_option maxHeartbeats 1000000 in
theorem rLoad_no (v : Value) (d : List UInt8) (a : Int) (n : Nat) (w : World) (h : MemAt w v d) (hl : d.length ≤ 4096) (h0 : 0 ≤ a) (hf : ¬ a + n ≤ d.length) (hn : n ≤ 8) :
    Calls Try.prog 21 #[v, .int .u64 a, .int .i64 n] w fun e w' => e = .returned (.tuple #[.string ⟨#[]⟩, .bool false]) ∧ w' = w := by
  obtain ⟨p, cap, rfl, _, _⟩ := h
  have hc : IntKind.u64.wrap (d.length : Int) = d.length := len_u64 hl
  by_cases ha : (d.length : Int) < a
  · go_enter Try.func21, Try.ntmps21
    go_wp2
    go_ret2
    exact ⟨rfl, rfl⟩
  · have hw : wrap64 a = a := wrap64_id (by omega) (by omega)
    have hg : (d.length : Int) - a < (n : Int) := by omega
    go_enter Try.func21, Try.ntmps21
    go_wp2
    go_ret2
    exact ⟨rfl, rfl⟩
set_option maxRecDepth 100000 in
set_option maxHeartbeats 1000000 in
theorem rLoad_yes (v : Value) (d : List UInt8) (a n : Nat) (w : World) (h : MemAt w v d) (hl : d.length ≤ 4096) (hf : a + n ≤ d.length) (hn : 0 < n) :
    Calls Try.prog 21 #[v, .int .u64 a, .int .i64 n] w fun e w' => e = .returned (.tuple #[.string ⟨((d.drop a).take n).toArray⟩, .bool true]) ∧ w' = w := by
  obtain ⟨p, cap, rfl, hcap, h3⟩ := h
  rcases h3 with rfl | ⟨B, off, rfl, hB, hcell⟩
  · simp at hf; omega
  have hc : IntKind.u64.wrap (d.length : Int) = d.length := len_u64 hl
  have hw : wrap64 (a : Int) = a := wrap64_id (by omega) (by omega)
  have hg0 : ¬ (d.length : Int) < (a : Int) := by omega
  have hg : ¬ (d.length : Int) - (a : Int) < (n : Int) := by omega
  have hlen : ((d.drop a).take n).length = n := by simp; omega
  have hcv : ∀ W : World, W.heap = w.heap → Sem.run Try.prog (convert 31 9 (.slice (some ⟨B, off + a, none⟩) n (cap - a))) W = .ok (.string ⟨((d.drop a).take n).toArray⟩) W := fun W hW => by
    have := run_convert_bytes_back (P := Try.prog) W 31 9 5 ⟨B, off + a, none⟩ (cap - a) ((d.drop a).take n) Try.underlying31 Try.underlying5 Try.underlying9 (fun j hj => by
      have hj' : j < n := by rwa [hlen] at hj
      have ha : (⟨B, off + a, none⟩ : Addr).add j = ⟨B, off + (a + j), none⟩ := by unfold Addr.add; split <;> simp_all [Nat.add_assoc]
      rw [ha]
      have := hcell (a + j) (by omega)
      simp only [World.cell?] at this ⊢
      rw [hW, this]
      simp [List.getElem_take, List.getElem_drop])
    rwa [hlen] at this
  have hcv' := hcv w rfl
  have i1 : (a : Int) ≤ (cap : Int) := by omega
  have i2 : (a : Int) + (n : Int) ≤ (cap : Int) := by omega
  clear hcell hcv
  generalize (⟨((d.drop a).take n).toArray⟩ : ByteArray) = out at hcv' ⊢
  have hne : ¬ cap = a := by omega
  have hne2 : ¬ cap - a = 0 := by omega
  go_enter Try.func21, Try.ntmps21
  go_wp2
  go_ret2
  exact ⟨rfl, rfl⟩
end Go.Proofs.Ytbccckjkmlmhhaa

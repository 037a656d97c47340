/- What found of package view answers, for every dump that is not too long. -/
import Derived.Test.YtonhdkldacghoaaSrt
import Derived.Test.YtonhdkldacghoaaRch
import Derived.Laws.AppendOwnNone
import Derived.Shelf.SlSortCmp.NoneTotal
import Derived.Deep.RegionLaw
namespace Go.Proofs.Ytonhdkldacghoaa
open Go.RowKit Go.Sort Go.Shelf

theorem wrap64_nat {k : Nat} (h : k < 1000000) : wrap64 (k : Int) = k := by
  unfold wrap64; omega
def Few (d : List Ob) : Prop := d.length ≤ 1000 ∧ ∀ o ∈ d, o.ls.length ≤ 100
theorem own_shrink {W : World} {B g k cap : Nat} {A : List Int} {x : Int} (h : W.ownsRow B 3 1 (.slice (some ⟨g, 0, none⟩) (k + 1) cap) (k + 1) (icells (A ++ [x]))) (hk : A.length = k) :
    W.ownsRow B 3 1 (.slice (some ⟨g, 0, none⟩) k cap) k (icells A) ∧ k + 1 ≤ cap ∧ W.cell? ⟨g, k, none⟩ = some (.int .i64 x) ∧ B ≤ g ∧ g < W.heap.size := by
  have hc := h.cellAt k (by omega)
  have hlt := h.lt g rfl
  have hx : (icells (A ++ [x]))[k]? = some (.int .i64 x) := by simp [icells, ← hk]
  rcases h.2 with ⟨h1, _⟩ | ⟨g', cap', cur, h1, h2, h3, h4, h5, h6, h7⟩
  · cases h1
  · cases h1
    refine ⟨⟨by simp [icells, hk], .inr ⟨g, cap, cur, rfl, h2, h3, by omega, h5, h6, ?_⟩⟩, h4, by rw [hc, hx], hlt⟩
    have := congrArg (List.take k) h7
    rw [List.take_take, Nat.min_eq_left (by omega)] at this
    rw [Nat.mul_one, this]
    simp [icells, ← hk]
theorem nvs_append (a b : List Nat) : nvs (a ++ b) = nvs a ++ nvs b := by simp [nvs, icells]
theorem row_keep {w w' : World} {b e size n : Nat} {v : Value} {xs : List Value} (h : w.ownsRow b e size v n xs) (hs : ∀ k, v.ownBlock = some k → w'.heap[k]? = w.heap[k]?) : w'.ownsRow b e size v n xs := by
  refine ⟨h.1, ?_⟩
  rcases h.2 with h | ⟨g, cap, cur, h1, h2, h3, h4⟩
  · exact .inl h
  · subst h1
    exact .inr ⟨g, cap, cur, rfl, h2, (hs g rfl).trans h3, h4⟩
theorem row_map {w : World} {b e size n m k : Nat} {v : Value} {xs : List Value} {f : Int → Option Nat} (h : w.ownsRow b e size v n xs) (hM : MI w m k f) : v.ownBlock ≠ some m := by
  rcases h.2 with ⟨rfl, _⟩ | ⟨g, cap, cur, rfl, _, h3, _⟩
  · simp [Value.ownBlock]
  · intro e; cases e; exact hM.notCells h3 rfl
theorem idAt_lt {d : List Ob} {k : Nat} (h : k < d.length) : idAt d k = d[k].id := by unfold idAt; rw [List.getElem?_eq_getElem h]; rfl
theorem fnd_ids {d : List Ob} {l : Lab} {D : List Int} (h : ∀ x ∈ D, lk d x ≠ none) : (fnd d l D).map (idAt d) = D.filter (lowX d l) := by
  unfold fnd
  rw [List.map_map]
  conv => rhs; rw [← List.map_id (D.filter (lowX d l))]
  refine List.map_congr_left fun x hx => ?_
  obtain ⟨hk, h1, _⟩ := ix_id (h x (List.mem_filter.1 hx).1)
  simp only [Function.comp, id]
  rw [idAt_lt hk, h1]
theorem fnd_lk {d : List Ob} {l : Lab} {D : List Int} (h : ∀ x ∈ D, lk d x ≠ none) : ∀ k ∈ fnd d l D, lk d (idAt d k) = d[k]? := by
  intro k hk
  unfold fnd at hk
  obtain ⟨x, hx, rfl⟩ := List.mem_map.1 hk
  obtain ⟨hk', h1, h2⟩ := ix_id (h x (List.mem_filter.1 hx).1)
  rw [idAt_lt hk', h1, h2, List.getElem?_eq_getElem hk']
theorem vis_of {d : List Ob} {l : Lab} {root : Int} {D : List Int} {ys : List Nat} (hs : Src d l root D []) (hp : ys.Perm (fnd d l D)) (hu : UpIds d ys) : VisOk d l root (ys.map (idAt d)) := by
  have hlt : ∀ k ∈ ys, k < d.length := fun k hk => fnd_lt hs.isD k (hp.mem_iff.1 hk)
  have hpm : (ys.map (idAt d)).Perm (D.filter (lowX d l)) := by rw [← fnd_ids (l := l) hs.isD]; exact hp.map _
  have hnd : (ys.map (idAt d)).Nodup := hpm.nodup_iff.2 (hs.nd.filter _)
  refine ⟨?_, fun x => (hpm.mem_iff).trans (hs.fin x)⟩
  rw [List.pairwise_iff_getElem]
  intro i j hi hj hij
  rw [List.length_map] at hi hj
  have h1 := hlt _ (List.getElem_mem hi)
  have h2 := hlt _ (List.getElem_mem hj)
  have hle := hu i j hij hj h1 h2
  have hne : (ys.map (idAt d))[i]'(by simpa using hi) ≠ (ys.map (idAt d))[j]'(by simpa using hj) := List.pairwise_iff_getElem.1 hnd i j _ _ hij
  simp only [List.getElem_map, idAt_lt h1, idAt_lt h2] at hne ⊢
  omega
/-- How far found is. -/
structure FI (d : List Ob) (l : Lab) (root : Int) (B m : Nat) (W0 wr : World) (D A : List Int) (lv av : Value) (n : Nat) : Prop where
  src : Src d l root D A
  lrow : wr.ownsRow B 3 1 lv (fnd d l D).length (nvs (fnd d l D))
  arow : wr.ownsRow B 3 1 av A.length (icells A)
  ap : lv.ownBlock ≠ av.ownBlock
  map : ∃ f, MI wr m n f ∧ ∀ x, f x = if x ∈ D then none else firstAt d x
  sz : D.length + n ≤ d.length ∧ A.length ≤ 1 + 100 * D.length
  rng : ∀ x ∈ A, i64 x
  av0 : ∃ g cap, av = .slice (some ⟨g, 0, none⟩) A.length cap
  bel : Below B W0 wr
def rem (d : List Ob) (D : List Int) (x : Int) : Option Nat := if x ∈ D then none else firstAt d x
theorem rem_snoc (d : List Ob) (D : List Int) (x : Int) (f : Int → Option Nat) (hf : ∀ y, f y = if y ∈ D then none else firstAt d y) (y : Int) : updI f x none y = if y ∈ D ++ [x] then none else firstAt d y := by
  unfold updI
  by_cases h : y = x
  · subst h; simp
  · rw [if_neg h, hf]; simp [h]

set_option maxRecDepth 100000 in
set_option maxHeartbeats 2000000 in
theorem found_any (d : List Ob) (p : Option Addr) (cap : Nat) (root : Int) (l : Lab) (w : World) (hd : Few d) (h : ObsAt w p d) (hl : CatsAt w l.p l.xs) (hm : l.xs.length ≤ maxLen) (hr : i64 root) :
    Calls Try.prog 27 #[.slice p d.length cap, .int .i64 root, l.val] w fun e w' => ∃ (q : Option Addr) (cp : Nat) (zs : List Nat), e = .returned (.slice q zs.length cp) ∧ IntsAt w' q (zs.map fun (k : Nat) => (k : Int)) ∧ (∀ k ∈ zs, k < d.length) ∧ (∀ k ∈ zs, lk d (idAt d k) = d[k]?) ∧ VisOk d l root (zs.map (idAt d)) ∧ Below w.heap.size w w' := by
  obtain ⟨i0, hi, hz0, hz1, hz2⟩ := info_parts info3
  obtain ⟨W0, hW0⟩ : ∃ W0, (w.alloc (.cells #[.slice p d.length cap] 22)).alloc (.cells #[.int .i64 l.d, .slice l.p l.xs.length l.cap] 25) = W0 := ⟨_, rfl⟩
  have hB0 : Below w.heap.size w W0 := by rw [← hW0]; go_grown
  have hs0 : W0.heap.size = w.heap.size + 2 := by rw [← hW0]; simp
  have a0 : W0.cell? ⟨w.heap.size, 0, none⟩ = some (.slice p d.length cap) := by rw [← hW0]; simp [go_sem]
  have b0 : W0.cell? ⟨w.heap.size + 1, 0, none⟩ = some (.int .i64 l.d) := by rw [← hW0]; simp [go_sem]
  have b1 : W0.cell? ⟨w.heap.size + 1, 1, none⟩ = some (.slice l.p l.xs.length l.cap) := by rw [← hW0]; simp [go_sem]
  have HP := Lib.hid (places_any p cap d W0 hd.1 (h.below hB0))
  have hn0 : w.heap.size < W0.heap.size := by omega
  have hn1 : w.heap.size + 1 < W0.heap.size := by omega
  have HS := Lib.hid hs0
  clear hs0
  unfold Lab.val
  go_enter Try.func27, Try.ntmps27
  go_wp2_with (go_at_call 43; refine HP.out.mono ?_; rintro e w1 ⟨rfl, hM1, hb1⟩; refine Hid.out ?_)
  refine Lib.hid ?_
  obtain ⟨n1, hn1l, hM1⟩ := hM1
  clear hW0 HP
  have hz1' : W0.heap.size < w1.heap.size := hM1.lt
  have HM1 := Lib.hid hM1
  clear hM1
  go_wp2
  have hA1 : (w1.alloc (.cells #[.int .i64 root] 3)).ownsRow W0.heap.size 3 1 (.slice (some ⟨w1.heap.size, 0, none⟩) 1 1) 1 (icells [root]) := World.ownsRow_lit (base := W0.heap.size) (e := 3) (size := 1) w1 #[.int .i64 root] 1 (by omega) (by decide) rfl
  go_loopw [8, 9] (fun lv av wr => ∃ (D A : List Int) (n : Nat), FI d l root W0.heap.size W0.heap.size W0 wr D A lv av n) (fun _ av wr => lenOf av + 101 * mapSize wr W0.heap.size)
  case atStart =>
    exact ⟨[], [root], n1, ⟨Src.start d l root, ⟨rfl, .inl ⟨rfl, rfl⟩⟩, hA1, by simp [Value.ownBlock], ⟨_, HM1.out.same (heap_alloc_old _ _ hz1'), fun x => by simp⟩, by simp; omega, fun x hx => by simp at hx; subst hx; exact hr, ⟨_, _, rfl⟩, hb1.alloc (by omega) _⟩⟩
  case round =>
    clear hA1 HM1
    obtain ⟨D, A, n, hF⟩ := hrel
    obtain ⟨ga, ca, rfl⟩ := hF.av0
    have hBw := hF.bel
    have hzw : W0.heap.size ≤ wr.heap.size := hBw.size
    have c0 := (hBw.cell (p := ⟨w.heap.size, 0, none⟩) hn0).trans a0
    have d0 := (hBw.cell (p := ⟨w.heap.size + 1, 0, none⟩) hn1).trans b0
    have d1 := (hBw.cell (p := ⟨w.heap.size + 1, 1, none⟩) hn1).trans b1
    by_cases hne : A = []
    · subst hne
      have HF := Lib.hid hF
      clear hF
      cases hfn : fnd d l D with
      | nil =>
        have hv : ∃ q cp, u8 = .slice q 0 cp := by
          have := HF.out.lrow
          rw [hfn] at this
          rcases this.2 with ⟨h1, _⟩ | ⟨g, cp, _, h1, _⟩
          · exact ⟨none, 0, h1⟩
          · exact ⟨_, cp, h1⟩
        obtain ⟨q, cp, rfl⟩ := hv
        have hcon := AnyF.slices_SortFunc_none (P := Try.prog) { Try.sortI with } q cp (.func (.func 45) #[] #[.pointer (some ⟨w.heap.size, 0, none⟩)]) wr
        change Calls Try.prog 44 _ _ _ at hcon
        go_wp2_with (go_at_call 44; refine hcon.mono ?_; rintro e w' ⟨rfl, rfl⟩)
        go_ret
        refine ⟨q, cp, [], rfl, fun k hk => by simp at hk, fun k hk => (by cases hk), fun k hk => (by cases hk), ?_, hB0.trans (hBw.mono hB0.size)⟩
        exact vis_of HF.out.src (by rw [hfn]) (fun i j hij hj => by simp at hj)
      | cons z zs =>
        have hv : ∃ g cp, u8 = .slice (some ⟨g, 0, none⟩) (zs.length + 1) cp := by
          have := HF.out.lrow
          rw [hfn] at this
          rcases this.2 with ⟨_, h1⟩ | ⟨g, cp, _, h1, _⟩
          · simp at h1
          · exact ⟨_, cp, h1⟩
        obtain ⟨g, cp, rfl⟩ := hv
        have hflt := fnd_lt (l := l) HF.out.src.isD
        have hz0d : z < d.length := hflt z (by rw [hfn]; simp)
        obtain ⟨b, off, rfl, hbl, _, _⟩ := h z hz0d
        have hcs : ∀ k (hk : k < d.length), wr.cell? ⟨b, off + k * 38, none⟩ = some (.int .i64 d[k].id) := fun k hk => by
          obtain ⟨b', off', hp', hbl', hc', _⟩ := h k hk
          cases hp'
          exact ((hB0.trans (hBw.mono hB0.size)).cell (p := ⟨b, off + k * 38, none⟩) hbl').trans (hc' 0 _ (by rw [Ob.head _ _ (by decide)]; rfl))
        have hrow := HF.out.lrow
        rw [hfn] at hrow
        have hg := hrow.lt g rfl
        have hsm : (z :: zs).length < 1000000 := by
          have h1 : (fnd d l D).length ≤ D.length := by unfold fnd; rw [List.length_map]; exact List.length_filter_le _ _
          rw [hfn] at h1
          have := HF.out.sz; have := hd.1; omega
        have hcon := SortK_any d (z :: zs) w.heap.size b off cap g cp W0.heap.size wr (by omega) (by omega) (by omega) (by omega) c0 hcs (fun k hk => hflt k (by rw [hfn]; exact hk)) (by simp) hsm hrow
        have HC := Lib.hid hcon
        have HH := Lib.hid hfn
        clear hcon hcs hrow hsm hfn h
        simp only [List.length_cons] at HC
        go_wp2_with (go_at_call 44; refine HC.out.mono ?_; rintro e w' ⟨rfl, ys, hperm, hup, hints, hbb⟩; refine Hid.out ?_)
        refine Lib.hid ?_
        have hlen : zs.length + 1 = ys.length := by rw [hperm.length_eq]; rfl
        rw [hlen]
        clear hlen
        go_wp2
        go_ret
        refine ⟨_, cp, ys, rfl, hints, fun k hk => hflt k (by rw [HH.out]; exact hperm.mem_iff.1 hk), fun k hk => fnd_lk HF.out.src.isD k (by rw [HH.out]; exact hperm.mem_iff.1 hk), vis_of HF.out.src (by rw [HH.out]; exact hperm) hup, hB0.trans ((hBw.trans (hbb.mono hg.1)).mono hB0.size)⟩
    · obtain ⟨A', x, rfl⟩ : ∃ A' x, A = A' ++ [x] := ⟨A.dropLast, A.getLast hne, (List.dropLast_concat_getLast hne).symm⟩
      obtain ⟨k, hk⟩ : ∃ k, A'.length = k := ⟨_, rfl⟩
      have hlen : (A' ++ [x]).length = k + 1 := by simp [hk]
      have hrow := hF.arow
      rw [hlen] at hrow ⊢
      obtain ⟨hrow', hcap, hcx, hgB, hgl⟩ := own_shrink hrow hk
      obtain ⟨f, hMf, hfe⟩ := hF.map
      have hxr := hF.rng x (by simp)
      have hlk := hMf.look hxr
      have HF := Lib.hid hF
      have HM := Lib.hid hMf
      have HE := Lib.hid hfe
      have HR := Lib.hid hrow'
      have HK := Lib.hid hk
      clear hrow hrow' hF hMf hfe hk hlen
      have hksm : k < 1000000 := by have h1 := HF.out.sz; have h2 := hd.1; simp only [List.length_append, List.length_cons, List.length_nil, HK.out] at h1; omega
      obtain ⟨ki, hwk⟩ : ∃ ki : Int, wrap64 (k : Int) = ki := ⟨_, rfl⟩
      have HKI := Lib.hid (hwk.symm.trans (wrap64_nat hksm))
      have ht : ki.toNat = k := by rw [HKI.out]; simp
      have hk0 : (0 : Int) ≤ ki := by rw [HKI.out]; omega
      have hk1 : ki < (k : Int) + 1 := by rw [HKI.out]; omega
      have hkc : ki ≤ (ca : Int) := by rw [HKI.out]; omega
      cases hfx : f x with
      | none =>
        rw [hfx] at hlk
        simp only [Option.getD_none, Option.isSome_none] at hlk
        go_wp2
        go_roundw
        case rel => exact ⟨D, A', n, ⟨HF.out.src.skip (by
            have := HE.out x
            rw [hfx] at this
            by_cases hxD : x ∈ D
            · exact .inl hxD
            · rw [if_neg hxD] at this; exact .inr (firstAt_none.1 this.symm)), HF.out.lrow, HK.out ▸ HR.out, HF.out.ap, ⟨f, HM.out, HE.out⟩, ⟨HF.out.sz.1, by have h1 := HF.out.sz.2; simp only [List.length_append, List.length_cons, List.length_nil] at h1; omega⟩, fun z hz => HF.out.rng z (by simp [hz]), ⟨ga, ca, by rw [HK.out]⟩, hBw⟩⟩
        case measure => simp only [lenOf]; omega
      | some kx =>
        rw [hfx] at hlk
        simp only [Option.getD_some, Option.isSome_some] at hlk
        have hxD : x ∉ D := fun hx => by have := HE.out x; rw [if_pos hx, hfx] at this; cases this
        have hfa : firstAt d x = some kx := by have := HE.out x; rw [if_neg hxD, hfx] at this; exact this.symm
        obtain ⟨hkx, hlx, hidx⟩ := firstAt_lk hfa
        obtain ⟨b, off, rfl, hbl, hat, hok⟩ := h kx hkx
        obtain ⟨w3, hdel, hM3, hg3, hs3⟩ := HM.out.del hxr 0
        have hK3 : ∀ j, j < wr.heap.size → j ≠ W0.heap.size → w3.heap[j]? = wr.heap[j]? := fun j hj hne => hg3.block j hj (by simpa using hne)
        have hB3 : Below W0.heap.size W0 w3 := Below.grown hBw hg3 hzw (fun j hj => by simp at hj; omega)
        have hBww : Below w.heap.size w w3 := hB0.trans (hB3.mono hB0.size)
        have hok3 : ObOk w3 d[kx] := hok.below hBww
        have hat3 : ObAt w3 b (off + kx * 38) d[kx] := hat.below hBww hbl
        have hl3 : CatsAt w3 l.p l.xs := hl.below hBww
        have e0 := (hB3.cell (p := ⟨w.heap.size, 0, none⟩) hn0).trans a0
        have f0 := (hB3.cell (p := ⟨w.heap.size + 1, 0, none⟩) hn1).trans b0
        have f1 := (hB3.cell (p := ⟨w.heap.size + 1, 1, none⟩) hn1).trans b1
        have hz3 : W0.heap.size ≤ w3.heap.size := hB3.size
        have hb3 : b < w3.heap.size := by omega
        obtain ⟨o, hoe⟩ : ∃ o, d[kx] = o := ⟨_, rfl⟩
        rw [hoe] at hok3 hat3 hlx hidx
        have hkd : o.ls.length ≤ 100 := by rw [← hoe]; exact hd.2 _ (List.getElem_mem _)
        have HM3 : Hid (∃ f', MI w3 W0.heap.size (n - 1) f' ∧ ∀ y, f' y = if y ∈ D ++ [x] then none else firstAt d y) := Lib.hid ⟨_, by have := hM3; rw [hfx] at this; exact this, rem_snoc d D x f HE.out⟩
        have hnp : 1 ≤ n := by
          have h1 := HM.out.size
          rcases Nat.eq_zero_or_pos n with h0 | h0
          · exfalso
            obtain ⟨DD, q1, q2, q3⟩ := HM.out
            have q4 := (q3 x hxr).1
            rw [hfx, h0] at *
            have := Maps.size_del (k := ky x) (q1.tidy keyedI)
            rw [q4] at this
            simp at this
            omega
          · exact h0
        have HX := Lib.hid hxD
        have HAT0 : Hid (ObAt w b (off + kx * 38) o) := Lib.hid (by rw [← hoe]; exact hat)
        have HOK0 : Hid (ObOk w o) := Lib.hid (by rw [← hoe]; exact hok)
        have HMS := Lib.hid HM.out.size
        have HLX := Lib.hid hlx
        have HIX : Hid (ix d x = kx) := Lib.hid (by unfold ix; rw [hfa]; rfl)
        have HAR : Hid (w3.ownsRow W0.heap.size 3 1 (.slice (some ⟨ga, 0, none⟩) k ca) k (icells A')) := Lib.hid (row_keep HR.out (fun j hj => by cases hj; exact hK3 ga hgl (fun e => row_map HF.out.arow HM.out (by rw [← e]; rfl))))
        have HLR : Hid (w3.ownsRow W0.heap.size 3 1 u8 (fnd d l D).length (nvs (fnd d l D))) := Lib.hid (row_keep HF.out.lrow (fun j hj => hK3 j (HF.out.lrow.lt j hj).2 (fun e => row_map HF.out.lrow HM.out (by rw [hj, e]))))
        clear hM3 hxD hlx hg3 hok hat h hl hfx hfa
        have g0 : ∀ n os, (gx w3 n os).cell? ⟨w.heap.size, 0, none⟩ = some (.slice (some ⟨b, off, none⟩) d.length cap) := fun n os => cell_gx (a := ⟨w.heap.size, 0, none⟩) (by simp; omega) e0 n os
        have g1 : ∀ n os, (gx w3 n os).cell? ⟨w.heap.size + 1, 0, none⟩ = some (.int .i64 l.d) := fun n os => cell_gx (a := ⟨w.heap.size + 1, 0, none⟩) (by simp; omega) f0 n os
        have g2 : ∀ n os, (gx w3 n os).cell? ⟨w.heap.size + 1, 1, none⟩ = some (.slice l.p l.xs.length l.cap) := fun n os => cell_gx (a := ⟨w.heap.size + 1, 1, none⟩) (by simp; omega) f1 n os
        have HLD : Hid (∀ w', (∃ q : GrownBy, w' = gx w3 q.n q.os) → (loadVar 42 ⟨b, off + kx * 38, none⟩).run Try.prog w' = .ok (.agg o.cs) w') := Lib.hid (fun w' ⟨q, hq⟩ => by subst hq; exact load_ob (hat3.below (gx_below w3 q.n q.os) hb3) hok3.st)
        have HLO : Hid (∀ n os, Calls Try.prog 12 #[.agg #[.int .i64 l.d, .slice l.p l.xs.length l.cap], .agg o.cs] (gx w3 n os) fun e w'' => e = .returned (.bool (lowB l o)) ∧ ∃ p : GrownBy, w'' = gx w3 p.n p.os) := Lib.hid (fun n os => calls_gx (Low_any l o (gx w3 n os) (hl3.below (gx_below w3 n os)) hm (hok3.below (gx_below w3 n os))))
        have hkxi : (kx : Int) < (d.length : Int) := by omega
        obtain ⟨ocs, hocs⟩ : ∃ c, o.cs = c := ⟨_, rfl⟩
        rw [hocs] at HLD HLO
        clear hocs
        have HOK := Lib.hid hok3
        have HAT := Lib.hid hat3
        clear hok3 hat3 hl3
        go_upto_region 10 with fail
        refine wp_region_quiet_gx (by kernel_rfl) (by kernel_rfl) ?_
        iterate 4 (quiet_step (fail))
        go_big_quiet_want
        refine quiet_load_at 42 _ ⟨b, off + kx * 38, none⟩ (.agg ocs) rfl rfl HLD.out ?_
        go_simp
        go_big_quiet_on
        repeat (go_big_quiet_step (first | (go_at_call 12; with_reducible exact HLO.out _ _)))
        refine wpQuiet_nil ?_
        intro _ hw'
        obtain ⟨⟨nq, osq⟩, hw''⟩ := hw'
        obtain ⟨W4, hW4⟩ : ∃ W4, gx w3 nq osq = W4 := ⟨_, rfl⟩
        have hb34 : Below w3.heap.size w3 W4 := by rw [← hW4]; exact gx_below w3 nq osq
        rw [hw'']
        simp only [hW4]
        clear hw'' hW4 g0 g1 g2 HLD HLO hdel hlk c0 d0 d1 e0 f0 f1 hcx HAT HOK
        have hB4 : Below W0.heap.size W0 W4 := hB3.trans (hb34.mono hz3)
        have hz4 : w3.heap.size ≤ W4.heap.size := hb34.size
        have hAR4 : W4.ownsRow W0.heap.size 3 1 (.slice (some ⟨ga, 0, none⟩) k ca) k (icells A') := row_keep HAR.out (fun j hj => hb34.block j (HAR.out.lt j hj).2)
        have hLR4 : W4.ownsRow W0.heap.size 3 1 u8 (fnd d l D).length (nvs (fnd d l D)) := row_keep HLR.out (fun j hj => hb34.block j (HLR.out.lt j hj).2)
        obtain ⟨f3, hM3, hf3⟩ := HM3.out
        have hM4 : MI W4 W0.heap.size (n - 1) f3 := hM3.same (hb34.block _ hM3.lt)
        have hap : u8.ownBlock ≠ some ga := HF.out.ap
        have hsz := HF.out.sz
        simp only [List.length_append, List.length_cons, List.length_nil, HK.out] at hsz
        have hsrc := HF.out.src
        have hrng := HF.out.rng
        have HFE := Lib.hid hf3
        have HSR := Lib.hid hsrc
        have HRG := Lib.hid hrng
        clear HAR HLR HM3 hM3 hf3 HF hsrc hrng HR HM HE
        have hmw4 := hM4.lt
        cases hlow : lowB l o with
        | false =>
          have HL4 := Lib.hid hLR4
          have HA4 := Lib.hid hAR4
          have HM4 := Lib.hid hM4
          clear hLR4 hAR4 hM4
          go_wp2
          go_roundw
          case rel =>
            have hfn : fnd d l (D ++ [x]) = fnd d l D := by rw [fnd_snoc, lowX_of HLX.out, hlow]; rfl
            have hs' := HSR.out.next HX.out HLX.out [] (fun h => by rw [hlow] at h; cases h) (fun _ => rfl)
            rw [List.append_nil] at hs'
            exact ⟨D ++ [x], A', n - 1, ⟨hs', by rw [hfn]; exact HL4.out, HK.out ▸ HA4.out, hap, ⟨f3, HM4.out, HFE.out⟩, by have := HK.out; simp; omega, fun z hz => HRG.out z (by simp [hz]), ⟨ga, ca, by rw [HK.out]⟩, hB4⟩⟩
          case measure => simp only [lenOf, HM4.out.size, HMS.out]; omega
        | true =>
          have hownL := hLR4.alloc (.cells #[.int .i64 (kx : Int)] 3)
          have HO : Hid (∀ i u, [Value.int .i64 (kx : Int)][i]? = some u → (W4.alloc (.cells #[.int .i64 (kx : Int)] 3)).cell? ((⟨W4.heap.size, 0, none⟩ : Addr).add i) = some u) := Lib.hid (cell_one_new' W4 _ 3)
          have hfl : (fnd d l D).length ≤ 1000 := by
            have h1 : (fnd d l D).length ≤ D.length := by unfold fnd; rw [List.length_map]; exact List.length_filter_le _ _
            have := hd.1; omega
          have h63 : (fnd d l D).length + 1 ≤ maxLen := by unfold maxLen; omega
          have hby : ((fnd d l D).length + 1) * 8 ≤ 140737488355328 := by omega
          have hbs : W0.heap.size ≤ (W4.alloc (.cells #[.int .i64 (kx : Int)] 3)).heap.size := by simp; omega
          have HA4 := Lib.hid (hAR4.alloc (.cells #[.int .i64 (kx : Int)] 3))
          have HM4 := Lib.hid (hM4.same (w' := W4.alloc (.cells #[.int .i64 (kx : Int)] 3)) (heap_alloc_old _ _ hmw4))
          have HMR := Lib.hid (row_map hLR4 hM4)
          clear hLR4 hAR4 hM4
          obtain ⟨fl, hfle⟩ : ∃ fl, (fnd d l D).length = fl := ⟨_, rfl⟩
          rw [hfle] at hownL h63 hby hfl
          have HFL := Lib.hid hfle
          clear hfle
          go_upto_region 11 with fail
          go_wp2_with (at_builtin; refine wpList_append_own_at _ rfl _ _ 28 rfl W0.heap.size 3 i0 (.int .i64 0) 1 8 Try.underlying28 hi hz0 hz1 hz2 rfl (by decide) u8 _ _ rfl hownL ⟨W4.heap.size, 0, none⟩ 1 1 [.int .i64 (kx : Int)] rfl rfl HO.out (fun x hx => by simp at hx; subst hx; rfl) h63 hby hbs ?_; intro v6 w6 hown6 hgrow6 hnil6 hat6; refine Hid.out ?_)
          refine Lib.hid ?_
          have hB6 : Below W0.heap.size W0 w6 := Below.grown (hB4.alloc (by omega) _) hgrow6 (by simp; omega) (fun j hj => (hownL.lt j hj).1)
          have hBw6 : Below w.heap.size w w6 := hB0.trans (hB6.mono hB0.size)
          have hA6 : w6.ownsRow W0.heap.size 3 1 (.slice (some ⟨ga, 0, none⟩) k ca) k (icells A') := row_keep HA4.out (fun j hj => by cases hj; exact hgrow6.block ga (HA4.out.lt ga rfl).2 (Ne.symm hap))
          have hM6 := HM4.out.same (hgrow6.block _ HM4.out.lt (Ne.symm HMR.out))
          have hap6 : v6.ownBlock ≠ some ga := by
            rcases hat6 with e | e
            · rw [e]; exact hap
            · rw [e]; have hlt := (HA4.out.lt ga rfl).2; intro e'; simp only [Option.some.injEq] at e'; omega
          have hL6 : w6.ownsRow W0.heap.size 3 1 v6 (fnd d l (D ++ [x])).length (nvs (fnd d l (D ++ [x]))) := by
            have e : fnd d l (D ++ [x]) = fnd d l D ++ [kx] := by rw [fnd_snoc, lowX_of HLX.out, hlow, HIX.out]; rfl
            rw [e, nvs_append, List.length_append, HFL.out]; exact hown6
          have c0 := (hB6.cell (p := ⟨w.heap.size, 0, none⟩) hn0).trans a0
          have hat := HAT0.out.below hBw6 hbl
          have k1 : w6.cell? ⟨b, off + kx * 38 + 1, none⟩ = some (.int .i64 o.kind) := hat 1 _ (by rw [Ob.head _ _ (by decide)]; rfl)
          have k7 : w6.cell? ⟨b, off + kx * 38 + 7, none⟩ = some (.slice o.lp o.ls.length o.lc) := hat 7 _ (by rw [Ob.head _ _ (by decide)]; rfl)
          have hb6 : b < w6.heap.size := by have := hBw6.size; omega
          have hz6 : W0.heap.size ≤ w6.heap.size := hB6.size
          have HL6 := Lib.hid hL6
          have HA6 := Lib.hid hA6
          have HM6 := Lib.hid hM6
          clear hL6 hA6 hM6 hown6 hgrow6 hnil6 hat6 hat hownL HO HA4 HM4 HMR HFL h63 hby hbs hfl
          by_cases hkind : o.kind = 1
          · have hkind' : (o.kind == 1) = true := by simp [hkind]
            have hs' := HSR.out.next HX.out HLX.out o.ls (fun _ _ => rfl) (fun h => absurd ⟨hlow, hkind⟩ h)
            have HS' := Lib.hid hs'
            have HKD := Lib.hid hkind
            clear hs' hkind
            have hlsi := HOK0.out.ls.below hBw6
            cases hlp : o.lp with
            | none =>
              have hls0 : o.ls = [] := by
                cases hq : o.ls with
                | nil => rfl
                | cons a r =>
                  obtain ⟨b2, off2, hp2, _⟩ := hlsi 0 (by rw [hq]; simp)
                  rw [hlp] at hp2; cases hp2
              have hlc0 := HOK0.out.nils.2.1 hlp
              rw [hlp, hls0, hlc0] at k7
              simp only [List.length_nil] at k7
              have hown := HA6.out
              go_wp2_with (at_builtin; refine wpList_append_own_none rfl _ _ 28 rfl W0.heap.size 3 i0 1 Try.underlying28 hi (.slice (some ⟨ga, 0, none⟩) k ca) _ _ rfl hown rfl ?_)
              go_roundw
              case rel =>
                have hs2 := HS'.out
                rw [hls0, List.append_nil] at hs2
                exact ⟨D ++ [x], A', n - 1, ⟨hs2, HL6.out, HK.out ▸ HA6.out, hap6, ⟨f3, HM6.out, HFE.out⟩, by have := HK.out; simp; omega, fun z hz => HRG.out z (by simp [hz]), ⟨ga, ca, by rw [HK.out]⟩, hB6⟩⟩
              case measure => simp only [lenOf, HM6.out.size, HMS.out]; omega
            | some ad =>
              rw [hlp] at k7 hlsi
              have hown := HA6.out
              have HN : Hid (∀ j u, (icells o.ls)[j]? = some u → w6.cell? (ad.add j) = some u) := Lib.hid (fun j u hu => by
                obtain ⟨hj, rfl⟩ := icells_get hu
                obtain ⟨b2, off2, hp2, _, hc2⟩ := hlsi j hj
                cases hp2
                rw [addr_plus]; exact hc2)
              have h63 : k + o.ls.length ≤ maxLen := by unfold maxLen; omega
              have hby : (k + o.ls.length) * 8 ≤ 140737488355328 := by omega
              have hll : (icells o.ls).length = o.ls.length * 1 := by simp [icells]
              obtain ⟨q, hq⟩ : ∃ q, o.ls.length = q := ⟨_, rfl⟩
              rw [hq] at k7 h63 hby hll
              have HQ := Lib.hid hq
              clear hq hlsi
              go_wp2_with (at_builtin; refine wpList_append_own_at _ rfl _ _ 28 rfl W0.heap.size 3 i0 (.int .i64 0) 1 8 Try.underlying28 hi hz0 hz1 hz2 rfl (by decide) (.slice (some ⟨ga, 0, none⟩) k ca) _ _ rfl hown ad q o.lc (icells o.ls) rfl hll HN.out (icells_one _) h63 hby hz6 ?_; intro v7 w7 hown7 hgrow7 hnil7 hat7; refine Hid.out ?_)
              refine Lib.hid ?_
              have hB7 : Below W0.heap.size W0 w7 := Below.grown hB6 hgrow7 hz6 (fun j hj => (hown.lt j hj).1)
              have hL7 := row_keep (w' := w7) HL6.out (fun j hj => hgrow7.block j (HL6.out.lt j hj).2 (by rw [← hj]; exact hap6))
              have hM7 := HM6.out.same (w' := w7) (hgrow7.block _ HM6.out.lt (Ne.symm (row_map hown HM6.out)))
              have hav : ∃ g cap, v7 = .slice (some ⟨g, 0, none⟩) (k + q) cap := by
                rcases hown7.2 with ⟨h1, h2⟩ | ⟨g, cp, _, h1, _⟩
                · cases (hnil7.1 h1).1
                · exact ⟨g, cp, h1⟩
              have hap7 : v6.ownBlock ≠ v7.ownBlock := by
                rcases hat7 with e | e
                · rw [e]; exact hap6
                · rw [e]; intro e'; have := (HL6.out.lt _ e').2; omega
              obtain ⟨g7, cp7, rfl⟩ := hav
              have HL7 := Lib.hid hL7
              have HM7 := Lib.hid hM7
              have HA7 := Lib.hid hown7
              have HAP := Lib.hid hap7
              clear hL7 hM7 hown7 hgrow7 hnil7 hat7 hap7 hown
              go_wp2
              go_roundw
              case rel =>
                have hlq : (A' ++ o.ls).length = k + q := by rw [List.length_append, HK.out, HQ.out]
                exact ⟨D ++ [x], A' ++ o.ls, n - 1, ⟨HS'.out, HL7.out, by rw [hlq, icells_append]; exact HA7.out, HAP.out, ⟨f3, HM7.out, HFE.out⟩, by rw [hlq]; have := HQ.out; simp; omega, fun z hz => by
                  rcases List.mem_append.1 hz with hz | hz
                  · exact HRG.out z (by simp [hz])
                  · exact HOK0.out.lsr z hz, ⟨g7, cp7, by rw [hlq]⟩, hB7⟩⟩
              case measure => simp only [lenOf, HM7.out.size, HMS.out]; have := HQ.out; omega
          · have hkind' : (o.kind == 1) = false := by simp [hkind]
            have hs' := HSR.out.next HX.out HLX.out [] (fun _ h => absurd h hkind) (fun _ => rfl)
            rw [List.append_nil] at hs'
            have HS' := Lib.hid hs'
            clear hs' hkind
            go_wp2
            go_roundw
            case rel => exact ⟨D ++ [x], A', n - 1, ⟨HS'.out, HL6.out, HK.out ▸ HA6.out, hap6, ⟨f3, HM6.out, HFE.out⟩, by have := HK.out; simp; omega, fun z hz => HRG.out z (by simp [hz]), ⟨ga, ca, by rw [HK.out]⟩, hB6⟩⟩
            case measure => simp only [lenOf, HM6.out.size, HMS.out]; omega
end Go.Proofs.Ytonhdkldacghoaa

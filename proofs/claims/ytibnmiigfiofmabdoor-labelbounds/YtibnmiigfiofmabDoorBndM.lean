/- Plain facts: of two right labels the join is the least above both, the meet the greatest below both. -/
import Derived.Test.YtibnmiigfiofmabDoorBnd
namespace Go.Proofs.YtibnmiigfiofmabDoor

theorem mix_facts {m : Int → Int → Int} {da db : Int} {xs ys : List (Int × Int)} (hx : Rise 0 xs) (hy : Rise 0 ys) :
    (stM m (allP da db xs ys)).1 = m da db ∧ Rise 0 (shortS (stM m (allP da db xs ys)).1 (stM m (allP da db xs ys)).2) ∧ NoDef (m da db) (shortS (stM m (allP da db xs ys)).1 (stM m (allP da db xs ys)).2) ∧
      ∀ c, atS (m da db) (shortS (stM m (allP da db xs ys)).1 (stM m (allP da db xs ys)).2) c = m (atS da xs c) (atS db ys c) := by
  rw [stM_mix hx hy]
  obtain ⟨h1, h2⟩ := mixR_facts m da db (xs.length + ys.length) 0 xs ys hx hy (Nat.le_refl _)
  exact ⟨rfl, Rise.filter h1, nodef_short _ _, fun c => by
    show atS (m da db) (shortS (m da db) (mixR m da db (xs.length + ys.length) xs ys)) c = _
    rw [at_short h1, h2]⟩
theorem mx_le (a b : Int) : a ≤ mx a b ∧ b ≤ mx a b := by unfold mx; split <;> omega
theorem mx_least {a b c : Int} (h1 : a ≤ c) (h2 : b ≤ c) : mx a b ≤ c := by unfold mx; split <;> omega
theorem mn_le (a b : Int) : mn a b ≤ a ∧ mn a b ≤ b := by unfold mn; split <;> omega
theorem mn_most {a b c : Int} (h1 : c ≤ a) (h2 : c ≤ b) : c ≤ mn a b := by unfold mn; split <;> omega
theorem mx_comm (a b : Int) : mx a b = mx b a := by unfold mx; split <;> split <;> omega

theorem join_above {da db : Int} {xs ys : List (Int × Int)} (hx : Rise 0 xs) (hy : Rise 0 ys) : leqS da (JoinD da db xs ys) xs (JoinZ da db xs ys) = true ∧ leqS db (JoinD da db xs ys) ys (JoinZ da db xs ys) = true := by
  obtain ⟨e, r, _, h⟩ := mix_facts (m := mx) (da := da) (db := db) hx hy
  unfold JoinD JoinZ
  refine ⟨(leq_iff hx r).2 fun c => ?_, (leq_iff hy r).2 fun c => ?_⟩
  · rw [e] at h ⊢; rw [h c]; exact (mx_le _ _).1
  · rw [e] at h ⊢; rw [h c]; exact (mx_le _ _).2
theorem join_least {da db dc : Int} {xs ys zs : List (Int × Int)} (hx : Rise 0 xs) (hy : Rise 0 ys) (hz : Rise 0 zs) (h1 : leqS da dc xs zs = true) (h2 : leqS db dc ys zs = true) : leqS (JoinD da db xs ys) dc (JoinZ da db xs ys) zs = true := by
  obtain ⟨e, r, _, h⟩ := mix_facts (m := mx) (da := da) (db := db) hx hy
  rw [leq_iff hx hz] at h1
  rw [leq_iff hy hz] at h2
  unfold JoinD JoinZ
  refine (leq_iff r hz).2 fun c => ?_
  rw [e] at h ⊢; rw [h c]; exact mx_least (h1 c) (h2 c)
theorem meet_below {da db : Int} {xs ys : List (Int × Int)} (hx : Rise 0 xs) (hy : Rise 0 ys) : leqS (MeetD da db xs ys) da (MeetZ da db xs ys) xs = true ∧ leqS (MeetD da db xs ys) db (MeetZ da db xs ys) ys = true := by
  obtain ⟨e, r, _, h⟩ := mix_facts (m := mn) (da := da) (db := db) hx hy
  unfold MeetD MeetZ
  refine ⟨(leq_iff r hx).2 fun c => ?_, (leq_iff r hy).2 fun c => ?_⟩
  · rw [e] at h ⊢; rw [h c]; exact (mn_le _ _).1
  · rw [e] at h ⊢; rw [h c]; exact (mn_le _ _).2
theorem meet_most {da db dc : Int} {xs ys zs : List (Int × Int)} (hx : Rise 0 xs) (hy : Rise 0 ys) (hz : Rise 0 zs) (h1 : leqS dc da zs xs = true) (h2 : leqS dc db zs ys = true) : leqS dc (MeetD da db xs ys) zs (MeetZ da db xs ys) = true := by
  obtain ⟨e, r, _, h⟩ := mix_facts (m := mn) (da := da) (db := db) hx hy
  rw [leq_iff hz hx] at h1
  rw [leq_iff hz hy] at h2
  unfold MeetD MeetZ
  refine (leq_iff hz r).2 fun c => ?_
  rw [e] at h ⊢; rw [h c]; exact mn_most (h1 c) (h2 c)
theorem join_comm {da db : Int} {xs ys : List (Int × Int)} (hx : Rise 0 xs) (hy : Rise 0 ys) : JoinD db da ys xs = JoinD da db xs ys ∧ JoinZ db da ys xs = JoinZ da db xs ys := by
  obtain ⟨e, r, n, h⟩ := mix_facts (m := mx) (da := da) (db := db) hx hy
  obtain ⟨e', r', n', h'⟩ := mix_facts (m := mx) (da := db) (db := da) hy hx
  unfold JoinD JoinZ
  refine ⟨by rw [e, e', mx_comm], ?_⟩
  rw [mx_comm db da] at n' h'
  exact same_of_at (d := mx da db) r' r n' n (fun c _ => by rw [h', h, mx_comm])

/-- What the law asks of a join, as far as it was answered. -/
theorem join_cases (da db dc : Int) (xs ys zs : List (Int × Int)) (hx : Rise 0 xs) (hy : Rise 0 ys) (hz : Rise 0 zs) {fd fe : Int} {fl : List (Int × Int)} (hd : fd = fitD (JoinD da db xs ys) (JoinZ da db xs ys)) (hl : fl = fitL (JoinZ da db xs ys)) (he : fe = fitE (JoinZ da db xs ys)) :
    fe = 7 ∨ (fe = 0 ∧ leqS da fd xs fl = true ∧ leqS db fd ys fl = true ∧ leqS da dc xs zs = false) ∨ (fe = 0 ∧ leqS da fd xs fl = true ∧ leqS db fd ys fl = true ∧ leqS da dc xs zs = true ∧ leqS db dc ys zs = false) ∨
      (fe = 0 ∧ leqS da fd xs fl = true ∧ leqS db fd ys fl = true ∧ leqS da dc xs zs = true ∧ leqS db dc ys zs = true ∧ leqS fd dc fl zs = true) := by
  subst hd hl he
  obtain ⟨u1, u2⟩ := join_above (da := da) (db := db) hx hy
  unfold fitD fitL fitE
  by_cases h : (JoinZ da db xs ys).length ≤ 16
  · simp only [h, if_true]
    refine .inr ?_
    by_cases h1 : leqS da dc xs zs = true
    · by_cases h2 : leqS db dc ys zs = true
      · exact .inr (.inr ⟨trivial, u1, u2, h1, h2, join_least hx hy hz h1 h2⟩)
      · exact .inr (.inl ⟨trivial, u1, u2, h1, by simpa using h2⟩)
    · exact .inl ⟨trivial, u1, u2, by simpa using h1⟩
  · simp only [h, if_false]; exact .inl trivial
theorem meet_cases (da db dc : Int) (xs ys zs : List (Int × Int)) (hx : Rise 0 xs) (hy : Rise 0 ys) (hz : Rise 0 zs) {fd fe : Int} {fl : List (Int × Int)} (hd : fd = fitD (MeetD da db xs ys) (MeetZ da db xs ys)) (hl : fl = fitL (MeetZ da db xs ys)) (he : fe = fitE (MeetZ da db xs ys)) :
    fe = 7 ∨ (fe = 0 ∧ leqS fd da fl xs = true ∧ leqS fd db fl ys = true ∧ leqS dc da zs xs = false) ∨ (fe = 0 ∧ leqS fd da fl xs = true ∧ leqS fd db fl ys = true ∧ leqS dc da zs xs = true ∧ leqS dc db zs ys = false) ∨
      (fe = 0 ∧ leqS fd da fl xs = true ∧ leqS fd db fl ys = true ∧ leqS dc da zs xs = true ∧ leqS dc db zs ys = true ∧ leqS dc fd zs fl = true) := by
  subst hd hl he
  obtain ⟨u1, u2⟩ := meet_below (da := da) (db := db) hx hy
  unfold fitD fitL fitE
  by_cases h : (MeetZ da db xs ys).length ≤ 16
  · simp only [h, if_true]
    refine .inr ?_
    by_cases h1 : leqS dc da zs xs = true
    · by_cases h2 : leqS dc db zs ys = true
      · exact .inr (.inr ⟨trivial, u1, u2, h1, h2, meet_most hx hy hz h1 h2⟩)
      · exact .inr (.inl ⟨trivial, u1, u2, h1, by simpa using h2⟩)
    · exact .inl ⟨trivial, u1, u2, by simpa using h1⟩
  · simp only [h, if_false]; exact .inl trivial
end Go.Proofs.YtibnmiigfiofmabDoor

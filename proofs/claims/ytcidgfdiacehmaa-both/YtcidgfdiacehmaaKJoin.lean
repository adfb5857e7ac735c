/- Joins of choirkeep's batches stay within limits. No program here. -/
import Derived.Test.YtcidgfdiacehmaaKBatch
import Derived.Test.YtcidgfdiacehmaaJoinPure
import Derived.Test.YtcidgfdiacehmaaJoinLen
namespace Go.Proofs.Ytcidgfdiacehmaa

theorem KB.limits {bs : List Ser} {n : Nat} (h : KB bs n) (hn : n ≤ 40) (hok : BatchOk bs) : LimitsOk bs := by
  refine ⟨fun i x _ hx => ?_, ?_⟩
  · obtain ⟨⟨j, _, e⟩, h2⟩ := h x (List.mem_of_getElem? hx)
    exact ⟨by rw [e]; exact klen, by omega⟩
  · have h1 : (bs.map (·.1)).length ≤ [labsOf 0, labsOf 1, labsOf 2, labsOf 3].length := by
      refine nodup_len _ _ ?_ fun l hl => ?_
      · refine List.pairwise_map.2 (((batchOk_iff bs).1 hok).2.imp fun {x y} hxy e => ?_)
        unfold LLt at hxy
        rw [e, cmpLabs_self] at hxy
        cases hxy
      · obtain ⟨s, hs, rfl⟩ := List.mem_map.1 hl
        obtain ⟨⟨j, hj, e⟩, _⟩ := h s hs
        rw [e]
        have : j = 0 ∨ j = 1 ∨ j = 2 ∨ j = 3 := by omega
        rcases this with rfl | rfl | rfl | rfl <;> simp
    rw [List.length_map] at h1
    simp at h1; omega
/-- The samples of labels in a batch are at most n. -/
theorem KB.times {bs : List Ser} {n : Nat} (h : KB bs n) (hok : BatchOk bs) (l : List Lab) : ∃ ts : List Int, ts.length ≤ n ∧ ∀ t v, Holds bs l t v → t ∈ ts := by
  by_cases he : ∃ s ∈ bs, s.1 = l
  · obtain ⟨s, hs, e⟩ := he
    refine ⟨s.2.map (·.1), by rw [List.length_map]; exact (h s hs).2, fun t v ⟨r, hr, e2, hm⟩ => ?_⟩
    have := ser_unique ((batchOk_iff bs).1 hok).2 hs hr (e.trans e2.symm)
    subst this
    exact List.mem_map.2 ⟨_, hm, rfl⟩
  · exact ⟨[], Nat.zero_le _, fun t v ⟨r, hr, e2, _⟩ => absurd ⟨r, hr, e2⟩ he⟩
theorem IsJoin.kb {a b j : List Ser} {n m : Nat} (hj : IsJoin [a, b] j) (ha : KB a n) (hb : KB b m) (oa : BatchOk a) (ob : BatchOk b) : KB j (n + m) := fun s hs => by
  have hso := (samplesOk_iff _).1 (((batchOk_iff j).1 hj.ok).1 s hs).2
  have hold : ∀ x ∈ s.2, Holds a s.1 x.1 x.2 ∨ Holds b s.1 x.1 x.2 := fun x hx => by
    obtain ⟨⟨bs, hbs, h⟩, _⟩ := (hj.holds s.1 x.1 x.2).1 ⟨s, hs, rfl, hx⟩
    rcases List.mem_cons.1 hbs with rfl | hbs
    · exact .inl h
    · rw [List.mem_singleton.1 hbs] at h; exact .inr h
  constructor
  · obtain ⟨x, hx⟩ : ∃ x, x ∈ s.2 := List.exists_mem_of_ne_nil _ hso.1
    rcases hold x hx with ⟨r, hr, e, _⟩ | ⟨r, hr, e, _⟩
    · rw [← e]; exact (ha r hr).1
    · rw [← e]; exact (hb r hr).1
  · obtain ⟨t1, l1, h1⟩ := ha.times oa s.1
    obtain ⟨t2, l2, h2⟩ := hb.times ob s.1
    have h3 : (s.2.map (·.1)).length ≤ (t1 ++ t2).length := by
      refine nodup_len _ _ ?_ fun t ht => ?_
      · refine List.pairwise_map.2 (hso.2.imp fun {x y} hxy e => ?_)
        unfold SLt at hxy; omega
      · obtain ⟨x, hx, rfl⟩ := List.mem_map.1 ht
        rcases hold x hx with h | h
        · exact List.mem_append_left _ (h1 _ _ h)
        · exact List.mem_append_right _ (h2 _ _ h)
    rw [List.length_map, List.length_append] at h3
    omega
end Go.Proofs.Ytcidgfdiacehmaa

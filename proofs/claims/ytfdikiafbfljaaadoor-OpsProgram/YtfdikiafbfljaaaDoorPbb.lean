/- A line's words as they lie: from what wordsOf hands back to what take is given. -/
import Derived.Test.YtfdikiafbfljaaaDoorPba
namespace Go.Proofs.YtfdikiafbfljaaaDoor
open Go Go.RowKit
set_option linter.unusedVariables false
set_option maxHeartbeats 1000000

theorem KT.wds {w y : World} {A n c : Nat} {ws : List ByteArray} (h : KT w (.slice (some ⟨A, 0, none⟩) n c) ws y) : WdsAt y A 0 ws := by
  obtain ⟨⟨h1, h2⟩, hb⟩ := h
  rcases h2 with ⟨e, _⟩ | ⟨g, cap, cur, e, hB, hg, hn, hm, hs, ht⟩
  · cases e
  · injection e with e1 e2 e3
    injection e1 with e1
    injection e1 with e1
    subst e1
    refine ⟨cur, hg, fun j s hj => ?_⟩
    have h : (cur.toList.take (ws.length * 1))[j]? = some (.string s) := by rw [ht, List.getElem?_map, hj]; rfl
    rw [List.getElem?_take] at h
    split at h
    · rw [Nat.zero_add, ← Array.getElem?_toList]
      exact h
    · cases h
end Go.Proofs.YtfdikiafbfljaaaDoor

/-
  The walk of ValueTexts: two right values of one kind have the same text just if they are the same, and the greater number is told as such.
-/
import Derived.Test.YtcbnjokojefjmaaDoorV04Alive
import Derived.Test.YtcbnjokojefjmaaDoorV04Texts
import Derived.Test.YtcbnjokojefjmaaDoorV04Open
import Derived.Lib.QuietBelow
import Derived.Test.YtcbnjokojefjmaaDoorV04LawTexts1
import Derived.Test.YtcbnjokojefjmaaDoorV04LawTexts2
import Derived.Test.YtcbnjokojefjmaaDoorV04LawTexts3
import Derived.Test.YtcbnjokojefjmaaDoorV04LawTexts4
set_option linter.unusedSimpArgs false
set_option linter.unusedVariables false
namespace Go.Proofs.YtcbnjokojefjmaaDoor.V04
open Go.RowKit Go.Lib Go.Proofs.YtcbnjokojefjmaaDoor.Wd

theorem texts_law (K N : Int) (S : ByteArray) (L M : Int) (T : ByteArray) (w : World) (hT : Tb w) (fN0 : -9223372036854775808 ≤ N) (fN1 : N ≤ 9223372036854775807) (fM0 : -9223372036854775808 ≤ M) (fM1 : M ≤ 9223372036854775807) :
    Calls Tryd.prog 7 #[vl K N S, vl L M T] w fun e w' => e = .returned (.bool true) ∧ Below w.heap.size w w' := by
  by_cases hr : right K N S = true ∧ right L M T = true
  · obtain ⟨hra, hrb⟩ := hr
    by_cases hK : K = L
    · subst hK
      by_cases hE : N = M ∧ S = T
      · obtain ⟨rfl, rfl⟩ := hE
        exact texts_same K N S w hT fN0 fN1 fM0 fM1 hra hrb
      · rcases pair_cases hra hrb hE with ⟨hK3, hNM, hST, hlt⟩ | ⟨hK3, hNM, hST⟩
        · exact texts_numbers K N S M T hNM (by rw [hST]) hK3 hlt hE w hT fN0 fN1 fM0 fM1 hra hrb
        · subst hNM
          subst hK3
          exact texts_texts N S T hST (fun e => hE ⟨rfl, e⟩) w hT fN0 fN1 fM0 fM1 hra hrb
    · exact texts_kinds K N S L M T hK w hT fN0 fN1 fM0 fM1 hra hrb
  · exact texts_wrong K N S L M T w hT hr
end Go.Proofs.YtcbnjokojefjmaaDoor.V04

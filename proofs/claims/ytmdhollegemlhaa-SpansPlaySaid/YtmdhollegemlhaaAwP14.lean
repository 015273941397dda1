/- Layer 14, plainly: the document's example. Conditions: none; nothing of the program is named here. -/
import Derived.Test.YtmdhollegemlhaaEvP14
namespace Go.Proofs.Ytmdhollegemlhaa

def qa : ByteArray := ⟨#[97]⟩
def qb : ByteArray := ⟨#[98]⟩
theorem qab : kl qa qb = true := by simp [kl, qa, qb, ByteArray.toList_eq, Op.bytesLess]
theorem qab_ne : qa ≠ qb := kl_ne qab
theorem aw_put : putP [] 0 qa 1 = some [(qa, 1, 0)] := by simp [putP, openP]
theorem aw_drop : dropP [(qa, 1, 0)] 1 qa 3 = some [(qa, 1, 3)] := by simp [dropP, openP, openB, endAt]
theorem aw_put2 : putP [(qa, 1, 3)] 3 qb 3 = some [(qa, 1, 3), (qb, 3, 0)] := by simp [putP, openP, openB]
theorem aw_next : nextP [(qa, 1, 3), (qb, 3, 0)] 3 ⟨#[]⟩ ⟨#[]⟩ = some qb := by simp [nextP, holdsP, within, lessO, kl_not.2 (show (⟨#[]⟩ : ByteArray).toList ≤ qb.toList by rw [ByteArray.toList_eq ⟨#[]⟩]; exact List.nil_le _)]
theorem aw_events : eventsP [(qa, 1, 3), (qb, 3, 0)] 1 3 = [(3, qa, false), (3, qb, true)] := by simp [eventsP, evsOf, putE, belowE, qab, qab_ne]
theorem aw_has1 : hasP [(qa, 1, 3), (qb, 3, 0)] qa 1 = true := by simp [hasP, holdsP]
theorem aw_has2 : hasP [(qa, 1, 3), (qb, 3, 0)] qa 2 = true := by simp [hasP, holdsP]
theorem aw_has3 : hasP [(qa, 1, 3), (qb, 3, 0)] qa 3 = false := by simp [hasP, holdsP, qab_ne.symm]
theorem aw_count : countP [(qa, 1, 3), (qb, 3, 0)] 2 = 1 := by simp [countP, holdsP]
theorem aw_trim : trimP [(qa, 1, 3), (qb, 3, 0)] 3 = [(qb, 3, 0)] := by simp [trimP, keptB]
theorem aw_gone : hasP [(qb, 3, 0)] qa 2 = false := by simp [hasP, holdsP]
end Go.Proofs.Ytmdhollegemlhaa

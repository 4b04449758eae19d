import PyProof.Rows.All
import Wide.All
import OpenK.AllK
import Wide.FinOn
import KE.GoesMore
import KE.KDictZip
import PyProof.ListNew
import PyProof.SeqWrite
import KE.GoesEnum
import HandS.ForMost
import HandS.Zip
import PyProof.ReprRoads
import HandS.Wide
import HandS.IsInst
import HandS.TupAny
import HandS.NoneIn
import HandS.Flow
import HandS.Conv
import HandS.Walk
import HandS.ExcValue
import HandS.Text
import HandS.Codes
import HandS.StrMore
import PyProof.Rows.StrCut
import HandS.Style
import HandS.ExcInit
import HandS.ExcField
import KE.KExcIs
import KE.KExcInit
import KE.KExcSuper
import HandS.ExcIs
import KE.KTryMore
import HandS.WordsExc
import KE.SortData
import KE.KNest
import HandS.Lambda
import HandS.EndBits
import PyProof.SliceStr2
import PyProof.Rows.StrRev
import PySem.Challenge.RW_crosslocks_k36_canals_as_texts
set_option Elab.async false
set_option linter.all false
set_option maxRecDepth 100000
namespace XL
open PySem PyProof.Rows
section
variable {prog : Program} {w : World} {A : Around} {E : Value → Shared → Prop} {s : Shared} {z TI TO T i1 i2 : Addr}
variable {fp1 fp2 : List Addr} {n1 n2 i : Nat} {P1 P2 : Nat → Value → Prop} {St1 St2 : Nat → Heap → Prop} {a1 a2 : Value} {f : Bool} {oT : Obj}

/-- one more pair while the one given out before is held -/
theorem held_item {Q : Value → Shared → Prop} (S : ZipSep2 z TI TO i1 i2 fp1 fp2)
    (D1 : Draws prog w A i1 fp1 n1 P1 St1) (D2 : Draws prog w A i2 fp2 n2 P2 St2)
    (hz : IsZipHeld s.heap z TI TO T f) (hT : s.heap.get? T = some oT) (hTI : IsTupOf2 s.heap TI (.ref i1) (.ref i2))
    (st1 : St1 i s.heap) (st2 : St2 i s.heap) (l1 : i < n1) (l2 : i < n2)
    (hQ : ∀ x1 x2 h' tk, P1 i x1 → P2 i x2 → IsZipHeld h' z TI TO T true → St1 (i + 1) h' → St2 (i + 1) h' →
      IsTupOf2 h' s.heap.objs.size x1 x2 → h'.objs.size = s.heap.objs.size + 1 →
      (∀ c o, c ≠ z → c ≠ i1 → c ≠ i2 → s.heap.get? c = some o → h'.get? c = some o) →
      Q (.ref s.heap.objs.size) { s with heap := h', toks := tk }) :
    wpAny (model prog w) A (Builtin.«zip.__next__» ⟨[.ref z], []⟩) (fun fin s' => ∃ v, fin = .done (.ret v) ∧ Q v s') E s := by
  obtain ⟨hp, g, d, tk0, os⟩ := s
  show wpAny _ _ (field (.ref z) 2 >>= _) _ _ _
  refine wpAny_bind (wpAny_field hz rfl (x := .bool false) rfl ?_); show wpAny _ _ (field (.ref z) 3 >>= _) _ _ _
  refine wpAny_bind (wpAny_field hz rfl (x := .ref TI) rfl ?_); refine wpAny_bind (wpAny_seqItems hTI rfl ?_)
  show wpAny _ _ (Builtin.SmallTypes.ownedTupleIsFree (.ref z) >>= _) _ _ _
  refine wpAny_bind (wpAny_tupleHeld_zip hz hT fun g0 hz0 hs0 => ?_); simp only [Bool.false_eq_true, if_false]; refine wpAny_bind ?_
  replace hs0 : Heap.SameBut z hp g0 := hs0
  rw [← Array.forIn_toList]; simp only [List.forIn_cons, List.forIn_nil]
  refine wpAny_bind (wpAny_bind (wpAny_holding ?_)); show wpAny _ _ (Builtin.SmallTypes.nextOf (.ref i1) >>= _) _ _ ⟨g0, g, d, tk0, os⟩
  refine wpAny_bind (D1.item i _ _ _ l1 (D1.over st1 hs0 S.zf1) fun x1 p1 tk1 hx1 sn1 hp1 => wpAny_pure ?_)
  replace hp1 : Heap.SameBut i1 g0 p1 := hp1
  refine wpAny_pure ?_
  refine wpAny_bind (wpAny_bind (wpAny_holding ?_)); show wpAny _ _ (Builtin.SmallTypes.nextOf (.ref i2) >>= _) _ _ ⟨p1, g, d, tk1, os⟩
  refine wpAny_bind (D2.item i _ _ _ l2 (D2.over (D2.over st2 hs0 S.zf2) hp1 S.sep1_2) fun x2 p2 tk2 hx2 sn2 hp2 => wpAny_pure ?_)
  replace hp2 : Heap.SameBut i2 p1 p2 := hp2
  refine wpAny_pure (wpAny_pure ?_); show wpAny _ _ (newTuple [x1, x2] >>= _) _ _ _
  refine wpAny_bind (wpAny_newTuple ?_)
  have hsz : p2.objs.size = hp.objs.size := by rw [hp2.1, hp1.1, hs0.1]
  have hz2 : IsZipHeld p2 z TI TO T true := hp2.extBut _ _ S.zi2 (hp1.extBut _ _ S.zi1 hz0)
  have hk : ∀ c o, c ≠ z → c ≠ i1 → c ≠ i2 → hp.get? c = some o → p2.get? c = some o := fun c o c0 c1 c2 e =>
    hp2.extBut _ _ c2 (hp1.extBut _ _ c1 (hs0.extBut _ _ c0 e))
  have j1 : St1 (i + 1) p2 := D1.over sn1 hp2 S.sep2_1
  refine wpAny_pure ⟨_, rfl, ?_⟩; show Q (.ref p2.objs.size) _
  have hpr : IsTupOf2 (p2.push { cls := .type "tuple", data := .seq #[x1, x2] }) p2.objs.size x1 x2 := Heap.get?_push_size _ rfl
  have hz4 : (p2.push { cls := .type "tuple", data := .seq #[x1, x2] }).objs.size = p2.objs.size + 1 := Heap.size_push ..
  rw [hsz] at hpr hz4 ⊢
  exact hQ x1 x2 _ tk2 hx1 hx2 (Heap.get?_push_of_some _ hz2) (D1.frame _ _ _ j1 fun b _ o e => Heap.get?_push_of_some _ e)
    (D2.frame _ _ _ sn2 fun b _ o e => Heap.get?_push_of_some _ e) hpr hz4 fun c o c0 c1 c2 e => Heap.get?_push_of_some _ (hk c o c0 c1 c2 e)

/-- the end while the last pair is held -/
theorem held_end {Q : Fin → Shared → Prop} (S : ZipSep2 z TI TO i1 i2 fp1 fp2)
    (D1 : Draws prog w A i1 fp1 n1 P1 St1) (D2 : Draws prog w A i2 fp2 n2 P2 St2)
    (hz : IsZipHeld s.heap z TI TO T f) (hT : s.heap.get? T = some oT) (hTI : IsTupOf2 s.heap TI (.ref i1) (.ref i2))
    (st1 : St1 i s.heap) (st2 : St2 i s.heap) (e1 : i ≤ n1) (e2 : i ≤ n2) (hend : i = n1 ∨ i = n2)
    (hE : ∀ h' tk e, (∀ c o, c ≠ z → c ≠ i1 → c ≠ i2 → s.heap.get? c = some o → h'.get? c = some o) →
      (∃ o, h'.get? e = some o ∧ o.cls = .type "StopIteration") → E (.ref e) { s with heap := h', toks := tk }) :
    wpAny (model prog w) A (Builtin.«zip.__next__» ⟨[.ref z], []⟩) Q E s := by
  obtain ⟨hp, g, d, tk0, os⟩ := s
  show wpAny _ _ (field (.ref z) 2 >>= _) _ _ _
  refine wpAny_bind (wpAny_field hz rfl (x := .bool false) rfl ?_); show wpAny _ _ (field (.ref z) 3 >>= _) _ _ _
  refine wpAny_bind (wpAny_field hz rfl (x := .ref TI) rfl ?_); refine wpAny_bind (wpAny_seqItems hTI rfl ?_)
  show wpAny _ _ (Builtin.SmallTypes.ownedTupleIsFree (.ref z) >>= _) _ _ _
  refine wpAny_bind (wpAny_tupleHeld_zip hz hT fun g0 hz0 hs0 => ?_); simp only [Bool.false_eq_true, if_false]; refine wpAny_bind ?_
  replace hs0 : Heap.SameBut z hp g0 := hs0
  rw [← Array.forIn_toList]; simp only [List.forIn_cons, List.forIn_nil]
  refine wpAny_bind (wpAny_bind (wpAny_holding ?_)); show wpAny _ _ (Builtin.SmallTypes.nextOf (.ref i1) >>= _) _ _ ⟨g0, g, d, tk0, os⟩
  by_cases l1 : i < n1
  · refine wpAny_bind (D1.item i _ _ _ l1 (D1.over st1 hs0 S.zf1) fun x1 p1 tk1 hx1 sn1 hp1 => wpAny_pure ?_)
    replace hp1 : Heap.SameBut i1 g0 p1 := hp1
    have hi2 : i = n2 := by omega
    refine wpAny_pure ?_
    refine wpAny_bind (wpAny_bind (wpAny_holding ?_)); show wpAny _ _ (Builtin.SmallTypes.nextOf (.ref i2) >>= _) _ _ ⟨p1, g, d, tk1, os⟩
    refine wpAny_bind (D2.done ⟨p1, g, d, tk1, os⟩ _ _ (by rw [← hi2]; exact D2.over (D2.over st2 hs0 S.zf2) hp1 S.sep1_2) fun q e hq he => ?_)
    exact hE q tk1 e (fun c o c0 c1 c2 x => hq _ _ c2 (hp1.extBut _ _ c1 (hs0.extBut _ _ c0 x))) he
  · have hi1 : i = n1 := by omega
    refine wpAny_bind (D1.done ⟨g0, g, d, tk0, os⟩ _ _ (by rw [← hi1]; exact D1.over st1 hs0 S.zf1) fun q e hq he => ?_)
    exact hE q tk0 e (fun c o c0 c1 c2 x => hq _ _ c1 (hs0.extBut _ _ c0 x)) he
end
end XL
namespace XL
open PySem PyProof.Rows
/-- the zip between two nexts: nothing given out yet, or the last pair is held -/
def ZNow (h : Heap) (z TI TO L : Addr) : Prop :=
  (IsZip h z TI TO .none ∧ ∃ a1 a2, IsTupOf2 h TO a1 a2) ∨ ∃ T f oT, IsZipHeld h z TI TO T f ∧ h.get? T = some oT ∧ T ≠ z ∧ T ≠ L
theorem ZNow.typ {s : Shared} {z TI TO L : Addr} (h : ZNow s.heap z TI TO L) : s.TypeIs (.ref z) "zip" := by
  rcases h with ⟨h, _⟩ | ⟨T, f, oT, h, _⟩
  · exact ⟨_, h, rfl⟩
  · exact ⟨_, h, rfl⟩
theorem ZNow.lt {h : Heap} {z TI TO L : Addr} (q : ZNow h z TI TO L) : z < h.objs.size := by
  rcases q with ⟨h, _⟩ | ⟨T, f, oT, h, _⟩
  · exact Heap.lt_size h
  · exact Heap.lt_size h
section
variable {prog : Program} {w : World} {A : Around} {E : Value → Shared → Prop} {s : Shared} {z TI TO L i1 i2 : Addr}
variable {fp1 fp2 : List Addr} {n1 n2 i : Nat} {P1 P2 : Nat → Value → Prop} {St1 St2 : Nat → Heap → Prop}
theorem next_item {Q : Option Value → Shared → Prop} (S : ZipSep2 z TI TO i1 i2 fp1 fp2)
    (D1 : Draws prog w A.in1 i1 fp1 n1 P1 St1) (D2 : Draws prog w A.in1 i2 fp2 n2 P2 St2)
    (hz : ZNow s.heap z TI TO L) (hTI : IsTupOf2 s.heap TI (.ref i1) (.ref i2)) (hL : L < s.heap.objs.size)
    (st1 : St1 i s.heap) (st2 : St2 i s.heap) (l1 : i < n1) (l2 : i < n2)
    (hQ : ∀ x1 x2 h' tk, P1 i x1 → P2 i x2 → ZNow h' z TI TO L → St1 (i + 1) h' → St2 (i + 1) h' →
      IsTupOf2 h' s.heap.objs.size x1 x2 → h'.objs.size = s.heap.objs.size + 1 →
      (∀ c o, c ≠ z → c ≠ TO → c ≠ i1 → c ≠ i2 → s.heap.get? c = some o → h'.get? c = some o) →
      Q (some (.ref s.heap.objs.size)) { s with heap := h', toks := tk }) :
    wpAny (model prog w) A (pyNext (.ref z)) Q E s := by
  have hTy := hz.typ
  have zl : z < s.heap.objs.size := hz.lt
  have zne : s.heap.objs.size ≠ z := Nat.ne_of_gt zl
  have lne : s.heap.objs.size ≠ L := Nat.ne_of_gt hL
  rcases hz with ⟨hz, a1, a2, hTO⟩ | ⟨T, f, oT, hz, hT, hTz, hTL⟩
  · refine wpAny_pyNext_zipD2_item S D1 D2 hz hTI hTO st1 st2 l1 l2 fun x1 x2 h' tk y1 y2 b1 b2 d1 d2 b5 b6 b7 => ?_
    exact hQ x1 x2 h' tk y1 y2 (.inr ⟨s.heap.objs.size, false, _, b1, b5, zne, lne⟩) d1 d2 b5 b6 b7
  · unfold pyNext
    refine wpAny_bind (wpAny_attempt (wpAny_callSpecial?_slot (name := Str.ofString "__next__") hTy F.slot_zip_next
      (wpAny_call_entry F.slot_zip_next hTy F.entry_zip_next (held_item S D1 D2 hz hT hTI st1 st2 l1 l2
        fun x1 x2 h' tk y1 y2 b1 d1 d2 b5 b6 b7 => wpAny_pure ?_) (F.args_zip_next_1 _))))
    have hT' : ∃ o, h'.get? T = some o := by
      by_cases c1 : T = i1
      · rw [c1]; exact D1.live _ _ d1
      · by_cases c2 : T = i2
        · rw [c2]; exact D2.live _ _ d2
        · exact ⟨_, b7 T oT hTz c1 c2 hT⟩
    obtain ⟨o', hT'⟩ := hT'
    exact hQ x1 x2 h' tk y1 y2 (.inr ⟨T, true, o', b1, hT', hTz, hTL⟩) d1 d2 b5 b6 fun c o c0 _ c1 c2 e => b7 c o c0 c1 c2 e
theorem next_end {Q : Option Value → Shared → Prop} (S : ZipSep2 z TI TO i1 i2 fp1 fp2)
    (D1 : Draws prog w A.in1 i1 fp1 n1 P1 St1) (D2 : Draws prog w A.in1 i2 fp2 n2 P2 St2)
    (hz : ZNow s.heap z TI TO L) (hTI : IsTupOf2 s.heap TI (.ref i1) (.ref i2))
    (st1 : St1 i s.heap) (st2 : St2 i s.heap) (e1 : i ≤ n1) (e2 : i ≤ n2) (hend : i = n1 ∨ i = n2)
    (hQ : ∀ h' tk, (∀ c o, c ≠ z → c ≠ TO → c ≠ i1 → c ≠ i2 → s.heap.get? c = some o → h'.get? c = some o) →
      Q none { s with heap := h', toks := tk }) :
    wpAny (model prog w) A (pyNext (.ref z)) Q E s := by
  have hTy := hz.typ
  rcases hz with ⟨hz, a1, a2, hTO⟩ | ⟨T, f, oT, hz, hT, hTz, hTL⟩
  · exact wpAny_pyNext_zipD2_end S D1 D2 hz hTI hTO st1 st2 e1 e2 hend hQ
  · unfold pyNext
    refine wpAny_bind (wpAny_attempt (wpAny_callSpecial?_slot (name := Str.ofString "__next__") hTy F.slot_zip_next
      (wpAny_call_entry F.slot_zip_next hTy F.entry_zip_next (held_end S D1 D2 hz hT hTI st1 st2 e1 e2 hend fun h' tk e hk he => ?_) (F.args_zip_next_1 _))))
    obtain ⟨o, ho, hc⟩ := he
    refine wpAny_bind (wpAny_isInstance (T := "StopIteration") (b := true) ⟨o, ho, hc⟩ isSubtype_stop ?_)
    exact wpAny_pure (hQ _ _ fun c o c0 _ c1 c2 e => hk c o c0 c1 c2 e)
end

/-- the pairs laid so far: at Ts, new, apart from the zip's own cells and the list -/
structure Laid (N L : Nat) (P1 P2 : Nat → Value → Prop) (cells : List Addr) (h : Heap) (Ts : List Addr) : Prop where
  nd : Ts.Nodup
  at_ : ∀ j T, Ts[j]? = some T → N ≤ T ∧ T < h.objs.size ∧ T ≠ L ∧ T ∉ cells ∧ ∃ x y, P1 j x ∧ P2 j y ∧ IsTupOf2 h T x y
theorem Laid.nil {N L : Nat} {P1 P2 : Nat → Value → Prop} {cells : List Addr} {h : Heap} : Laid N L P1 P2 cells h [] := ⟨List.nodup_nil, fun j T e => by simp at e⟩
theorem Laid.over {N L : Nat} {P1 P2 : Nat → Value → Prop} {cells : List Addr} {h h' : Heap} {Ts : List Addr} (q : Laid N L P1 P2 cells h Ts)
    (hs : h.objs.size ≤ h'.objs.size) (hk : ∀ c o, c ∉ cells → c ≠ L → h.get? c = some o → h'.get? c = some o) : Laid N L P1 P2 cells h' Ts :=
  ⟨q.nd, fun j T e => by
    obtain ⟨a, b, c, d, x, y, px, py, t⟩ := q.at_ j T e
    exact ⟨a, Nat.lt_of_lt_of_le b hs, c, d, x, y, px, py, hk _ _ d c t⟩⟩
theorem Laid.push {N L : Nat} {P1 P2 : Nat → Value → Prop} {cells : List Addr} {h h' : Heap} {Ts : List Addr} {x y : Value} (q : Laid N L P1 P2 cells h Ts)
    (hs : h'.objs.size = h.objs.size + 1) (hk : ∀ c o, c ∉ cells → c ≠ L → h.get? c = some o → h'.get? c = some o)
    (hN : N ≤ h.objs.size) (hL : L < h.objs.size) (hc : ∀ c ∈ cells, c < h.objs.size) (px : P1 Ts.length x) (py : P2 Ts.length y) (t : IsTupOf2 h' h.objs.size x y) :
    Laid N L P1 P2 cells h' (Ts ++ [h.objs.size]) := by
  have q' := q.over (h' := h') (by omega) hk
  refine ⟨?_, fun j T e => ?_⟩
  · rw [List.nodup_append]
    refine ⟨q.nd, by simp, fun a ha b hb e => ?_⟩
    simp at hb
    obtain ⟨j, hj⟩ := List.getElem?_of_mem ha
    have := (q.at_ j a hj).2.1
    rw [e, hb] at this
    exact Nat.lt_irrefl _ this
  · by_cases hj : j < Ts.length
    · rw [List.getElem?_append_left hj] at e
      exact q'.at_ j T e
    · rw [List.getElem?_append_right (by omega)] at e
      have hj0 : j - Ts.length = 0 := by
        rcases Nat.eq_zero_or_pos (j - Ts.length) with z | z
        · exact z
        · rw [List.getElem?_eq_none (by simp; omega)] at e
          cases e
      rw [hj0] at e
      have e' : h.objs.size = T := by simpa using e
      subst e'
      have ej : j = Ts.length := by omega
      refine ⟨hN, by rw [hs]; exact Nat.lt_succ_self _, Nat.ne_of_gt hL, fun hm => Nat.lt_irrefl _ (hc _ hm), x, y, ?_, ?_, t⟩
      · rw [ej]; exact px
      · rw [ej]; exact py
section
variable {prog : Program} {w : World} {A : Around} {R : Result → Shared → Prop} {z TI TO i1 i2 : Addr} {N L : Nat}
variable {fp1 fp2 : List Addr} {n1 n2 n : Nat} {P1 P2 : Nat → Value → Prop} {St1 St2 : Nat → Heap → Prop}
theorem loop_zip (S : ZipSep2 z TI TO i1 i2 fp1 fp2) (D1 : Draws prog w A.in1.in1 i1 fp1 n1 P1 St1) (D2 : Draws prog w A.in1.in1 i2 fp2 n2 P2 St2)
    (hn : n = min n1 n2) (hsz : n ≤ sizeLine) (res : Value) (hL1 : L ∉ fp1) (hL2 : L ∉ fp2) (hLz : L ≠ z) (hLTI : L ≠ TI) (hLTO : L ≠ TO) (hNz : N ≤ z) (hNT : N ≤ TO) (hN1 : N ≤ i1) (hN2 : N ≤ i2) (hNL : N ≤ L) :
    ∀ (k : Nat) (s : Shared) (Ts : List Addr) (c : Nat), n - Ts.length = k → Ts.length ≤ n → ZNow s.heap z TI TO L → IsTupOf2 s.heap TI (.ref i1) (.ref i2) → TO < s.heap.objs.size →
      St1 Ts.length s.heap → St2 Ts.length s.heap → N ≤ s.heap.objs.size → s.heap.get? L = some { cls := .type "list", dict := none, data := .seq (Ts.map Value.ref).toArray c, slots := #[] } →
      Laid N L P1 P2 [z, TO, i1, i2] s.heap Ts →
      (∀ h' tk Ts' c', Ts'.length = n → (∀ b o, b < N → s.heap.get? b = some o → h'.get? b = some o) →
        h'.get? L = some { cls := .type "list", dict := none, data := .seq (Ts'.map Value.ref).toArray c', slots := #[] } → Laid N L P1 P2 [z, TO, i1, i2] h' Ts' →
        R (.ok (.ret res)) { s with heap := h', toks := tk }) →
      codeAny (model prog w) A (.builtin "list.extend.loop" ⟨[.ref L, .ref z, res], []⟩) R s := by
  intro k
  have S' := S
  induction k with
  | zero =>
    intro s Ts c hk hle hz hTI hTO st1 st2 hN hLs hld hR
    have hin : Ts.length = n := by omega
    refine codeAny_builtin F.entry_extend_loop ?_
    rw [Around.under_plainId F.plain_extend_loop _]
    show wpAny _ A.in1 (pyNext (.ref z) >>= _) _ _ s
    have hend : Ts.length = n1 ∨ Ts.length = n2 := by omega
    refine wpAny_bind (next_end S D1 D2 hz hTI st1 st2 (by omega) (by omega) hend fun h' tk hk' => ?_)
    have ne : ∀ c, c ∉ [z, TO, i1, i2] → c ≠ z ∧ c ≠ TO ∧ c ≠ i1 ∧ c ≠ i2 := fun c hc => by simpa using hc
    have Li : L ≠ i1 ∧ L ≠ i2 := ⟨fun e => hL1 (e ▸ S.mem1), fun e => hL2 (e ▸ S.mem2)⟩
    refine wpAny_pure (hR h' tk Ts c hin (fun b o hb e => ?_) (hk' L _ hLz hLTO Li.1 Li.2 hLs) ?_)
    · exact hk' b o (Nat.ne_of_lt (Nat.lt_of_lt_of_le hb hNz)) (Nat.ne_of_lt (Nat.lt_of_lt_of_le hb hNT)) (Nat.ne_of_lt (Nat.lt_of_lt_of_le hb hN1)) (Nat.ne_of_lt (Nat.lt_of_lt_of_le hb hN2)) e
    · refine ⟨hld.nd, fun j T e => ?_⟩
      obtain ⟨a, b, c, d, x, y, px, py, t⟩ := hld.at_ j T e
      have t' : IsTupOf2 h' T x y := hk' _ _ (ne T d).1 (ne T d).2.1 (ne T d).2.2.1 (ne T d).2.2.2 t
      exact ⟨a, Heap.lt_size t', c, d, x, y, px, py, t'⟩
  | succ k ih =>
    intro s Ts c hk hle hz hTI hTO st1 st2 hN hLs hld hR
    have hlt1 : Ts.length < n1 := by omega
    have hlt2 : Ts.length < n2 := by omega
    refine codeAny_builtin F.entry_extend_loop ?_
    rw [Around.under_plainId F.plain_extend_loop _]
    show wpAny _ A.in1 (pyNext (.ref z) >>= _) _ _ s
    have hLlt : L < s.heap.objs.size := Heap.lt_size hLs
    refine wpAny_bind (next_item S D1 D2 hz hTI hLlt st1 st2 hlt1 hlt2 fun x1 x2 h' tk px py hz' d1 d2 ht hsz' hk' => ?_)
    have ne : ∀ c, c ∉ [z, TO, i1, i2] → c ≠ z ∧ c ≠ TO ∧ c ≠ i1 ∧ c ≠ i2 := fun c hc => by simpa using hc
    have Li : L ≠ i1 ∧ L ≠ i2 := ⟨fun e => hL1 (e ▸ S.mem1), fun e => hL2 (e ▸ S.mem2)⟩
    have hL' := hk' L _ hLz hLTO Li.1 Li.2 hLs
    have hTI' : IsTupOf2 h' TI (.ref i1) (.ref i2) := hk' TI _ S.TIz S.TITO S.TIi1 S.TIi2 hTI
    have hcells : ∀ b ∈ [z, TO, i1, i2], b < s.heap.objs.size := fun b hb => by
      have hb' : b = z ∨ b = TO ∨ b = i1 ∨ b = i2 := by simpa using hb
      rcases hb' with e | e | e | e
      · rw [e]; exact hz.lt
      · rw [e]; exact hTO
      · rw [e]; obtain ⟨o, q⟩ := D1.live _ _ st1; exact Heap.lt_size q
      · rw [e]; obtain ⟨o, q⟩ := D2.live _ _ st2; exact Heap.lt_size q
    have hld' : Laid N L P1 P2 [z, TO, i1, i2] h' (Ts ++ [s.heap.objs.size]) :=
      hld.push hsz' (fun c o hc _ e => hk' c o (ne c hc).1 (ne c hc).2.1 (ne c hc).2.2.1 (ne c hc).2.2.2 e) hN hLlt hcells px py ht
    show wpAny _ A.in1 (updateSeq L (·.push (Value.ref s.heap.objs.size)) >>= _) _ _ _
    refine wpAny_bind ?_
    have hlen : (Ts ++ [s.heap.objs.size]).length = Ts.length + 1 := by simp
    have hzs : ((Ts.map Value.ref).toArray : Array Value).size = Ts.length := by simp
    refine wpAny_updateSeq hL' rfl (wpAny_pure ⟨plainId_quiet F.plain_extend_loop _, ?_⟩) (by rw [hzs]; omega)
      (by show ((Ts.map Value.ref).toArray.push (Value.ref s.heap.objs.size)).size ≤ sizeLine + 1; rw [Array.size_push, hzs]; omega)
    have hself := Heap.get?_update_self (Obj.mapSeq (·.push (Value.ref s.heap.objs.size))) hL' rfl
    have hoth : ∀ b o, b ≠ L → h'.get? b = some o → (h'.update L (Obj.mapSeq (·.push (Value.ref s.heap.objs.size)))).get? b = some o :=
      fun b o hb e => (Heap.get?_update_other _ _ (Ne.symm hb)).trans e
    have hus : (h'.update L (Obj.mapSeq (·.push (Value.ref s.heap.objs.size)))).objs.size = h'.objs.size := (Heap.SameBut.update ..).1
    obtain ⟨c3, hc3⟩ : ∃ c3, (h'.update L (Obj.mapSeq (·.push (Value.ref s.heap.objs.size)))).get? L = some { cls := .type "list", dict := none, data := .seq ((Ts ++ [s.heap.objs.size]).map Value.ref).toArray c3, slots := #[] } := by
      have eA : ((Ts ++ [s.heap.objs.size]).map Value.ref).toArray = (Ts.map Value.ref).toArray.push (Value.ref s.heap.objs.size) := by simp
      rw [eA, hself]; exact ⟨_, rfl⟩
    refine ih { s with heap := h'.update L (Obj.mapSeq (·.push (Value.ref s.heap.objs.size))), toks := tk } (Ts ++ [s.heap.objs.size]) c3 (by rw [hlen]; omega) (by rw [hlen]; omega) ?_ (hoth TI _ (Ne.symm hLTI) hTI') ?_ ?_ ?_ ?_ ?_ ?_ fun h2 tk2 Ts2 c2 hl2 hk2 hL2' hld2 => ?_
    · rcases hz' with ⟨q, a1, a2, q2⟩ | ⟨T, f, oT, q, q2, q3, q4⟩
      · exact .inl ⟨hoth z _ (Ne.symm hLz) q, a1, a2, hoth TO _ (Ne.symm hLTO) q2⟩
      · exact .inr ⟨T, f, oT, hoth z _ (Ne.symm hLz) q, hoth T _ q4 q2, q3, q4⟩
    · show TO < (h'.update L _).objs.size
      rw [hus, hsz']; exact Nat.lt_succ_of_lt hTO
    · rw [hlen]; exact D1.frame _ _ _ d1 fun b hb o e => hoth b o (fun q => hL1 (q ▸ hb)) e
    · rw [hlen]; exact D2.frame _ _ _ d2 fun b hb o e => hoth b o (fun q => hL2 (q ▸ hb)) e
    · show N ≤ (h'.update L _).objs.size
      rw [hus, hsz']; exact Nat.le_succ_of_le hN
    · exact hc3
    · exact hld'.over (by rw [hus]; exact Nat.le_refl _) fun b o _ hb e => hoth b o hb e
    · refine hR h2 tk2 Ts2 c2 hl2 (fun b o hb e => hk2 b o hb (hoth b o (Nat.ne_of_lt (Nat.lt_of_lt_of_le hb hNL)) ?_)) hL2' hld2
      exact hk' b o (Nat.ne_of_lt (Nat.lt_of_lt_of_le hb hNz)) (Nat.ne_of_lt (Nat.lt_of_lt_of_le hb hNT)) (Nat.ne_of_lt (Nat.lt_of_lt_of_le hb hN1)) (Nat.ne_of_lt (Nat.lt_of_lt_of_le hb hN2)) e
theorem zip_no_len : typeLookup (.type "zip") "__len__" = pure none := am_miss_of_fast (by decide +kernel)
theorem zip_no_hint : typeLookup (.type "zip") "__length_hint__" = pure none := am_miss_of_fast (by decide +kernel)
end
end XL
namespace XL
open PySem PyProof.Rows
section
variable {prog : Program} {w : World} {A : Around} {E : Value → Shared → Prop} {s : Shared}
/-- list(zip(v1, v2)): a new list of new pairs -/
theorem call_list_zip {Q : Value → Shared → Prop} {v1 v2 : Value} {o1 o2 : Obj} {H1 H2 : Heap → Prop} {fp1 fp2 : List Addr} {n1 n2 n : Nat} {P1 P2 : Nat → Value → Prop} {St1 St2 : Nat → Heap → Prop}
    (B1 : Begins v1 o1 H1) (B2 : Begins v2 o2 H2) (h1 : H1 s.heap) (h2 : H2 s.heap) (hf1 : ∀ b ∈ fp1, b < s.heap.objs.size) (hf2 : ∀ b ∈ fp2, b < s.heap.objs.size)
    (D1 : ∀ A', A'.handled = none → Draws prog w A' s.heap.objs.size (s.heap.objs.size :: fp1) n1 P1 St1)
    (D2 : ∀ A', A'.handled = none → Draws prog w A' (s.heap.objs.size + 1) ((s.heap.objs.size + 1) :: fp2) n2 P2 St2)
    (b1 : ∀ h', (∀ b o, s.heap.get? b = some o → h'.get? b = some o) → h'.get? s.heap.objs.size = some o1 → St1 0 h')
    (b2 : ∀ h', (∀ b o, s.heap.get? b = some o → h'.get? b = some o) → h'.get? (s.heap.objs.size + 1) = some o2 → St2 0 h')
    (hA : A.handled = none) (hn : n = min n1 n2) (hz : n ≤ sizeLine)
    (hQ : ∀ (h' : Heap) (tk : Nat) (Ts : List Addr) (c : Nat) (L : Addr), Ts.length = n → (∀ b o, s.heap.get? b = some o → h'.get? b = some o) → s.heap.objs.size ≤ L →
      h'.get? L = some { cls := .type "list", dict := none, data := .seq (Ts.map Value.ref).toArray c, slots := #[] } → Ts.Nodup →
      (∀ j T, Ts[j]? = some T → s.heap.objs.size ≤ T ∧ T ≠ L ∧ ∃ x y, P1 j x ∧ P2 j y ∧ IsTupOf2 h' T x y) → Q (.ref L) { s with heap := h', toks := tk }) :
    wpAny (model prog w) A (call (.type "zip") [v1, v2]) (fun v s1 => wpAny (model prog w) A (call (.type "list") [v]) Q E s1) E s := by
  refine zip_begins2 B1 B2 h1 h2 fun g hz0 hTI hTO e1 e2 hsz hk => ?_
  have hgN : g.objs.size = s.heap.objs.size + 5 := hsz
  generalize hNN : s.heap.objs.size = N at *
  refine callType_codes (Q₁ := fun obj s₁ => obj = .ref g.objs.size ∧ s₁ = { s with heap := g.push { cls := .type "list", data := .seq #[] } }) F.called_list (F.typeCall_list_1 _) F.entry_list_init
    (code_list_new _ ⟨rfl, rfl⟩) fun obj s₁ q₁ => ?_
  obtain ⟨rfl, rfl⟩ := q₁
  have hS : (g.push { cls := .type "list", data := .seq #[] }).get? g.objs.size = some { cls := .type "list", data := .seq #[] } := Heap.get?_push_size _ rfl
  refine ⟨⟨_, hS, rfl⟩, F.args_list_init_2 _ _, ?_⟩
  have SS := zip_sep2 hf1 hf2
  have kp : ∀ b o, g.get? b = some o → (g.push { cls := .type "list", data := .seq #[] }).get? b = some o := fun b o e => Heap.get?_push_of_some _ e
  generalize hG : g.push { cls := .type "list", data := .seq #[] } = G at *
  have hGz : G.objs.size = g.objs.size + 1 := by rw [← hG]; exact Heap.size_push ..
  have hLv : g.objs.size = N + 5 := hgN
  generalize hLL : g.objs.size = L at *
  show wpAny _ _ (do let old ← Builtin.List.listItems (.ref L); Builtin.List.listUpdate (.ref L) (fun _ => #[]); letGo old.toList.reverse; Builtin.List.listExtendWith (.ref L) (.ref (N + 4)) .none) _ _ _
  refine wpAny_bind ?_
  unfold Builtin.List.listItems
  refine wpAny_bind (wpAny_seqItems hS rfl (wpAny_pure ?_))
  show wpAny _ _ (updateSeq L (fun _ => #[]) >>= fun _ => letGo (#[] : Array Value).toList.reverse >>= fun _ => Builtin.List.listExtendWith (.ref L) (.ref (N + 4)) .none) _ _ _
  refine wpAny_bind (wpAny_updateSeq hS rfl ?_)
  have hS₂ := Heap.get?_update_self (Obj.mapSeq (fun _ => (#[] : Array Value))) hS rfl
  have oth : ∀ b o, b ≠ L → G.get? b = some o → (G.update L (Obj.mapSeq (fun _ => (#[] : Array Value)))).get? b = some o :=
    fun b o hb e => (Heap.get?_update_other _ _ (Ne.symm hb)).trans e
  have hG2 : (G.update L (Obj.mapSeq (fun _ => (#[] : Array Value)))).objs.size = G.objs.size := (Heap.SameBut.update ..).1
  generalize hGG : G.update L (Obj.mapSeq (fun _ => (#[] : Array Value))) = G2 at *
  refine wpAny_bind (wpAny_letGo ?_)
  have hNL : N ≤ L := by omega
  have nL : ∀ j : Nat, j < 5 → N + j ≠ L := fun j hj => by omega
  have hz2 : IsZip G2 (N + 4) (N + 2) (N + 3) .none := oth _ _ (nL 4 (by omega)) (kp _ _ hz0)
  have hT2 : IsTupOf2 G2 (N + 2) (.ref N) (.ref (N + 1)) := oth _ _ (nL 2 (by omega)) (kp _ _ hTI)
  have hO2 : IsTupOf2 G2 (N + 3) .none .none := oth _ _ (nL 3 (by omega)) (kp _ _ hTO)
  unfold Builtin.List.listExtendWith
  have hTy : ({ s with heap := G2 } : Shared).TypeIs (.ref (N + 4)) "zip" := ⟨_, hz2, rfl⟩
  refine wpAny_bind (wpAny_typeOf hTy ?_)
  have q1 : Builtin.List.listSameRef (.ref L) (.ref (N + 4)) = false := by simp only [Builtin.List.listSameRef]; exact beq_eq_false_iff_ne.mpr (nL 4 (by omega)).symm
  have q2 : (Value.type "zip" == Value.type "list") = false := by decide
  have q3 : (Value.type "zip" == Value.type "tuple") = false := by decide
  simp only [q1, q2, q3, Bool.or_false, Bool.false_eq_true, if_false]
  refine wpAny_bind (wpAny_pyIter_zip hz2 ?_)
  refine wpAny_bind (wpAny_holding ?_)
  unfold Builtin.List.listLengthHint
  refine wpAny_bind (wpAny_specialOf hTy zip_no_len ?_)
  show wpAny _ _ (specialOf (Value.ref (N + 4)) (Str.ofString "__length_hint__") >>= _) _ _ _
  refine wpAny_bind (wpAny_specialOf hTy zip_no_hint ?_)
  refine wpAny_pure ?_
  show wpAny _ _ (rule "list.extend.makes-room" >>= fun _ => Builtin.List.listTouch (.ref L) >>= fun _ => again (.builtin "list.extend.loop" ⟨[.ref L, .ref (N + 4), .none], []⟩)) _ _ _
  refine wpAny_bind (wpAny_rule ?_)
  refine wpAny_bind ?_
  show wpAny _ _ (updateSeq L (·.push .none) >>= fun _ => updateSeq L (·.pop)) _ _ _
  refine wpAny_bind (wpAny_updateSeq hS₂ rfl ?_)
  have hS₃ := Heap.get?_update_self (Obj.mapSeq (·.push Value.none)) hS₂ rfl
  refine wpAny_updateSeq (hz := by seq_fits) hS₃ rfl ?_
  have hS₄ := Heap.get?_update_self (Obj.mapSeq (·.pop)) hS₃ rfl
  have oth2 : ∀ b o, b ≠ L → G2.get? b = some o → ((G2.update L (Obj.mapSeq (·.push Value.none))).update L (Obj.mapSeq (·.pop))).get? b = some o :=
    fun b o hb e => (Heap.get?_update_other _ _ (Ne.symm hb)).trans ((Heap.get?_update_other _ _ (Ne.symm hb)).trans e)
  have hG3 : ((G2.update L (Obj.mapSeq (·.push Value.none))).update L (Obj.mapSeq (·.pop))).objs.size = G2.objs.size := ((Heap.SameBut.update ..).1).trans ((Heap.SameBut.update ..).1)
  generalize hGGG : (G2.update L (Obj.mapSeq (·.push Value.none))).update L (Obj.mapSeq (·.pop)) = G3 at *
  have old : ∀ b o, s.heap.get? b = some o → G3.get? b = some o := fun b o e => by
    have hb : b < N := by rw [← hNN]; exact Heap.lt_size e
    have hb' : b ≠ L := Nat.ne_of_lt (Nat.lt_of_lt_of_le hb hNL)
    exact oth2 b o hb' (oth b o hb' (kp b o (hk b o e)))
  have at1 : G3.get? N = some o1 := oth2 _ _ (nL 0 (by omega)) (oth _ _ (nL 0 (by omega)) (kp _ _ e1))
  have at2 : G3.get? (N + 1) = some o2 := oth2 _ _ (nL 1 (by omega)) (oth _ _ (nL 1 (by omega)) (kp _ _ e2))
  have hLn1 : L ∉ N :: fp1 := fun hm => by
    rcases List.mem_cons.mp hm with e | hm
    · exact nL 0 (by omega) e.symm
    · exact Nat.lt_irrefl _ (Nat.lt_of_lt_of_le (hf1 _ hm) hNL)
  have hLn2 : L ∉ (N + 1) :: fp2 := fun hm => by
    rcases List.mem_cons.mp hm with e | hm
    · exact nL 1 (by omega) e.symm
    · exact Nat.lt_irrefl _ (Nat.lt_of_lt_of_le (hf2 _ hm) hNL)
  refine wpAny_pure ⟨plainId_quiet F.plain_extend_loop _, loop_zip (A := A.in1) (N := N) (L := L) SS (D1 _ (show A.in1.in1.in1.handled = none from hA)) (D2 _ (show A.in1.in1.in1.handled = none from hA)) hn hz .none hLn1 hLn2 (nL 4 (by omega)).symm (nL 2 (by omega)).symm (nL 3 (by omega)).symm (Nat.le_add_right _ _) (Nat.le_add_right _ _) (Nat.le_refl _) (Nat.le_add_right _ _) (by omega)
    n _ [] _ (by simp) (Nat.zero_le _) (.inl ⟨oth2 _ _ (nL 4 (by omega)) hz2, _, _, oth2 _ _ (nL 3 (by omega)) hO2⟩) (oth2 _ _ (nL 2 (by omega)) hT2) ?_ (b1 G3 old at1) (b2 G3 old at2) ?_ hS₄ .nil fun h' tk Ts c hl hk' hL' hld => ?_⟩
  · show (N + 3 : Nat) < G3.objs.size
    rw [hG3, hG2, hGz]; omega
  · show N ≤ G3.objs.size
    rw [hG3, hG2, hGz]; omega
  · refine ⟨rfl, hQ h' tk Ts c L hl (fun b o e => hk' b o (by rw [← hNN]; exact Heap.lt_size e) (old b o e)) (by omega) hL' hld.nd fun j T e => ?_⟩
    obtain ⟨a, _, b, _, c⟩ := hld.at_ j T e
    exact ⟨a, b, c⟩
end
end XL
namespace XL
open PySem PySem.Spec PyProof.Rows L2
/-- a list or a tuple -/
def Sq2 (K : PySem.W.Frag) (H : Hp) (a : Addr) (xs : List V) : Prop := SqL K H a xs ∨ SqT K H a xs
theorem Same.tup {K : PySem.W.Frag} {H H' : Hp} {a : Addr} {xs : List V} (e : Same H H') (h : SqT K H a xs) : SqT K H' a xs := by
  rcases h with (h | ⟨o, h⟩) | h
  · exact .inl (.inl (e _ _ h))
  · exact .inl (.inr ⟨o, e _ _ h⟩)
  · exact .inr h
theorem Same.sq2 {K : PySem.W.Frag} {H H' : Hp} {a : Addr} {xs : List V} (e : Same H H') (h : Sq2 K H a xs) : Sq2 K H' a xs := h.imp (fun q => e.seq q) (fun q => Same.tup e q)
theorem same_new {H : Hp} {p : Addr} {o : HO} (h : H p = none) : Same H (upd H p o) := fun b x e => by
  rw [upd_ne (ne_of_none e h)]
  exact e
section
variable {X : Cx} {pins : List (Addr × Obj)} {σ : L2.St} {H : Hp} {s : Shared} {a : Addr} {xs : List V}
theorem seq_draws (I : Inv X pins σ H s) (h : Sq2 X.K H a xs) : ∃ (its : List Value) (o : Obj) (B : Heap → Prop) (fp : List Addr), Vals xs its ∧ xs.length ≤ sizeLine ∧ Begins (.ref a) o B ∧ B s.heap ∧
    (∀ b ∈ fp, b < s.heap.objs.size) ∧ ∀ it, s.heap.objs.size ≤ it → ∃ St : Nat → Heap → Prop, (∀ A' : Around, A'.handled = none → Draws X.prog X.w A' it (it :: fp) its.length (fun i v => its[i]? = some v) St) ∧
      ∀ h' : Heap, (∀ b o, s.heap.get? b = some o → h'.get? b = some o) → h'.get? it = some o → St 0 h' := by
  rcases h with h | h
  · obtain ⟨its, rv, p, hz⟩ := I.list h
    have la : a < s.heap.objs.size := p.lt
    refine ⟨its, _, _, [a], rv, hz, begins_list a its.toArray, p.isList, fun b hb => by rw [List.mem_singleton.mp hb]; exact la, fun it hit => ?_⟩
    have hne : a ≠ it := Nat.ne_of_lt (Nat.lt_of_lt_of_le la hit)
    refine ⟨fun i h => h.IsListIter it a i ∧ h.IsList a its.toArray, fun A' hA => ?_, fun h' hk e => ?_⟩
    · have D := Draws.list (prog := X.prog) (w := X.w) hA it a hne its.toArray
      simpa using D
    · exact ⟨⟨_, e, rfl, rfl⟩, p.isList.at fun o q => hk a o q⟩
  · obtain ⟨its, rv, p, hz⟩ := I.tuple h
    have la : a < s.heap.objs.size := by
      obtain ⟨o, e, _⟩ := p
      exact Heap.lt_size e
    have p' : s.heap.IsTuple a its.toArray := p
    refine ⟨its, _, _, [a], rv, hz, begins_tuple a its.toArray, p', fun b hb => by rw [List.mem_singleton.mp hb]; exact la, fun it hit => ?_⟩
    have hne : a ≠ it := Nat.ne_of_lt (Nat.lt_of_lt_of_le la hit)
    refine ⟨fun i h => h.IsTupleIter it a i ∧ h.IsTuple a its.toArray, fun A' hA => ?_, fun h' hk e => ?_⟩
    · have D := Draws.tuple (prog := X.prog) (w := X.w) hA it a hne its.toArray
      simpa using D
    · exact ⟨⟨_, e, rfl, rfl⟩, p'.at fun o q => hk a o q⟩
end
/-- pairs laid at Ts -/
def layP (H : Hp) : List Addr → List V → List V → Hp
  | T :: Ts, x :: xs, y :: ys => upd (layP H Ts xs ys) T (.tup [x, y])
  | _, _, _ => H
theorem layP_off (H : Hp) {c : Addr} : ∀ (Ts : List Addr) (xs ys : List V), c ∉ Ts → layP H Ts xs ys c = H c
  | [], xs, ys, _ => by cases xs <;> cases ys <;> rfl
  | T :: Ts, [], ys, _ => rfl
  | T :: Ts, _ :: _, [], _ => rfl
  | T :: Ts, x :: xs, y :: ys, h => by
    have h1 : c ≠ T := fun e => h (by rw [e]; exact List.mem_cons_self ..)
    show upd (layP H Ts xs ys) T _ c = H c
    rw [upd_ne h1]
    exact layP_off H Ts xs ys fun q => h (List.mem_cons_of_mem _ q)
theorem layP_at (H : Hp) : ∀ (Ts : List Addr) (xs ys : List V) (j : Nat) (T : Addr) (x y : V), Ts.Nodup → Ts[j]? = some T → xs[j]? = some x → ys[j]? = some y → layP H Ts xs ys T = some (.tup [x, y])
  | [], _, _, _, _, _, _, _, h, _, _ => by simp at h
  | T :: Ts, [], _, _, _, _, _, _, _, h, _ => by simp at h
  | T :: Ts, _ :: _, [], _, _, _, _, _, _, _, h => by simp at h
  | T :: Ts, x :: xs, y :: ys, 0, T', x', y', _, h, hx, hy => by
    have e1 : T = T' := Option.some.inj h
    have e2 : x = x' := Option.some.inj hx
    have e3 : y = y' := Option.some.inj hy
    subst e1 e2 e3
    exact upd_same
  | T :: Ts, x :: xs, y :: ys, j + 1, T', x', y', nd, h, hx, hy => by
    have h' : Ts[j]? = some T' := h
    have hne : T' ≠ T := fun e => (List.nodup_cons.mp nd).1 (by rw [← e]; exact List.mem_of_getElem? h')
    show upd (layP H Ts xs ys) T _ T' = _
    rw [upd_ne hne]
    exact layP_at H Ts xs ys j T' x' y' (List.nodup_cons.mp nd).2 h' hx hy
/-- list(zip(e, e2)) -/
def tLZ (K : PySem.W.Frag) (ta : TA) : TE := fun σ H Q => ta σ H fun vs H1 => ∃ a b xs ys, vs = [.ref a, .ref b] ∧ Sq2 K H1 a xs ∧ Sq2 K H1 b ys ∧
  ∀ (L : Addr) (Ts : List Addr) (H2 : Hp), Same H1 H2 → H1 L = none → H2 L = some (.lst (Ts.map V.ref)) → Ts.length = min xs.length ys.length →
    (∀ (j : Nat) (T : Addr), Ts[j]? = some T → ∃ x y, xs[j]? = some x ∧ ys[j]? = some y ∧ H2 T = some (.tup [x, y])) → Q (.ref L) H2
theorem pe_listZip {X : Cx} {e e2 : Expr} {ta : TA} {p p2 pos pos2 : Pos} (hc : X.calm = true) (hg : Gl X "list") (hm : X.mg "list" = none) (hg2 : Gl X "zip") (hm2 : X.mg "zip" = none) (ha : PA X [e, e2] ta)
    (hs : starEach [e, e2] X.env = (false, eval e X.env) :: starEach [e2] X.env := by rfl) (hpl : (backTo pos2 (starEach [e2] X.env)).any (·.1) = false := by rfl)
    (na : starEach [(Expr.Call (.Name "zip" p2) [e, e2] [] pos2)] X.env = (false, eval (.Call (.Name "zip" p2) [e, e2] [] pos2) X.env) :: starEach [] X.env := by rfl) :
    PE X (.Call (.Name "list" p) [.Call (.Name "zip" p2) [e, e2] [] pos2] [] pos) (tLZ X.K ta) := by
  refine ⟨fun pins s σ H Q I h => ?_⟩
  refine Call_ (ld_blt I hg hm boot_list (PyProof.Rows.callWith_type1 (args_cons ?_ na) na))
  obtain ⟨tk0, I0⟩ : ∃ t : Nat, Inv X pins σ H s := ⟨0, I⟩
  refine Call_ (ld_blt I hg2 hm2 PyProof.Rows.boot_zip (PyProof.Rows.callWith_type1 (thn (ha.run pos2 pins s σ H _ I h) fun us s1 ⟨vs, H1, I1, r1, q1⟩ => ?_) hs hpl))
  obtain ⟨a, b, xs, ys, ex, hx, hy, q⟩ := q1
  subst ex
  obtain ⟨u1, u2, rfl, r1, r2⟩ := vals2 r1
  cases (show u1 = Value.ref a from r1)
  cases (show u2 = Value.ref b from r2)
  obtain ⟨its, o1, B1, fp1, rv1, z1, b1, hb1, f1, d1⟩ := seq_draws I1 hx
  obtain ⟨its2, o2, B2, fp2, rv2, z2, b2, hb2, f2, d2⟩ := seq_draws I1 hy
  obtain ⟨St1, D1, s1'⟩ := d1 s1.heap.objs.size (Nat.le_refl _)
  obtain ⟨St2, D2, s2'⟩ := d2 (s1.heap.objs.size + 1) (Nat.le_succ _)
  have l1 := rv1.length
  have l2 := rv2.length
  refine thn (call_list_zip (n := min its.length its2.length) (Q := fun v s2 => ∃ v' H', Inv X pins σ H' s2 ∧ RelV v' v ∧ Q v' H') (E := X.xe) b1 b2 hb1 hb2 f1 f2 D1 D2 s1' s2' (I1.ok.hd hc) rfl (by omega) fun h' tk Ts c L hl hk hLn hL nd hT => ?_) fun v s2 hq => args_nil hq
  have hT' : ∀ (j : Nat) (T : Addr), Ts[j]? = some T → ∃ x y u v, xs[j]? = some x ∧ ys[j]? = some y ∧ RelV x u ∧ RelV y v ∧ s1.heap.objs.size ≤ T ∧ T ≠ L ∧ IsTupOf2 h' T u v := fun j T e => by
    obtain ⟨g1, g2, u, v, pu, pv, t⟩ := hT j T e
    have hj1 : j < xs.length := by
      rw [l1]; exact (List.getElem?_eq_some_iff.mp pu).1
    have hj2 : j < ys.length := by
      rw [l2]; exact (List.getElem?_eq_some_iff.mp pv).1
    obtain ⟨u', eu, ru⟩ := rv1.get (List.getElem?_eq_getElem hj1)
    obtain ⟨v', ev, rv⟩ := rv2.get (List.getElem?_eq_getElem hj2)
    rw [eu] at pu
    rw [ev] at pv
    cases pu
    cases pv
    exact ⟨_, _, _, _, List.getElem?_eq_getElem hj1, List.getElem?_eq_getElem hj2, ru, rv, g1, g2, t⟩
  have hLT : L ∉ Ts := fun hm => by
    obtain ⟨j, e⟩ := List.getElem?_of_mem hm
    obtain ⟨_, _, _, _, _, _, _, _, _, ne, _⟩ := hT' j L e
    exact ne rfl
  have nTs : ∀ c, c < s1.heap.objs.size → c ∉ Ts := fun c hc hm => by
    obtain ⟨j, e⟩ := List.getElem?_of_mem hm
    obtain ⟨_, _, _, _, _, _, _, _, g, _⟩ := hT' j c e
    exact Nat.lt_irrefl _ (Nat.lt_of_lt_of_le hc g)
  have fr : ∀ c, s1.heap.objs.size ≤ c → H1 c = none := fun c hc => I1.hok.fresh hc
  have old : ∀ c o, H1 c = some o → upd (layP H1 Ts xs ys) L (.lst (Ts.map V.ref)) c = some o := fun c o e => by
    have h1 : c ≠ L := fun z => by rw [z, fr L hLn] at e; cases e
    have h2 : c ∉ Ts := fun hm => by
      obtain ⟨j, e'⟩ := List.getElem?_of_mem hm
      obtain ⟨_, _, _, _, _, _, _, _, g, _⟩ := hT' j c e'
      rw [fr c g] at e; cases e
    rw [upd_ne h1, layP_off H1 Ts xs ys h2]; exact e
  have U : Un X.fs [] H1 (upd (layP H1 Ts xs ys) L (.lst (Ts.map V.ref))) s1.heap h' := {
    keep := fun b o e _ _ _ => hk b o e
    slot := fun b o e _ _ _ => ⟨o.slots, hk b o e⟩
    free := fun b o e n _ => by
      have lb := Heap.lt_size e
      rw [upd_ne (Nat.ne_of_lt (Nat.lt_of_lt_of_le lb hLn)), layP_off H1 Ts xs ys (nTs b lb)]; exact n
    there := fun b o e _ => ⟨o, hk b o e⟩
    tups := fun b xs e => old b _ e
    frzs := fun b o u e => old b _ e
    tbls := fun b ps e => ⟨#[], by rw [old b _ e]; simp⟩ }
  have OK : HOk X.prog X.w (upd (layP H1 Ts xs ys) L (.lst (Ts.map V.ref))) h' := fun b o e => by
    by_cases hb : b = L
    · subst hb
      rw [upd_same] at e
      cases e
      refine ⟨by rw [List.length_map, hl]; omega, Ts.map Value.ref, c, ?_, hL⟩
      clear hT hT' hLT nTs old U hL nd hl q
      induction Ts with
      | nil => exact .nil
      | cons T r ih => exact .cons rfl ih
    · rw [upd_ne hb] at e
      by_cases hbT : b ∈ Ts
      · obtain ⟨j, ej⟩ := List.getElem?_of_mem hbT
        obtain ⟨x, y, u, v, ex, ey, ru, rv, g1, g2, t⟩ := hT' j b ej
        rw [layP_at H1 Ts xs ys j b x y nd ej ex ey] at e
        cases e
        exact ⟨by show 2 ≤ sizeLine; decide, [u, v], .cons ru (.cons rv .nil), ⟨_, t, rfl, _, rfl⟩⟩
      · rw [layP_off H1 Ts xs ys hbT] at e
        exact (I1.hok b o e).stay (fun c v _ q => hk c v q) (fun c q => old c _ q) fun c xs q => old c _ q
  refine ⟨.ref L, _, I1.un (t' := tk) U OK, rfl, q L Ts _ (fun c o e => old c o e) (fr L hLn) upd_same (by rw [hl]; omega) fun j T e => ?_⟩
  obtain ⟨x, y, u, v, ex, ey, ru, rv, g1, g2, t⟩ := hT' j T e
  exact ⟨x, y, ex, ey, by rw [upd_ne g2, layP_at H1 Ts xs ys j T x y nd e ex ey]⟩
end XL
namespace XL
open PySem PySem.Spec PyProof.Rows L2
/-- a def that keeps its promise where no repr is under way -/
structure FnG (P : Program) (w : World) (K : PySem.W.Frag) (mg : Str → Option Value) (base : Heap) (k : Nat) (f : Addr) (fd : FuncData) (ps : List Str) (sp : Sp) : Prop where
  len : ∀ vs H Q E, sp vs H Q E → vs.length = ps.length
  run : ∀ (A : Around) (outer : List Env) (s : Shared) (H : Hp) (args : Args) (us : List Value) (vs : List V) (Q : VK) (E : XK),
    A.guards = some [] → Room k A → Env0 P w K mg base A outer s H → BindsTo s fd args (ps.zip us) → Vals vs us → sp vs H Q E →
    codeAny (model P w) A (.call (.ref f) args) (CR CX0 outer P w H s Q E) s
section
variable {P : Program} {w : World} {K : PySem.W.Frag} {mg : Str → Option Value} {base : Heap}
theorem okG {x qual : Str} {st : Stmt} {f : Addr} {fd : FuncData} {N ps : List Str} {k : Nat} {sp : Sp} (F : Fun K x qual st f fd) (S : FnScope N ps (defScope st)) (len : ∀ vs H Q E, sp vs H Q E → vs.length = ps.length)
    (hbody : ∀ (cdv : Value) (A : Around) (outer : List Env) (s : Shared) (H : Hp) (vs : List V) (Q : VK) (E : XK),
      (A.deeper (envOfC qual (defScope st) s.heap.objs.size f cdv)).guards = some [] → Room k (A.deeper (envOfC qual (defScope st) s.heap.objs.size f cdv)) → sp vs H Q E →
      ∃ t, PSs (cxOf CX0 P w K mg base N qual (defScope st) f cdv A outer s H E).nox (defBody st) t ∧ t { nx := fun _ H' => Q .non H', rt := Q } (start N vs) H) : FnG P w K mg base (k + 1) f fd ps sp := by
  obtain ⟨oc, od, kV, doc, pm, an, cdv, ct, osl, rfl, lk, hcd⟩ := F.ex
  refine ⟨len, fun A outer s H args us vs Q E hgd hr e0 hb r hsp => ?_⟩
  have hl := len _ _ _ _ hsp; have KX : K.In s.heap := e0.mod.kin.keeps fun b o e => (e0.bs b o e).1
  have lim : s.heap.NoLimit := e0.mod.nolimit.keeps fun b o e => (e0.bs b o e).1
  have hkind : ∀ y ∈ ps.zip us, (defScope st).names.lookup y.1 = some .local ∨ ((defScope st).names.lookup y.1 = some .cell ∧ ((cellsFrom (s.heap.objs.size + 1) (defScope st).names []).lookup y.1).isSome = true) := fun ⟨n, v⟩ hy => by
    rcases S.par n (List.of_mem_zip hy).1 with q | q
    · exact .inl q
    · exact .inr ⟨q, PySem.W.cellsFrom_some _ _ _ (.inl q)⟩
  refine codeAny_call_function hr.depth (KX _ _ lk) rfl S.co S.gen rfl (PySem.W.codeRec_of KX hcd) (hb _ _ _ _ (wpAny_newFunctionEnv_cells S.kind hkind fun env he s1 x => ?_))
  subst he
  refine ⟨lim.keeps x.toInCall.keep, codeAny_func ?_⟩
  obtain ⟨t, ht, hq⟩ := hbody cdv A outer s H vs Q E hgd (hr.deeper _) hsp
  have I : Inv (cxOf CX0 P w K mg base N qual (defScope st) f cdv A outer s H E) [] (start N vs) H s1 := inv_start S hr.hd e0 hl r x
  refine wpAny_mono (ht.nox.run [] s1 (start N vs) H _ I hq) (fun fl s' hs => ?_) fun e s' hs => hs
  have fin : ∀ {σ' : L2.St} {H' : Hp} {v : V} {u : Value}, Inv (cxOf CX0 P w K mg base N qual (defScope st) f cdv A outer s H E) [] σ' H' s' → RelV v u → Q v H' → CE outer P w H s Q u s' := fun {σ' H' v u} J rv q =>
    ⟨v, H', J.os, J.bare, J.base, J.hok, rv, q⟩
  cases fl with
  | ret u => obtain ⟨v, σ', H', J, rv, q⟩ := hs; exact fin J rv q
  | next => obtain ⟨σ', H', J, q⟩ := hs; exact fin (v := V.non) (u := Value.none) J rfl q
  | brk => obtain ⟨_, _, _, q⟩ := hs; exact False.elim q
  | cont => obtain ⟨_, _, _, q⟩ := hs; exact False.elim q
theorem FnG.of {k : Nat} {f : Addr} {fd : FuncData} {ps : List Str} {sp : Sp} (F : FnOk P w K mg base CX0 k f fd ps sp) : FnG P w K mg base k f fd ps sp :=
  ⟨F.len, fun A outer s H args us vs Q E _ hr e0 hb r h => F.run A outer s H args us vs Q E hr e0 hb r h⟩
end
section
variable {X : Cx} {k : Nat} {f C : Addr} {fd : FuncData} {ps ks : List Str} {sp : Sp} {x m : Str} {p pos apos : Pos} {e o : Expr} {es : List Expr} {ta : TE} {t tk : TA} {kws : List Keyword}
/-- f(e, ..) of such a def -/
theorem pe_callG (hG : X.A.guards = some []) (F : FnG X.prog X.w X.K X.mg X.base k f fd ps sp) (hr : Room k X.A) (hg : Gl X x) (hm : X.mg x = some (.ref f)) (hk : PySem.W.keepIn X.K (.ref f) = true) (hb : Binds X.K fd ps [])
    (ha : PA X (e :: es) t) (hdb : (x == ("__debug__" : Str)) = false := by decide) (he : starEach (e :: es) X.env = (false, eval e X.env) :: starEach es X.env := by rfl)
    (hpl : (backTo pos (starEach es X.env)).any (·.1) = false := by rfl) : PE X (.Call (.Name x p) (e :: es) [] pos) (tCall sp [] E0 t) := by
  refine ⟨fun pins s σ H Q I h => wpAny_Call_Name_kw (ld_glob I hg hm ?_ hdb)⟩
  refine PySem.W.callWith_K (h₀ := X.base) I.ok.mod.kin hk (thn (ha.run pos pins s σ H _ I h) fun us s1 ⟨vs, H1, I1, r, q⟩ => ⟨I1.kIn, ?_⟩) he hpl
  have q' : sp vs H1 Q E0 := by have q2 : sp (vs ++ []) H1 Q E0 := q; rwa [List.append_nil] at q2
  have hl : us.length = ps.length := by rw [← r.length]; exact F.len _ _ _ _ q'
  have hb' : BindsTo s1 fd ⟨us, []⟩ (ps.zip us) := by have b2 := hb s1 us I1.kIn (by rw [List.append_nil]; exact hl); rwa [List.append_nil] at b2
  refine wpAny_call (codeAny_mono (F.run X.A X.stack s1 H1 ⟨us, []⟩ us vs Q E0 hG hr I1.env0 hb' r q') fun r s' hq => ?_)
  cases r with
  | error e => exact False.elim hq
  | ok fl =>
    cases fl with
    | ret u => exact I1.after hq
    | next => exact False.elim hq
    | brk => exact False.elim hq
    | cont => exact False.elim hq
variable {CX : CXT} {E : XK} {g : List Value → List Value → List Value} {gV : List V → List V → List V}
/-- f(k = v, ..), no argument by place -/
theorem pe_callK0 (F : FnOk X.prog X.w X.K X.mg X.base CX k f fd ps sp) (hr : Room k X.A) (hg : Gl X x) (hm : X.mg x = some (.ref f)) (hk : PySem.W.keepIn X.K (.ref f) = true) (hb : KBinds X.K fd ps ks g gV) (hx : Passes CX X E)
    (hkw : PK X kws tk) (hall : (backToKw pos (keywordEach kws X.env)).all (·.1.isSome) = true := by rfl) (hks : (backToKw pos (keywordEach kws X.env)).filterMap (·.1) = ks := by rfl)
    (hdb : (x == ("__debug__" : Str)) = false := by decide)
    (hpl : ((backTo pos (starEach [] X.env)).any (·.1) || (backToKw pos (keywordEach kws X.env)).any (·.1.isNone)) = false := by rfl) :
    PE X (.Call (.Name x p) [] kws pos) (fun σ H Q => tk σ H fun zs H2 => sp (gV [] zs) H2 Q E) := by
  refine ⟨fun pins s σ H Q I h => wpAny_Call_Name_kw (ld_glob I hg hm ?_ hdb)⟩
  refine PySem.W.callWith_KW0 (h₀ := X.base) I.ok.mod.kin hk hall (thn (hkw.run pos pins s σ H _ I h) fun ws s2 ⟨zs, H2, I2, rz, q2⟩ => ⟨I2.kIn, ?_⟩) hpl
  rw [hks]
  exact run_fnk F hr hb hx I2 .nil rz q2
end
/-! ### the head -/
theorem law_callG {P : Program} {w : World} {K : PySem.W.Frag} {mg mb : Str → Option Value} {k : Nat} {fa a : Addr} {fd : FuncData} {x : Str} {sp : Sp} {s₁ : Shared} {vs : List Value} {ns : List Int}
    (KX : K.In s₁.heap) (hns : s₁.heap.Ns mainGlobals mg) (hb : s₁.heap.Ns builtinsNs mb) (hbb : ∀ x : Str, x ≠ "__name__" → mb x = bootBuiltins x) (hlim : s₁.heap.NoLimit) (hg : s₁.gens = #[])
    (ha : s₁.heap.get? a = some { cls := .type "list", data := .seq vs.toArray }) (hi : IntsAre vs ns) (hl : ns.length ≤ sizeLine) (hr : Room k callerA)
    (F : ∀ base : Heap, K.In base → base.Ns mainGlobals mg → FnG P w K mg base k fa fd [x] sp) (hbind : ∀ (s : Shared) (u : Value), BindsTo s fd ⟨[u], []⟩ [(x, u)])
    (hsp : ∀ H : Hp, Only H → SqL K H a (ns.map V.int) → sp [.ref a] H (fun v _ => v = .bl true) fun _ _ _ => False) :
    codeAny (model P w) callerA (.call (.ref fa) ⟨[.ref a], []⟩) (fun r s' => r = .ok (.ret (.bool true)) ∧ OldK s₁.heap s'.heap ∧ s'.os = s₁.os ∧ AllBare s'.gens) s₁ := by
  have rv := vals_ints hi; have lenV := hi.length
  have core : ∀ H : Hp, Only H → SqL K H a (ns.map V.int) → HOk P w H s₁.heap → (∀ b, H b ≠ none → b = a) → (H a ≠ none → K.lookup a = none) → codeAny (model P w) callerA (.call (.ref fa) ⟨[.ref a], []⟩)
      (fun r s' => r = .ok (.ret (.bool true)) ∧ OldK s₁.heap s'.heap ∧ s'.os = s₁.os ∧ AllBare s'.gens) s₁ := by
    intro H hO hS hok hA hK
    have noA : ∀ {b : Addr} {o : Obj} {es : Array DictEntry} {ep : Nat}, s₁.heap.get? b = some o → o.data = .dict es ep → H b = none := by
      intro b o es ep e d
      cases q : H b with
      | none => rfl
      | some u =>
        have e' : b = a := hA b (by rw [q]; simp)
        subst e'; rw [ha] at e; cases e
        exact absurd (show Data.seq vs.toArray _ = Data.dict es ep from d) (by simp)
    have nsK : ∀ {b : Addr} {m : Str → Option Value}, s₁.heap.Ns b m → (hidT s₁.heap H).Ns b m := by
      intro b m hm
      obtain ⟨o, es, ep, e, d, r⟩ := hm
      exact ⟨o, es, ep, hidT_get e (noA e d), d, r⟩
    have hKb : K.In (hidT s₁.heap H) := by
      intro b o e
      refine hidT_get (KX b o e) ?_
      cases q : H b with
      | none => rfl
      | some u =>
        have e' : b = a := hA b (by rw [q]; simp)
        subst e'; rw [hK (by rw [q]; simp)] at e; cases e
    have hM : Mod K mg (hidT s₁.heap H) := by
      obtain ⟨mc, c1, c2⟩ := hlim
      exact ⟨hKb, nsK hns, ⟨mb, nsK hb, hbb⟩, ⟨mc, nsK c1, c2⟩⟩
    have e0 : Env0 P w K mg (hidT s₁.heap H) callerA [] s₁ H := by
      refine ⟨rfl, hM, fun b o e => of_hidT e, Nat.le_of_eq (hidT_size _ _), trivial, fun b hb => ?_, hok, .of_eq hg⟩
      exact absurd (show b ∈ ([] : List Addr) from hb) (by simp)
    refine codeAny_mono ((F _ hKb (nsK hns)).run callerA [] s₁ H ⟨[.ref a], []⟩ [.ref a] [.ref a] _ _ rfl hr e0 (hbind s₁ (.ref a)) (.cons rfl .nil) (hsp H hO hS)) fun r s' h => ?_
    cases r with
    | error e => exact False.elim h
    | ok fl =>
      cases fl with
      | next => exact False.elim h
      | brk => exact False.elim h
      | cont => exact False.elim h
      | ret u =>
        obtain ⟨v, H', os, bare, un, hok', r', q⟩ := h
        have q' : v = .bl true := q
        subst q'
        obtain rfl : u = Value.bool true := r'
        refine ⟨rfl, OldK.of_keep fun b o e => ?_, os, bare⟩
        cases q : H b with
        | none => exact un.keep b o e q (by intro z; exact absurd (show b ∈ ([] : List Addr) from z) (by simp)) (by simp)
        | some u =>
          rcases hO b with z | ⟨ob, xs, z⟩
          · rw [q] at z; cases z
          · have z2 := un.frzs b ob _ z
            obtain ⟨e1, _⟩ := hok b _ z; obtain ⟨e2, _⟩ := hok' b _ z2
            rw [e] at e1; cases e1; exact e2
  cases hk : K.lookup a with
  | some o =>
    have e := KX a o hk
    rw [ha] at e; cases e
    refine core (fun _ => none) (fun _ => .inl rfl) ?_ (fun b u z => nomatch z) (fun b z => absurd rfl z) fun z => absurd rfl z
    exact .inr ⟨_, vs.toArray, _, hk, rfl, rfl, rfl, by rw [List.size_toArray, lenV]; exact hl, by simpa using rv⟩
  | none =>
    refine core (fun b => if b = a then some (.frz { cls := .type "list", data := .seq vs.toArray } (.lst (ns.map V.int))) else none) (fun b => ?_) (.inl (.inr ⟨_, if_pos rfl⟩)) (fun b u z => ?_) (fun b z => ?_) fun _ => hk
    · by_cases hb : b = a
      · exact .inr ⟨_, _, if_pos hb⟩
      · exact .inl (if_neg hb)
    · by_cases hb : b = a
      · have z' := (if_pos hb).symm.trans z
        cases z'; subst hb
        exact ⟨ha, by rw [List.length_map]; exact hl, vs, _, rv, ha⟩
      · have z' := (if_neg hb).symm.trans z
        cases z'
    · by_cases hb : b = a
      · exact hb
      · exact absurd (if_neg hb) z
theorem walkG {l : PySem.W.OpenLaw} {n k : Nat} {q : Program} {loose : List Str} {XP : (Str → Option Value) → Heap → Prop} {YP : World → Heap → Prop} {d : DefRec} {K : Params → PySem.W.Frag} {sp : PySem.W.Frag → Sp} {x : Str}
    (hn : l.most = some n) (hn2 : n ≤ sizeLine) (hdf : d.params.defaults = []) (hr : Room k callerA) (hY : ∀ (w : World) (h : Heap), YP w h → (K w.params).In h)
    (F : ∀ (w : World) (mg : Str → Option Value) (fa : Addr) (h : Heap), (K w.params).In h → h.Ns mainGlobals mg → mg d.name = some (.ref fa) →
      ∃ fd : FuncData, (∀ (s : Shared) (u : Value), BindsTo s fd ⟨[u], []⟩ [(x, u)]) ∧ ∀ base : Heap, (K w.params).In base → base.Ns mainGlobals mg → FnG l.prog w (K w.params) mg base k fa fd [x] (sp (K w.params)))
    (hsp : ∀ (K : PySem.W.Frag) (H : Hp) (a : Addr) (ns : List Int), ns.length ≤ n → Only H → SqL K H a (ns.map V.int) → sp K [.ref a] H (fun v _ => v = .bl true) fun _ _ _ => False) :
    PySem.W.WalkO q loose XP YP l.row.toRowW d [] (fun f vs => PySem.call f vs) := by
  refine Att.attach_call hn hdf fun w s₀ s₁ mg mb fa o pm cd doc a vs ns G Y ho hd hcd hmg hobj hints hlen hg => ?_
  have KX := hY w _ Y
  obtain ⟨fd, hb, hF⟩ := F w mg fa _ KX G.T.g hmg
  exact law_callG KX G.T.g G.T.b G.T.builtins G.T.nolimit hg hobj hints (Nat.le_trans hlen hn2) hr hF hb fun H hO hS => hsp (K w.params) H a ns hlen hO hS
/-! ### repr of data -/
def tRep (K : PySem.W.Frag) (te : TE) : TE := fun σ H Q => te σ H fun x H1 => ∃ a d, x = .ref a ∧ Dp K H1 x d ∧ d.showable = true ∧ d.hasDict = false ∧ d.depth ≤ 50 ∧ d.shown.length ≤ sizeLine ∧ Q (.str d.shown) H1
theorem pe_rep {X : Cx} {k : Nat} {e : Expr} {te : TE} {p pos : Pos} (hG : X.A.guards = some []) (hr : Room k X.A) (hg : Gl X "repr") (hm : X.mg "repr" = none) (hb : bootBuiltins "repr" = some (.builtin "repr")) (ha : PE X e te)
    (he : starEach [e] X.env = (false, eval e X.env) :: starEach [] X.env := by rfl) : PE X (.Call (.Name "repr" p) [e] [] pos) (tRep X.K te) := by
  refine ⟨fun pins s σ H Q I h => wpAny_Call_Name_kw (ld_blt I hg hm hb ?_)⟩
  refine PyProof.Rows.callWith_builtin1 (args_cons (thn (ha.run pins s σ H _ I h) fun u s1 ⟨v, H1, I1, r1, q1⟩ => args_nil ?_) he) he rfl
  obtain ⟨a, d, ex, hd, hs, hno, hdp, hz, q⟩ := q1
  subst ex
  obtain ⟨as, rd⟩ := Dp.reads I1 d _ u hd r1
  cases (show u = Value.ref a from r1)
  have hu := hr.un
  refine repr_of_reads' rd hs (fun z => absurd z (by rw [hno]; decide)) hG (by omega) (fun b o e => e) (fun h' u tk hk => ?_) hz
  exact ⟨.str d.shown, H1, I1.kept hk, ⟨_, rfl⟩, q⟩
end XL
namespace XL
open PySem PySem.Spec PyProof.Rows L2
def topS (i : Nat) : Stmt := PySem.Challenge.pw_crosslocks_k36_canals_as_texts.main.body.getD i (.Pass ⟨0, 0, 0, 0⟩)
abbrev sTake : Stmt := topS 24
abbrev sOf : Stmt := topS 26
theorem atI_int {α : Type} {xs : List α} {i : Int} {v : α} (h0 : 0 ≤ i) (h : xs[i.toNat]? = some v) : atI xs i = some v := by
  have q := atI_nat h
  rwa [show ((i.toNat : Nat) : Int) = i by omega] at q
/-! ### the box: a list of three numbers -/
def Bx (H : Hp) (b : Addr) : Prop := ∃ x y z : Int, H b = some (.lst [.int x, .int y, .int z])
/-- all that was tracked but the box is as it was, the box is a box -/
structure Dr (b : Addr) (H H' : Hp) : Prop where
  box : Bx H' b
  same : ∀ a o, a ≠ b → H a = some o → H' a = some o
theorem Dr.refl {b : Addr} {H : Hp} (h : Bx H b) : Dr b H H := ⟨h, fun _ _ _ e => e⟩
theorem Dr.trans {b : Addr} {H H1 H2 : Hp} (p : Dr b H H1) (q : Dr b H1 H2) : Dr b H H2 := ⟨q.box, fun a o n e => q.same a o n (p.same a o n e)⟩
theorem Dr.new {b p : Addr} {H : Hp} {o : HO} (h : Bx H b) (n : H p = none) : Dr b H (upd H p o) := by
  obtain ⟨x, y, z, e⟩ := h
  exact ⟨⟨x, y, z, same_new n b _ e⟩, fun a o _ e => same_new n a o e⟩
theorem Dr.put {b : Addr} {H : Hp} {x y z : Int} : Dr b H (upd H b (.lst [.int x, .int y, .int z])) := ⟨⟨x, y, z, upd_same⟩, fun a o n e => by rw [upd_ne n]; exact e⟩
theorem Dr.of {b : Addr} {H H' : Hp} (h : Bx H b) (s : Same H H') : Dr b H H' := by
  obtain ⟨x, y, z, e⟩ := h
  exact ⟨⟨x, y, z, s _ _ e⟩, fun a o _ e => s a o e⟩
section
variable {P : Program} {w : World} {K : PySem.W.Frag} {mg : Str → Option Value} {base : Heap}
/-! ### _law_take -/
theorem scTake : FnScope ["_law_box_here", "_law_size", "_law_found", "_law_blend"] ["_law_box_here", "_law_size"] (defScope sTake) := ⟨rfl, rfl, rfl, by decide +kernel, rfl, by decide +kernel, by decide +kernel⟩
def spTake : Sp := fun vs H Q _ => ∃ (b : Addr) (n : Int), vs = [.ref b, .int n] ∧ Bx H b ∧ 0 < n ∧ n < 10000000000000 ∧ ∀ (v : Int) (H' : Hp), 0 ≤ v → v < n → Dr b H H' → Q (.int v) H'
theorem fmod_lt {a n : Int} (h : 0 < n) : 0 ≤ a.fmod n ∧ a.fmod n < n := by
  rw [Int.fmod_eq_emod_of_nonneg _ (Int.le_of_lt h)]
  exact ⟨Int.emod_nonneg _ (by omega), Int.emod_lt_of_pos _ h⟩
theorem div_log {n : Int} (h0 : 0 < n) (h1 : n < 10000000000000) : n.natAbs.log2 < 9000 := by
  have : n.natAbs.log2 < 44 := (Nat.log2_lt (by omega)).mpr (Nat.lt_trans (m := 10000000000000) (by omega) (by decide))
  omega
theorem ok_take {f : Addr} {fd : FuncData} {k : Nat} (F : Fun K "_law_take" "_law_take" sTake f fd) : FnOk P w K mg base CX0 (k + 1) f fd ["_law_box_here", "_law_size"] spTake := by
  refine F.ok scTake (fun vs H Q E h => ?_) (fun cdv A outer s H vs Q E hr h => ?_)
  · obtain ⟨b, n, rfl, _⟩ := h
    rfl
  obtain ⟨b, n, rfl, ⟨x, y, z, eb⟩, h0, h1, q⟩ := h
  refine ⟨_, pss_cons (ps_if (pt_cmpR op_gt (pe_ix ix_list (pv 0) pe_int (fun _ _ => rfl)) pe_int (nomark _))
      (pss_cons (ps_set (i := 2) scTake.nd rfl (.inl rfl) (pe_op op_modN (pe_ix ix_list (pv 0) pe_int (fun _ _ => rfl)) (pv 1)))
      (pss_cons (ps_asg (pe_op op_fdivW (pe_ix ix_list (pv 0) pe_int (fun _ _ => rfl)) (pv 1)) (pg_sub (pv 0) pe_int set_list))
      (pss_one (ps_ret (pv 2))))) pss_nil)
    (pss_cons (ps_asg (pe_op op_add (pe_ix ix_list (pv 0) pe_int (fun _ _ => rfl)) pe_int) (pg_sub (pv 0) pe_int set_list))
    (pss_cons (ps_set (i := 3) scTake.nd rfl (.inl rfl) (pe_op op_modN (pe_op op_add (pe_ix ix_list (pv 0) pe_int (fun _ _ => rfl)) (pe_op op_mul pe_int (pe_ix ix_list (pv 0) pe_int (fun _ _ => rfl)))) pe_int))
    (pss_cons (ps_set (i := 3) scTake.nd rfl (.inl rfl) (pe_op op_modN (pe_op op_add (pe_op op_add (pe_op op_mul (pv 3) (pv 3)) (pe_op op_mul pe_int (pe_ix ix_list (pv 0) pe_int (fun _ _ => rfl)))) pe_int) pe_int))
    (pss_cons (ps_set (i := 3) scTake.nd rfl (.inl rfl) (pe_op op_modN (pe_op op_add (pe_op op_mul (pv 3) (pe_op op_add (pe_op op_fdivN (pv 3) pe_int) pe_int)) (pe_ix ix_list (pv 0) pe_int (fun _ _ => rfl))) pe_int))
    (pss_one (ps_ret (pe_op op_modN (pe_op op_fdivN (pv 3) pe_int) (pv 1)))))))), ?_⟩
  have sq : SqL K H b [.int x, .int y, .int z] := SqL.of eb
  -- box[0] > 0
  refine ⟨_, rfl, b, _, _, _, rfl, rfl, sq, rfl, _, _, rfl, rfl, _, rfl, ite2 (fun c => ?_) (fun c => ?_)⟩
  · refine ⟨_, rfl, b, _, _, _, rfl, rfl, sq, rfl, _, rfl, _, _, rfl, rfl, by omega, ?_⟩
    refine ⟨_, rfl, b, _, _, _, rfl, rfl, sq, rfl, _, rfl, _, _, rfl, rfl, ⟨h0, div_log h0 h1⟩, ?_⟩
    refine ⟨_, rfl, b, _, _, 0, rfl, rfl, eb, rfl, ?_⟩
    refine ⟨_, rfl, ?_⟩
    exact q _ _ (fmod_lt h0).1 (fmod_lt h0).2 Dr.put
  · refine ⟨_, rfl, b, _, _, _, rfl, rfl, sq, rfl, _, _, rfl, rfl, ?_⟩
    refine ⟨_, rfl, b, _, _, 2, rfl, rfl, eb, rfl, ?_⟩
    have sq2 : SqL K (upd H b (.lst [.int x, .int y, .int (z + 1)])) b [.int x, .int y, .int (z + 1)] := SqL.of upd_same
    refine ⟨_, rfl, b, _, _, _, rfl, rfl, sq2, rfl, _, rfl, b, _, _, _, rfl, rfl, sq2, rfl, _, _, rfl, rfl, .inl ⟨by decide, by decide⟩, _, _, rfl, rfl, _, _, rfl, rfl, (by show (2305843009213693951 : Int) ≠ 0; decide), ?_⟩
    have m1 := fmod_lt (a := y + 1442695040888963407 * (z + 1)) (n := 2305843009213693951) (by decide)
    refine ⟨_, rfl, _, rfl, _, _, rfl, rfl, .inl ⟨by omega, by omega⟩, _, rfl, b, _, _, _, rfl, rfl, sq2, rfl, _, _, rfl, rfl, .inl ⟨by decide, by decide⟩, _, _, rfl, rfl, _, _, rfl, rfl, _, _, rfl, rfl, (by show (2305843009213693921 : Int) ≠ 0; decide), ?_⟩
    have m2 := fmod_lt (a := (y + 1442695040888963407 * (z + 1)).fmod 2305843009213693951 * (y + 1442695040888963407 * (z + 1)).fmod 2305843009213693951 + 39373 * (z + 1) + 7) (n := 2305843009213693921) (by decide)
    refine ⟨_, rfl, _, rfl, _, _, rfl, rfl, ⟨by decide, by decide⟩, _, _, rfl, rfl, _, _, rfl, rfl, .inl ⟨by omega, by omega⟩, _, rfl, b, _, _, _, rfl, rfl, sq2, rfl, _, _, rfl, rfl, _, _, rfl, rfl, (by show (2305843009213693907 : Int) ≠ 0; decide), ?_⟩
    refine ⟨_, rfl, _, _, rfl, rfl, ⟨by decide, by decide⟩, _, rfl, _, _, rfl, rfl, by omega, ?_⟩
    exact q _ _ (fmod_lt h0).1 (fmod_lt h0).2 Dr.put
/-! ### _law_of -/
theorem scOf : FnScope ["_law_box_here", "_law_some"] ["_law_box_here", "_law_some"] (defScope sOf) := ⟨rfl, rfl, rfl, by decide +kernel, rfl, by decide +kernel, by decide +kernel⟩
def spOf (K : PySem.W.Frag) : Sp := fun vs H Q _ => ∃ (b l : Addr) (xs : List V), vs = [.ref b, .ref l] ∧ Bx H b ∧ l ≠ b ∧ SqL K H l xs ∧ xs ≠ [] ∧ xs.length < 1000 ∧ ∀ (j : Nat) (v : V) (H' : Hp), xs[j]? = some v → Dr b H H' → Q v H'
theorem Dr.sqL {b a : Addr} {H H' : Hp} {xs : List V} (d : Dr b H H') (n : a ≠ b) (h : SqL K H a xs) : SqL K H' a xs := by
  rcases h with (h | ⟨o, h⟩) | h
  · exact .inl (.inl (d.same _ _ n h))
  · exact .inl (.inr ⟨o, d.same _ _ n h⟩)
  · exact .inr h
theorem Dr.sqT {b a : Addr} {H H' : Hp} {xs : List V} (d : Dr b H H') (n : a ≠ b) (h : SqT K H a xs) : SqT K H' a xs := by
  rcases h with (h | ⟨o, h⟩) | h
  · exact .inl (.inl (d.same _ _ n h))
  · exact .inl (.inr ⟨o, d.same _ _ n h⟩)
  · exact .inr h
theorem ok_of {f ft : Addr} {fd fdt : FuncData} {k : Nat} (F : Fun K "_law_of" "_law_of" sOf f fd) (FT : Fun K "_law_take" "_law_take" sTake ft fdt) (bT : Binds K fdt ["_law_box_here", "_law_size"] []) (gT : mg "_law_take" = some (.ref ft)) (ml : mg "len" = none) :
    FnOk P w K mg base CX0 (k + 1 + 1) f fd ["_law_box_here", "_law_some"] (spOf K) := by
  refine F.ok scOf (fun vs H Q E h => ?_) (fun cdv A outer s H vs Q E hr h => ?_)
  · obtain ⟨b, l, xs, rfl, _⟩ := h
    rfl
  obtain ⟨b, l, xs, rfl, hb, hlb, hl, hne, hz, q⟩ := h
  refine ⟨_, pss_one (ps_ret (pe_ix ix_list (pv 1) (pe_call (ok_take (k := k) FT) hr rfl gT FT.kp bT .nil pass0 (pa_cons (pv 0) (pa_cons (pe_callB call_len_seq rfl ml PySem.boot_len (pa_cons (pv 1) pa_nil)) pa_nil))) (fun _ _ => rfl))), ?_⟩
  have hpos : 0 < xs.length := List.length_pos_iff.mpr hne
  refine ⟨_, rfl, _, rfl, _, rfl, l, xs, rfl, .inl hl, b, _, rfl, hb, by omega, by omega, fun v H' v0 v1 d => ?_⟩
  have hj : v.toNat < xs.length := by omega
  have ha : atI xs v = some xs[v.toNat] := atI_int v0 (List.getElem?_eq_getElem hj)
  refine ⟨l, xs, v, _, rfl, rfl, d.sqL hlb hl, ha, ?_⟩
  exact q v.toNat _ _ (List.getElem?_eq_getElem hj) d
end
end XL
namespace XL
open PySem PySem.Spec PyProof.Rows L2
section
variable {K : PySem.W.Frag} {H H' : Hp}
/-! ### data stays -/
mutual
theorem Dp.same (s : Same H H') : ∀ {v : V} (d : PyData), Dp K H v d → Dp K H' v d
  | _, .none, h => by cases h; exact .non
  | _, .bool b, h => by cases h; exact .bl b
  | _, .int i, h => by cases h; exact .int i
  | _, .str x, h => by cases h; exact .str x
  | _, .list ds, h => by
    cases h with
    | lst hs ha => exact .lst (s.seq hs) (DpAll.same s ds ha)
  | _, .tuple ds, h => by
    cases h with
    | tup hs ha => exact .tup (Same.tup s hs) (DpAll.same s ds ha)
  | _, .dict _, h => by cases h
theorem DpAll.same (s : Same H H') : ∀ {vs : List V} (ds : List PyData), DpAll K H vs ds → DpAll K H' vs ds
  | _, [], h => by cases h; exact .nil
  | _, d :: ds, h => by
    cases h with
    | cons h1 h2 => exact .cons (Dp.same s d h1) (DpAll.same s ds h2)
end
theorem DpAll.length : ∀ {vs : List V} {ds : List PyData}, DpAll K H vs ds → vs.length = ds.length
  | _, _, .nil => rfl
  | _, _, .cons _ h => by rw [List.length_cons, List.length_cons, DpAll.length h]
theorem DpAll.get : ∀ {vs : List V} {ds : List PyData} {i : Nat} {v : V}, DpAll K H vs ds → vs[i]? = some v → ∃ d, ds[i]? = some d ∧ Dp K H v d
  | _, _, i, v, .nil, h => by simp at h
  | _, _, 0, v, .cons a _, h => by cases h; exact ⟨_, rfl, a⟩
  | _, _, i + 1, v, .cons _ r, h => DpAll.get r (i := i) h
theorem DpAll.get' : ∀ {vs : List V} {ds : List PyData} {i : Nat} {d : PyData}, DpAll K H vs ds → ds[i]? = some d → ∃ v, vs[i]? = some v ∧ Dp K H v d
  | _, _, i, v, .nil, h => by simp at h
  | _, _, 0, v, .cons a _, h => by cases h; exact ⟨_, rfl, a⟩
  | _, _, i + 1, v, .cons _ r, h => DpAll.get' r (i := i) h
theorem DpAll.app : ∀ {vs ws : List V} {ds es : List PyData}, DpAll K H vs ds → DpAll K H ws es → DpAll K H (vs ++ ws) (ds ++ es)
  | _, _, _, _, .nil, h => h
  | _, _, _, _, .cons a r, h => .cons a (DpAll.app r h)
theorem DpAll.snoc {vs : List V} {v : V} {ds : List PyData} {d : PyData} (a : DpAll K H vs ds) (h : Dp K H v d) : DpAll K H (vs ++ [v]) (ds ++ [d]) := DpAll.app a (.cons h .nil)
/-! ### kinds -/
def isSeq : PyData → Bool
  | .list _ => true
  | .tuple _ => true
  | _ => false
def tyD : PyData → Value
  | .none => .type "NoneType"
  | .bool _ => .type "bool"
  | .int _ => .type "int"
  | .str _ => .type "str"
  | .list _ => .type "list"
  | .tuple _ => .type "tuple"
  | .dict _ => .type "dict"
theorem tyx_of {v : V} {d : PyData} (h : Dp K H v d) : TyX K H v (tyD d) := by
  cases h with
  | non => exact .base .non
  | bl b => exact .base (.bl b)
  | int i => exact .base (.int i)
  | str x => exact .base (.str x)
  | lst hs _ =>
    rcases hs with (hs | ⟨o, hs⟩) | ⟨o, its, n, hk, hc, _⟩
    · exact .base (.lst hs)
    · exact .base (.frz hs)
    · exact .kList hk hc
  | tup hs _ =>
    rcases hs with (hs | ⟨o, hs⟩) | ⟨o, its, n, hk, hc, _⟩
    · exact .base (.tup hs)
    · exact .fTuple hs
    · exact .kTuple hk hc
theorem kit1 {t : String} {u : String} {b : Bool} (h : kitB t u = some b) : PySem.W.kitOne K (.type t) (.type u) = some b := kit_ty h
theorem kit2 {t u v : String} {a b : Bool} (h : kitB t u = some a) (h2 : kitB t v = some b) : PySem.W.kitAny K (.type t) [.type u, .type v] = some (a || b) := by
  refine kitAny_cons (kit_ty h) (fun e => ?_) (fun e => ?_)
  · subst e
    refine kitAny_cons (kit_ty h2) (fun e => ?_) (fun e => ?_)
    · subst e; rfl
    · subst e; rfl
  · subst e; rfl
theorem seq_kit (d : PyData) (h : ∀ kvs, d ≠ .dict kvs) : PySem.W.kitAny K (tyD d) [.type "list", .type "tuple"] = some (isSeq d) := by
  cases d with
  | none => exact kit2 (a := false) (b := false) (by decide +kernel) (by decide +kernel)
  | bool b => exact kit2 (a := false) (b := false) (by decide +kernel) (by decide +kernel)
  | int i => exact kit2 (a := false) (b := false) (by decide +kernel) (by decide +kernel)
  | str x => exact kit2 (a := false) (b := false) (by decide +kernel) (by decide +kernel)
  | list ds => exact kit2 (a := true) (b := false) (by decide +kernel) (by decide +kernel)
  | tuple ds => exact kit2 (a := false) (b := true) (by decide +kernel) (by decide +kernel)
  | dict kvs => exact absurd rfl (h kvs)
theorem Dp.nodict {v : V} {d : PyData} (h : Dp K H v d) : ∀ kvs, d ≠ .dict kvs := fun kvs e => by subst e; cases h
end
/-! ### data of bounded depth and width -/
def okD : Nat → PyData → Prop
  | 0, _ => False
  | n + 1, .list ds => ds.length ≤ 1000 ∧ ∀ d ∈ ds, okD n d
  | n + 1, .tuple ds => ds.length ≤ 1000 ∧ ∀ d ∈ ds, okD n d
  | _ + 1, _ => True
mutual
/-- lists as tuples -/
def tupD : PyData → PyData
  | .list ds => .tuple (tupDs ds)
  | .tuple ds => .tuple (tupDs ds)
  | .none => .none
  | .bool b => .bool b
  | .int i => .int i
  | .str x => .str x
  | .dict k => .dict k
def tupDs : List PyData → List PyData
  | [] => []
  | d :: ds => tupD d :: tupDs ds
end
mutual
/-- tuples as lists -/
def lstD : PyData → PyData
  | .list ds => .list (lstDs ds)
  | .tuple ds => .list (lstDs ds)
  | .none => .none
  | .bool b => .bool b
  | .int i => .int i
  | .str x => .str x
  | .dict k => .dict k
def lstDs : List PyData → List PyData
  | [] => []
  | d :: ds => lstD d :: lstDs ds
end
theorem tupDs_eq : ∀ ds : List PyData, tupDs ds = ds.map tupD
  | [] => rfl
  | d :: ds => by rw [tupDs, tupDs_eq ds]; rfl
theorem lstDs_eq : ∀ ds : List PyData, lstDs ds = ds.map lstD
  | [] => rfl
  | d :: ds => by rw [lstDs, lstDs_eq ds]; rfl
def itemsD : PyData → List PyData
  | .list ds => ds
  | .tuple ds => ds
  | _ => []
theorem seq_of {K : PySem.W.Frag} {H : Hp} {v : V} {d : PyData} (h : Dp K H v d) (hs : isSeq d = true) : ∃ a xs, v = .ref a ∧ Sq2 K H a xs ∧ DpAll K H xs (itemsD d) := by
  cases h with
  | lst h1 h2 => exact ⟨_, _, rfl, .inl h1, h2⟩
  | tup h1 h2 => exact ⟨_, _, rfl, .inr h1, h2⟩
  | _ => simp [isSeq] at hs
theorem okD_items {n : Nat} {d : PyData} (h : okD (n + 1) d) (hs : isSeq d = true) : (∀ e ∈ itemsD d, okD n e) ∧ (itemsD d).length ≤ 1000 := by
  cases d with
  | list ds => exact ⟨h.2, h.1⟩
  | tuple ds => exact ⟨h.2, h.1⟩
  | _ => simp [isSeq] at hs
theorem small {n : Nat} (h : n ≤ 1000) : n ≤ sizeLine := Nat.le_of_lt (small1000 h)
end XL
namespace XL
open PySem PySem.Spec PyProof.Rows L2
/-! ### a list that is hidden while an expression is evaluated -/
theorem same_delH {H : Hp} {D : Addr} {o : HO} : Same (delH H D) (upd H D o) := fun b x e => by
  by_cases hb : b = D
  · rw [hb, delH_same] at e; cases e
  · rw [delH_ne hb] at e; rw [upd_ne hb]; exact e
theorem delH_none {H : Hp} {D : Addr} (h : H D = none) : delH H D = H := by
  funext b
  by_cases hb : b = D
  · rw [hb, delH_same, h]
  · rw [delH_ne hb]
theorem delH_upd {H : Hp} {D : Addr} {o : HO} (h : H D = none) : delH (upd H D o) D = H := delH_new h
theorem upd_upd {H : Hp} {D : Addr} {o o' : HO} : upd (upd H D o) D o' = upd H D o' := by
  funext b
  by_cases hb : b = D
  · rw [hb, upd_same, upd_same]
  · rw [upd_ne hb, upd_ne hb, upd_ne hb]
theorem upd_comm {H : Hp} {D T : Addr} {o o' : HO} (h : T ≠ D) : upd (upd H D o) T o' = upd (upd H T o') D o := by
  funext b
  by_cases hb : b = D
  · rw [hb, upd_same, upd_ne (fun e => h e.symm), upd_same]
  · by_cases hT : b = T
    · rw [hT, upd_same, upd_ne h, upd_same]
    · rw [upd_ne hT, upd_ne hb, upd_ne hb, upd_ne hT]
section
variable {X : Cx} {pins : List (Addr × Obj)} {σ : L2.St} {H : Hp} {s s' : Shared} {D : Addr} {xs : List V}
theorem Inv.hide (I : Inv X pins σ H s) (hD : H D = some (.lst xs)) : ∃ (its : List Value) (n : Nat), Vals xs its ∧ xs.length ≤ sizeLine ∧
    Inv X ((D, { cls := .type "list", dict := none, data := .seq its.toArray n, slots := #[] }) :: pins) σ (delH H D) s := by
  obtain ⟨hz, its, n, rv, ho⟩ := (show ObjOk X.prog X.w H s.heap D (.lst xs) from I.hok D _ hD)
  have ne : ∀ {b : Addr}, H b = none → b ≠ D := fun {b} h e => by rw [e, hD] at h; cases h
  have hN : ∀ {b : Addr}, H b = none → delH H D b = none := fun {b} h => by rw [delH_ne (ne h)]; exact h
  refine ⟨its, n, rv, hz, ⟨I.ok, I.os, I.bare, ⟨I.base.keep, I.base.slot, fun b o e n hx => hN (I.base.free b o e n hx), I.base.there, fun b ys e => ?_, fun b o u e => ?_, fun b ps e => ?_⟩, I.loc, I.cell, hN I.free, fun x c e => hN (I.freeC x c e), fun p hp => ?_, fun b o e => ?_, I.len⟩⟩
  · have q := I.base.tups b ys e
    rw [delH_ne (fun z => by rw [z, hD] at q; cases q)]; exact q
  · have q := I.base.frzs b o u e
    rw [delH_ne (fun z => by rw [z, hD] at q; cases q)]; exact q
  · obtain ⟨m, q⟩ := I.base.tbls b ps e
    exact ⟨m, by rw [delH_ne (fun z => by rw [z, hD] at q; cases q)]; exact q⟩
  · rcases List.mem_append.mp hp with hp | hp
    · obtain ⟨a1, a2, a3⟩ := I.pin p (List.mem_append_left _ hp)
      exact ⟨a1, hN a2, a3⟩
    · rcases List.mem_cons.mp hp with e | hp
      · subst e
        refine ⟨ho, delH_same, fun e => ?_, fun hf => ?_, fun v e => nomatch e⟩
        · have := I.free; rw [show X.env.locals = D from e.symm, hD] at this; cases this
        · obtain ⟨_, o, q, _⟩ := I.ok.funs.mem hf
          have := I.base.free D o q (I.ok.frf D hf) fun z => I.ok.exfs D z hf
          rw [hD] at this; cases this
      · obtain ⟨a1, a2, a3⟩ := I.pin p (List.mem_append_right _ hp)
        exact ⟨a1, hN a2, a3⟩
  · have hb : b ≠ D := fun z => by rw [z, delH_same] at e; cases e
    rw [delH_ne hb] at e
    refine (I.hok b o e).stay (fun c v _ q => q) (fun c q => ?_) fun c ys q => ?_
    · rw [delH_ne (fun z => by rw [z, hD] at q; cases q)]; exact q
    · rw [delH_ne (fun z => by rw [z, hD] at q; cases q)]; exact q
theorem Inv.unhide {H' : Hp} {its : List Value} {n : Nat} (I : Inv X pins σ H s) (hD : H D = some (.lst xs)) (rv : Vals xs its) (hz : xs.length ≤ sizeLine)
    (J : Inv X ((D, { cls := .type "list", dict := none, data := .seq its.toArray n, slots := #[] }) :: pins) σ H' s') : H' D = none ∧ Inv X pins σ (upd H' D (.lst xs)) s' := by
  obtain ⟨ho, hn, _, _, _⟩ := J.pin (D, _) (List.mem_append_right _ (List.mem_cons_self ..))
  have hn' : H' D = none := hn
  have ne : ∀ {b : Addr}, H b = none → b ≠ D := fun {b} h e => by rw [e, hD] at h; cases h
  refine ⟨hn', ⟨J.ok, J.os, J.bare, ⟨J.base.keep, J.base.slot, fun b o e n hx => ?_, J.base.there, fun b ys e => ?_, fun b o u e => ?_, fun b ps e => ?_⟩, J.loc, J.cell, ?_, fun x c e => ?_, fun p hp => ?_, fun b o e => ?_, J.len⟩⟩
  · rw [upd_ne (ne (I.base.free b o e n hx))]; exact J.base.free b o e n hx
  · have q := J.base.tups b ys e
    rw [upd_ne (fun z => by rw [z, hn'] at q; cases q)]; exact q
  · have q := J.base.frzs b o u e
    rw [upd_ne (fun z => by rw [z, hn'] at q; cases q)]; exact q
  · obtain ⟨m, q⟩ := J.base.tbls b ps e
    exact ⟨m, by rw [upd_ne (fun z => by rw [z, hn'] at q; cases q)]; exact q⟩
  · rw [upd_ne (ne I.free)]; exact J.free
  · rw [upd_ne (ne (I.freeC x c e))]; exact J.freeC x c e
  · obtain ⟨_, a0, _⟩ := I.pin p hp
    have hp' : p ∈ X.pn ++ ((D, ({ cls := .type "list", dict := none, data := .seq its.toArray n, slots := #[] } : Obj)) :: pins) := by
      rcases List.mem_append.mp hp with h | h
      · exact List.mem_append_left _ h
      · exact List.mem_append_right _ (List.mem_cons_of_mem _ h)
    obtain ⟨a1, a2, a3⟩ := J.pin p hp'
    exact ⟨a1, by rw [upd_ne (ne a0)]; exact a2, a3⟩
  · by_cases hb : b = D
    · subst hb
      rw [upd_same] at e
      cases e
      exact ⟨hz, its, n, rv, ho⟩
    · rw [upd_ne hb] at e
      refine (J.hok b o e).stay (fun c v _ q => q) (fun c q => ?_) fun c ys q => ?_
      · rw [upd_ne (fun z => by rw [z, hn'] at q; cases q)]; exact q
      · rw [upd_ne (fun z => by rw [z, hn'] at q; cases q)]; exact q
end
/-- e, evaluated while the list at D is hidden -/
def tHide (t : TE) : TE := fun σ H Q => ∃ D xs, H D = some (.lst xs) ∧ t σ (delH H D) fun v H' => H' D = none → Q v (upd H' D (.lst xs))
theorem pe_hide {X : Cx} {e : Expr} {t : TE} (h : PE X e t) : PE X e (tHide t) := by
  refine ⟨fun pins s σ H Q I q => ?_⟩
  obtain ⟨D, xs, hD, q⟩ := q
  obtain ⟨its, n, rv, hz, J⟩ := Inv.hide I hD
  refine thn (h.run _ s σ _ _ J q) fun u s' hu => ?_
  obtain ⟨v, H', J', r, q'⟩ := hu
  obtain ⟨hn, I'⟩ := Inv.unhide I hD rv hz J'
  exact ⟨v, _, I', r, q' hn⟩
theorem wipe_none {σ : L2.St} {i : Nat} : ∀ {vs : List Nat}, i ∈ vs → (wipe σ vs).set i none = wipe σ vs
  | [], h => by simp at h
  | v :: vs, h => by
    show ((wipe σ vs).set v none).set i none = (wipe σ vs).set v none
    by_cases e : i = v
    · rw [e, List.set_set]
    · have h' : i ∈ vs := by rcases List.mem_cons.mp h with q | q; exact absurd q e; exact q
      rw [List.set_comm _ _ (fun q => e q.symm), wipe_none h']
theorem wipe_put {σ : L2.St} {i : Nat} {x : Option V} : ∀ {vs : List Nat}, i ∉ vs → wipe (σ.set i x) vs = (wipe σ vs).set i x
  | [], _ => rfl
  | v :: vs, h => by
    show (wipe (σ.set i x) vs).set v none = ((wipe σ vs).set v none).set i x
    rw [wipe_put (fun q => h (List.mem_cons_of_mem _ q)), List.set_comm _ _ (fun q => h (by rw [q]; exact List.mem_cons_self ..))]
theorem w1 {σ σ' : L2.St} {i : Nat} {x : Option V} {vs : List Nat} (h : i ∈ vs) (e : wipe σ' vs = wipe σ vs) : wipe (σ'.set i x) vs = wipe σ vs := by
  have key : ∀ {vs : List Nat}, i ∈ vs → wipe (σ'.set i x) vs = wipe σ' vs := by
    intro vs h
    induction vs with
    | nil => simp at h
    | cons v vs ih =>
      show (wipe (σ'.set i x) vs).set v none = (wipe σ' vs).set v none
      by_cases hm : i ∈ vs
      · rw [ih hm]
      · have ev : i = v := by rcases List.mem_cons.mp h with q | q; exact q; exact absurd q hm
        rw [wipe_put hm, ← ev, List.set_set]
  rw [key h, e]
theorem w0 {σ : L2.St} {vs : List Nat} : wipe (wipe σ vs) vs = wipe σ vs := by
  have key : ∀ ws : List Nat, (∀ i ∈ ws, i ∈ vs) → wipe (wipe σ vs) ws = wipe σ vs := by
    intro ws
    induction ws with
    | nil => intro _; rfl
    | cons w ws ih =>
      intro h
      show (wipe (wipe σ vs) ws).set w none = wipe σ vs
      rw [ih (fun i hi => h i (List.mem_cons_of_mem _ hi)), wipe_none (h w (List.mem_cons_self ..))]
  exact key vs fun i h => h
/-- a comprehension that makes one value a turn -/
theorem lc_map {J : It} {n : Nat} {G : Hp → Prop} {Y : Nat → Hp → V → Hp → Prop} (w : Walk J n G Y) (Rl : Hp → Hp → Prop) (tr : ∀ {A B C}, Rl A B → Rl B C → Rl A C)
    (R : Nat → V → Hp → Prop) (st : ∀ i y A B, Rl A B → R i y A → R i y B) {g : TG} {t : TE} {vs : List Nat} {σ : L2.St} {H1 : Hp} {Qd : Addr → Hp → Prop} (hz : n < sizeLine)
    (rf : Rl H1 H1) (hG : ∀ F D acc, Rl H1 F → F D = none → G (upd F D (.lst acc)))
    (hs : ∀ i x D acc F H', i < n → H1 D = none → Rl H1 F → F D = none → Y i (upd F D (.lst acc)) x H' → ∀ B : L2.St → Hp → Prop, (∀ σ2 Fm, wipe σ2 vs = wipe σ vs → Fm D = none →
      (∀ Qt : VK, (∀ y F', Rl F F' → R i y F' → Qt y F') → t σ2 Fm Qt) → B σ2 (upd Fm D (.lst acc))) → g x (wipe σ vs) H' B)
    (hd : ∀ D ys F, H1 D = none → Rl H1 F → F D = none → ys.length = n → (∀ (i : Nat) y, ys[i]? = some y → R i y F) → Qd D (upd F D (.lst ys))) :
    ∀ D, H1 D = none → ∃ W : Nat → Nat → Hp → Prop, (∃ m, W 0 m (upd H1 D (.lst []))) ∧ ∀ i m H, W i m H →
      (J.stop i H ∧ Qd D H) ∨ (J.go i H ∧ ∃ Nx : Hp → Prop, (∀ H', Nx H' → ∃ m', m' < m ∧ W (i + 1) m' H') ∧ ∀ x H', J.yld i H x H' → g x (wipe σ vs) H' fun σ2 H2 => wipe σ2 vs = wipe σ vs ∧ tYes σ2 H2 fun b H3 =>
        if b = true then tHide t σ2 H3 fun y H4 => ∃ acc, H4 D = some (.lst acc) ∧ acc.length < sizeLine ∧ Nx (upd H4 D (.lst (acc ++ [y]))) else Nx H3) := by
  intro D nD
  refine lc_it w (fun i H => ∃ ys F, H = upd F D (.lst ys) ∧ F D = none ∧ Rl H1 F ∧ ys.length = i ∧ ∀ (j : Nat) y, ys[j]? = some y → R j y F) ⟨[], H1, rfl, nD, rf, rfl, fun j y e => by simp at e⟩ ?_ ?_ ?_
  · rintro i H _ ⟨ys, F, rfl, nF, rl, _, _⟩
    exact hG F D ys rl nF
  · rintro i x H H' hi ⟨ys, F, rfl, nF, rl, hl, hR⟩ hy
    refine hs i x D ys F H' hi nD rl nF hy _ fun σ2 Fm hw nm ht => ⟨hw, ?_⟩
    unfold tYes; dsimp only
    rw [if_pos rfl]
    refine ⟨D, ys, upd_same, ?_⟩
    rw [delH_upd nm]
    refine ht _ fun y F' rl' r nF' => ⟨ys, upd_same, by omega, ys ++ [y], F', upd_upd, nF', tr rl rl', by rw [List.length_append, hl]; rfl, fun j z e => ?_⟩
    by_cases hj : j < ys.length
    · rw [List.getElem?_append_left hj] at e
      exact st j z F F' rl' (hR j z e)
    · rw [List.getElem?_append_right (by omega)] at e
      have hj0 : j - ys.length = 0 := by
        rcases Nat.eq_zero_or_pos (j - ys.length) with q | q
        · exact q
        · rw [List.getElem?_eq_none (by simp; omega)] at e; cases e
      rw [hj0] at e
      have e' : y = z := by simpa using e
      have ej : j = i := by omega
      rw [← e', ej]; exact r
  · rintro H ⟨ys, F, rfl, nF, rl, hl, hR⟩
    exact hd D ys F nD rl nF hl hR
/-! ### what is walked: a list or a tuple -/
def iSeq (K : PySem.W.Frag) (tl : TE) : TI := fun σ H R => tl σ H fun x H1 => ∃ a xs, x = .ref a ∧ Sq2 K H1 a xs ∧ ∀ J, Walk J xs.length (fun H => (¬ SqT K H1 a xs → SqL K H1 a xs → SqL K H a xs) ∧ (SqT K H1 a xs → SqT K H a xs)) (YAt xs) → R J H1
theorem pi_seq {X : Cx} {tg l : Expr} {tl : TE} (hl : PE X l tl) : PI X tg l (iSeq X.K tl) := by
  refine ⟨fun pins s σ H R I h => ?_⟩
  refine thn (hl.run pins s σ H _ I h) fun v s1 ⟨x, H1, I1, r1, q1⟩ => ?_
  obtain ⟨a, xs, e, hq, q⟩ := q1
  subst e
  cases r1
  have fp : ∀ b ∈ [s1.heap.objs.size], FpOk X pins H1 b := fun b hb => by
    have e : b = s1.heap.objs.size := by simpa using hb
    subst e
    exact I1.fpOk (Nat.le_refl _) (I1.hok.fresh (Nat.le_refl _))
  by_cases hT : SqT X.K H1 a xs
  rotate_left
  · have hq : SqL X.K H1 a xs := hq.resolve_right hT
    obtain ⟨its, rv, p, hz⟩ := I1.list hq
    refine wpAny_pyIter_list p.isList ⟨s1.heap.objs.size, [s1.heap.objs.size], _, _, H1, rfl, I1.kept (t' := s1.toks) fun b o e => Heap.get?_push_of_some _ e, turn_list a _, ⟨_, Heap.get?_push_size _ rfl, rfl, rfl⟩, fp, q (Itl X.K a) ?_⟩
    exact (walk_list (K := X.K) (a := a) (xs := xs)).mono (fun H g => g.1 hT hq) fun i H x H' _ _ y => y
  · obtain ⟨its, rv, p, hz⟩ := I1.tuple hT
    refine wpAny_pyIter_tuple (show s1.heap.IsTuple a its.toArray from p) ⟨s1.heap.objs.size, [s1.heap.objs.size], _, _, H1, rfl, I1.kept (t' := s1.toks) fun b o e => Heap.get?_push_of_some _ e, turn_tuple a _, ⟨_, Heap.get?_push_size _ rfl, rfl, rfl⟩, fp, q (Itt X.K a) ?_⟩
    exact (walk_tup (K := X.K) (a := a) (xs := xs)).mono (fun H g => g.2 hT) fun i H x H' _ _ y => y
/-- a, b, .. = a list or a tuple -/
def gAny (K : PySem.W.Frag) (n : Nat) (t : TGs) : TG := fun v σ H Q => ∃ a xs, v = .ref a ∧ Sq2 K H a xs ∧ xs.length = n ∧ t xs σ H Q
theorem pg_any {X : Cx} {es : List Expr} {k : Nat} {pos : Pos} {t : TGs} {n : Nat} (hc : X.calm = true) (h : PGs X es t)
    (hn : (assignEach es X.env).length = n := by rfl) (hst : (assignEach es X.env).findIdx? (·.1) = none := by rfl) : PG X (.Tuple es k pos) (gAny X.K n t) := by
  refine ⟨fun pins s σ H v u Q I r hw => ?_⟩
  obtain ⟨a, xs, e, hq, hl, hw⟩ := hw
  rcases hq with hq | hq
  · exact (pg_unl hc h hn hst).run pins s σ H v u Q I r ⟨a, xs, e, hq, hl, hw⟩
  · exact (pg_tup hc h hn hst).run pins s σ H v u Q I r ⟨a, xs, e, hq, hl, hw⟩
end XL
namespace XL
open PySem PySem.Spec PyProof.Rows L2
abbrev sLists : Stmt := topS 28
theorem boot_isinstance : bootBuiltins "isinstance" = some (.builtin "isinstance") := by decide +kernel
section
variable {P : Program} {w : World} {K : PySem.W.Frag} {mg : Str → Option Value} {base : Heap}
theorem no_fn {f : Addr} {fd : FuncData} {ps : List Str} {sp : Sp} (no : ∀ vs H Q E, ¬ sp vs H Q E) : FnOk P w K mg base CX0 0 f fd ps sp :=
  ⟨fun vs H Q E h => absurd h (no vs H Q E), fun A outer s H args us vs Q E _ _ _ _ h => absurd h (no vs H Q E)⟩
/-- the values of a list of data, mapped -/
theorem dpall_of {F : Hp} {f : PyData → PyData} : ∀ {ys : List V} {ds : List PyData}, ys.length = ds.length → (∀ (i : Nat) y, ys[i]? = some y → ∃ d, ds[i]? = some d ∧ Dp K F y (f d)) → DpAll K F ys (ds.map f)
  | [], [], _, _ => .nil
  | [], _ :: _, h, _ => by simp at h
  | _ :: _, [], h, _ => by simp at h
  | y :: ys, d :: ds, h, hi => by
    obtain ⟨d', e, p⟩ := hi 0 y rfl
    have e' : d = d' := by simpa using e
    subst e'
    exact .cons p (dpall_of (by simpa using h) fun i z q => by
      have := hi (i + 1) z (by simpa using q)
      simpa using this)
/-! ### _law_lists -/
theorem scLists : FnScope ["_law_what", "_law_part"] ["_law_what"] (defScope sLists) := ⟨rfl, rfl, rfl, by decide +kernel, rfl, by decide +kernel, by decide +kernel⟩
def spLists (K : PySem.W.Frag) (n : Nat) : Sp := fun vs H Q _ => ∃ (v : V) (d : PyData), vs = [v] ∧ Dp K H v d ∧ okD n d ∧ ∀ (v' : V) (H' : Hp), Same H H' → Dp K H' v' (lstD d) → Q v' H'
theorem ok_lists {f : Addr} {fd : FuncData} (F : Fun K "_law_lists" "_law_lists" sLists f fd) (b : Binds K fd ["_law_what"] []) (gF : mg "_law_lists" = some (.ref f)) (mi : mg "isinstance" = none) (ml : mg "list" = none) (mt : mg "tuple" = none) :
    ∀ n : Nat, FnOk P w K mg base CX0 n f fd ["_law_what"] (spLists K n)
  | 0 => no_fn fun vs H Q E ⟨v, d, _, _, h, _⟩ => h
  | n + 1 => by
    have G := ok_lists F b gF mi ml mt n
    refine F.ok scLists (fun vs H Q E h => ?_) (fun cdv A outer s H vs Q E hr h => ?_)
    · obtain ⟨v, d, rfl, _⟩ := h
      rfl
    obtain ⟨v, d, rfl, hd, ok, q⟩ := h
    refine ⟨_, pss_one (ps_ret (pe_ifExp (pt_val (pe_callB call_isiT rfl mi boot_isinstance (pa_cons (pv 0) (pa_cons (pe_tup (pa_cons (pe_bltn (v := .ty "list") rfl ml boot_list rfl) (pa_cons (pe_bltn (v := .ty "tuple") rfl mt boot_tuple rfl) pa_nil))) pa_nil))))
        (pe_lc (own := [("_law_part", 1)]) (g := gName 1) (tt := tYes) rfl scLists.nd (pi_seq (pv 0)) (blkOk_by (own := [("_law_part", 1)]) (N := ["_law_what", "_law_part"]) (sc := defScope sLists) (by decide +kernel))
          (fun _ _ _ _ _ => pg_name (i := 1) scLists.nd rfl (Or.inl rfl)) (fun _ _ _ _ _ => pts_nil) (fun _ _ _ _ _ => pe_hide (pe_call G hr rfl gF F.kp b .nil pass0 (pa_cons (pv 1) pa_nil)))) (pv 0))), ?_⟩
    refine ⟨_, rfl, (by show 2 ≤ sizeLine; decide), fun tp np => ?_⟩
    have s1 : Same H (upd H tp (.tup [.ty "list", .ty "tuple"])) := same_new np
    refine ⟨v, tp, _, tyD d, _, isSeq d, rfl, upd_same, .cons (.ty _) (.cons (.ty _) .nil), tyx_of (Dp.same s1 d hd), seq_kit d (Dp.nodict hd), isSeq d, rfl, ?_⟩
    cases hsq : isSeq d with
    | false =>
      refine iteF ⟨_, rfl, ?_⟩
      have e : lstD d = d := by cases d <;> first | rfl | (simp [isSeq] at hsq)
      exact q _ _ s1 (by rw [e]; exact Dp.same s1 d hd)
    | true =>
      obtain ⟨a, xs, ds, rfl, hs, hall, het, hok, hlen⟩ : ∃ a xs ds, v = .ref a ∧ Sq2 K H a xs ∧ DpAll K H xs ds ∧ lstD d = .list (ds.map lstD) ∧ (∀ e ∈ ds, okD n e) ∧ ds.length ≤ 1000 := by
        cases hd with
        | lst h1 h2 => exact ⟨_, _, _, rfl, .inl h1, h2, by rw [lstD, lstDs_eq], ok.2, ok.1⟩
        | tup h1 h2 => exact ⟨_, _, _, rfl, .inr h1, h2, by rw [lstD, lstDs_eq], ok.2, ok.1⟩
        | _ => simp [isSeq] at hsq
      have hxl : xs.length = ds.length := DpAll.length hall
      refine iteT ⟨_, rfl, a, xs, rfl, Same.sq2 s1 hs, fun J wk => lc_map wk Same (fun a b => a.trans b) (fun i y F => ∃ d, ds[i]? = some d ∧ Dp K F y (lstD d)) (fun i y A B s ⟨d, e, p⟩ => ⟨d, e, Dp.same s _ p⟩) (by rw [hxl]; exact small1000 hlen) (Same.refl _) (fun F D acc sF nF => ?_) (fun i x D acc F H' hi nD sF nF hy B hB => ?_) (fun D ys F nD sF nF hl hR => ?_)⟩
      · have sD : Same _ (upd F D (.lst acc)) := sF.trans (same_new nF)
        exact ⟨fun _ z => sD.seq z, fun z => Same.tup sD z⟩
      · obtain ⟨rfl, hx⟩ := hy
        obtain ⟨e, he, hp⟩ := DpAll.get hall hx
        refine hB _ F rfl nF fun Qt hq => ?_
        refine ⟨x, rfl, x, e, rfl, Dp.same (s1.trans sF) e hp, hok e (List.mem_of_getElem? he), fun v' H' s' p' => hq _ _ s' ⟨e, he, p'⟩⟩
      · have sD : Same F (upd F D (.lst ys)) := same_new nF
        refine q _ _ (s1.trans (sF.trans sD)) ?_
        rw [het]
        exact .lst (SqL.of upd_same) (DpAll.same sD _ (dpall_of (by rw [hl, hxl]) hR))
end
end XL
namespace XL
open PySem PySem.Spec PyProof.Rows L2
/-! ### data without lists: it stands while tuples stand -/
structure Tp (H H' : Hp) : Prop where
  t : ∀ a xs, H a = some (.tup xs) → H' a = some (.tup xs)
  f : ∀ a o xs, H a = some (.frz o (.tup xs)) → H' a = some (.frz o (.tup xs))
theorem Tp.of {H H' : Hp} (s : Same H H') : Tp H H' := ⟨fun a xs e => s _ _ e, fun a o xs e => s _ _ e⟩
theorem Tp.trans {A B C : Hp} (p : Tp A B) (q : Tp B C) : Tp A C := ⟨fun a xs e => q.t _ _ (p.t _ _ e), fun a o xs e => q.f _ _ _ (p.f _ _ _ e)⟩
theorem Tp.upd {H : Hp} {a : Addr} {xs : List V} {o : HO} (h : H a = some (.lst xs)) : Tp H (upd H a o) :=
  ⟨fun b ys e => by rw [upd_ne (fun z => by rw [z, h] at e; cases e)]; exact e, fun b o' ys e => by rw [upd_ne (fun z => by rw [z, h] at e; cases e)]; exact e⟩
theorem Tp.sqT {K : PySem.W.Frag} {H H' : Hp} {a : Addr} {xs : List V} (p : Tp H H') (h : SqT K H a xs) : SqT K H' a xs := by
  rcases h with (h | ⟨o, h⟩) | h
  · exact .inl (.inl (p.t _ _ h))
  · exact .inl (.inr ⟨o, p.f _ _ _ h⟩)
  · exact .inr h
mutual
def noL : PyData → Bool
  | .list _ => false
  | .tuple ds => noLs ds
  | _ => true
def noLs : List PyData → Bool
  | [] => true
  | d :: ds => noL d && noLs ds
end
section
variable {K : PySem.W.Frag} {H H' : Hp}
mutual
theorem Dp.tp (p : Tp H H') : ∀ {v : V} (d : PyData), noL d = true → Dp K H v d → Dp K H' v d
  | _, .none, _, h => by cases h; exact .non
  | _, .bool b, _, h => by cases h; exact .bl b
  | _, .int i, _, h => by cases h; exact .int i
  | _, .str x, _, h => by cases h; exact .str x
  | _, .list ds, n, h => by simp [noL] at n
  | _, .tuple ds, n, h => by
    cases h with
    | tup hs ha => exact .tup (p.sqT hs) (DpAll.tp p ds (by simpa [noL] using n) ha)
  | _, .dict _, _, h => by cases h
theorem DpAll.tp (p : Tp H H') : ∀ {vs : List V} (ds : List PyData), noLs ds = true → DpAll K H vs ds → DpAll K H' vs ds
  | _, [], _, h => by cases h; exact .nil
  | _, d :: ds, n, h => by
    cases h with
    | cons h1 h2 =>
      rw [noLs, Bool.and_eq_true] at n
      exact .cons (Dp.tp p d n.1 h1) (DpAll.tp p ds n.2 h2)
end
end
/-! ### canals as data -/
abbrev Lk := Int × Int × Int × Int
def lkD (l : Lk) : PyData := .tuple [.int l.1, .int l.2.1, .int l.2.2.1, .int l.2.2.2]
structure Cn where
  r : Int
  b : Int
  ls : List Lk
def cnD (c : Cn) : PyData := .tuple [.int c.r, .int c.b, .tuple (c.ls.map lkD)]
structure okLk (r b : Int) (l : Lk) : Prop where
  a0 : 0 ≤ l.1
  a1 : l.1 < r
  c0 : 0 ≤ l.2.1
  c1 : l.2.1 < r
  x0 : 0 ≤ l.2.2.1
  x1 : l.2.2.1 < b
  y0 : 0 ≤ l.2.2.2
  y1 : l.2.2.2 < b
structure okCn (wide utmost : Nat) (c : Cn) : Prop where
  r1 : 1 ≤ c.r
  r2 : c.r ≤ wide
  b1 : 1 ≤ c.b
  b2 : c.b ≤ wide
  n : c.ls.length ≤ utmost
  l : ∀ l ∈ c.ls, okLk c.r c.b l
theorem noLs_lk : ∀ ls : List Lk, noLs (ls.map lkD) = true
  | [] => rfl
  | l :: ls => by rw [List.map_cons, noLs, noLs_lk ls]; rfl
theorem noL_cn (c : Cn) : noL (cnD c) = true := by
  show noLs [.int c.r, .int c.b, .tuple (c.ls.map lkD)] = true
  simp [noLs, noL, noLs_lk]
theorem lk_lay (l : Lk) : (lkD l).canLay0 = true := by simp [lkD, PyData.canLay0, PyData.canLayAll0]
theorem lk_depth (l : Lk) : (lkD l).depth = 1 := by simp [lkD, PyData.depth, PyData.depthAll]
theorem lks_lay : ∀ ls : List Lk, PyData.canLayAll0 (ls.map lkD) = true
  | [] => by simp [PyData.canLayAll0]
  | l :: ls => by simp [PyData.canLayAll0, lk_lay l, lks_lay ls]
theorem lks_depth : ∀ ls : List Lk, PyData.depthAll (ls.map lkD) ≤ 1
  | [] => by simp [PyData.depthAll]
  | l :: ls => by
    have h1 := lks_depth ls; have h2 := lk_depth l
    simp only [List.map_cons, PyData.depthAll]; omega
theorem lks_shaped (ls : List Lk) : SeqAt.shaped (.list (ls.map lkD)) = true := by
  have h1 := lks_depth ls
  have h2 : PyData.depth (.list (ls.map lkD)) ≤ 64 := by simp only [PyData.depth]; omega
  show (PyData.canLay0 (.list (ls.map lkD)) && decide (PyData.depth (.list (ls.map lkD)) ≤ 64)) = true
  rw [Bool.and_eq_true]; exact ⟨by simp only [PyData.canLay0]; exact lks_lay ls, decide_eq_true h2⟩
theorem nil_shaped : SeqAt.shaped (.list []) = true := lks_shaped []
theorem eqv_nil (ls : List Lk) : PyData.eqv (.list (ls.map lkD)) (.list []) = ls.isEmpty := by
  cases ls with
  | nil => simp [PyData.eqv, PyData.eqvAll]
  | cons l ls => simp [PyData.eqv, PyData.eqvAll]
end XL
namespace PySem
namespace XEn
open Sem (wp)
set_option maxHeartbeats 1000000 in
theorem meets_new1 {v : Value} {o : Obj} {H : Heap → Prop} (B : Begins v o H) :
    Meets (Builtin.«enumerate.__new__» ⟨[.type "enumerate", v], []⟩) (fun _ R s => H s.heap ∧
      R (.ok (.ret (.ref (s.heap.push o).objs.size))) { s with heap := (s.heap.push o).push { cls := .type "enumerate", data := .fields #[.none, .bool false, .ref s.heap.objs.size, rawInt 0, .none, .none] } }) :=
  .of_wp fun prog w A R s h => by
    obtain ⟨hp, g, d, tk, os⟩ := s; obtain ⟨h1, h⟩ := h
    have hsub := sub_enumerate
    have q1 : ∀ {A' : Around} {E : Value → Shared → Prop} {Q : Value → Shared → Prop}, Q (.ref hp.objs.size) ⟨hp.push o, g, d, tk, os⟩ → wpAny (model prog w) A' (pyIter v) Q E ⟨hp, g, d, tk, os⟩ :=
      fun q => B.iter prog w _ _ ⟨hp, g, d, tk, os⟩ _ h1 q
    wp_walk using q1
    refine wpAny_stack_any fun st => wpAny_pure ?_
    split
    · rename_i c _ _ _ _ _
      cases (c == Value.type "enumerate")
      · wp_walk using q1
        exact ⟨_, rfl, h⟩
      · wp_walk using q1
        exact ⟨_, rfl, h⟩
    · wp_walk using q1
      exact ⟨_, rfl, h⟩
section
variable {prog : Program} {w : World} {A : Around} {E : Value → Shared → Prop} {s : Shared}
theorem begins1 {v : Value} {o : Obj} {H : Heap → Prop} {Q : Value → Shared → Prop} (B : Begins v o H) (h1 : H s.heap)
    (h : ∀ h', IsEnum h' (s.heap.objs.size + 1) s.heap.objs.size 0 .none → h'.get? s.heap.objs.size = some o → h'.objs.size = s.heap.objs.size + 2 →
      (∀ b o, s.heap.get? b = some o → h'.get? b = some o) → Q (.ref (s.heap.objs.size + 1)) { s with heap := h' }) :
    wpAny (model prog w) A (call (.type "enumerate") [v]) Q E s := by
  refine callType_new F.called_enumerate (by decide) (F.typeCall_enumerate_1 _) (F.newCall_enumerate_1 _) (fun obj => F.args_object_init_2 obj _) F.entry_enumerate_new
    (meets_new1 B) ⟨h1, ?_⟩
  have hz : (s.heap.push o).objs.size = s.heap.objs.size + 1 := Heap.size_push ..
  show _ ∧ _
  rw [hz]
  have he : IsEnum ((s.heap.push o).push { cls := .type "enumerate", data := .fields #[.none, .bool false, .ref s.heap.objs.size, rawInt 0, .none, .none] }) (s.heap.objs.size + 1) s.heap.objs.size 0 .none := by
    have := Heap.get?_push_size (s.heap.push o) (o := { cls := .type "enumerate", data := .fields #[.none, .bool false, .ref s.heap.objs.size, rawInt 0, .none, .none] }) rfl
    rw [hz] at this; exact this
  refine ⟨⟨_, he, rfl⟩, h _ he (Heap.get?_push_of_some _ (Heap.get?_push_size _ B.free)) (by rw [Heap.size_push, hz]) fun b o x => Heap.get?_push_of_some _ (Heap.get?_push_of_some _ x)⟩
end
end XEn
end PySem
namespace XL
open PySem PySem.Spec PyProof.Rows L2
/-! ### enumerate(tuple) -/
def IteT (K : PySem.W.Frag) (a : Addr) : It :=
  ⟨fun i H => ∃ (xs : List V) (x : V), SqT K H a xs ∧ xs[i]? = some x, fun i H v H' => ∃ T x, v = .ref T ∧ H T = none ∧ H' = upd H T (.tup [.int (i : Nat), x]) ∧ ∀ xs, SqT K H a xs → xs[i]? = some x, fun i H => ∃ xs : List V, SqT K H a xs ∧ xs.length = i⟩
theorem tup_ne {h : Heap} {it a : Addr} {i : Nat} {its : Array Value} (h1 : h.IsTupleIter it a i) (h2 : h.IsTuple a its) : a ≠ it := fun z => by
  obtain ⟨o, e, c, d⟩ := h1
  obtain ⟨o', e', c', _⟩ := h2
  rw [z, e] at e'
  cases e'
  rw [c] at c'
  exact absurd c' (by decide)
theorem turn_enumT {P : Program} {w : World} {K : PySem.W.Frag} {elts : List Expr} {kk : Nat} {tpos : Pos} (a e it : Addr) :
    Turn P w K (.Tuple elts kk tpos) (IteT K a) [e, it] e (fun i h => (∃ old, IsEnum h e it ((i : Nat) : Int) old) ∧ h.IsTupleIter it a i ∧ e ≠ it) where
  mem := by simp
  obj := fun i h st b hb => by
    obtain ⟨⟨old, he⟩, ⟨o, ho, hc, hd⟩, _⟩ := st
    have e' : b = e ∨ b = it := by simpa using hb
    rcases e' with z | z
    · rw [z]; exact ⟨_, he, fun v q => nomatch q⟩
    · rw [z]; exact ⟨o, ho, fun v q => by rw [hd] at q; cases q⟩
  keep := fun i h h' st k => let ⟨⟨old, he⟩, hi, hne⟩ := st; ⟨⟨old, k e (by simp) _ he⟩, hi.at fun o q => k it (by simp) o q, hne⟩
  item := by
    intro X hP hw hK hc i pins s σ H E I hf st hg
    subst hP hw hK
    obtain ⟨⟨old, he⟩, hit, hne⟩ := st
    obtain ⟨xs, x, hq, hx⟩ := hg
    obtain ⟨its, rv, p, hz⟩ := I.tuple hq
    have p' : s.heap.IsTuple a its.toArray := p
    obtain ⟨u, hu, ru⟩ := rv.get hx
    have hel : e < s.heap.objs.size := Heap.lt_size he
    have hil : it < s.heap.objs.size := by obtain ⟨_, q, _⟩ := hit; exact Heap.lt_size q
    have hai := tup_ne hit p'
    have hae : e ∉ [it, a] := by
      intro z
      have z' : e = it ∨ e = a := by simpa using z
      rcases z' with z | z
      · exact hne z
      · obtain ⟨o', e', c', _⟩ := p'
        rw [← z, he] at e'
        cases e'
        exact absurd (show Value.type "enumerate" = Value.type "tuple" from c') (by decide)
    have hi : i < its.toArray.size := by
      rw [List.size_toArray]
      rcases Nat.lt_or_ge i its.length with q | q
      · exact q
      · rw [List.getElem?_eq_none q] at hu; cases hu
    refine wpAny_pyNext_enum_itemD (Draws.tuple (A := X.A.in1) (I.ok.hd hc) it a hai its.toArray) he ⟨hit, p'⟩ hi hne hae fun u' h' tk hu' ho hit' hT hsz hk => ?_
    have eu : u' = u := by
      have h1 : its.toArray[i]? = some u' := hu'
      rw [List.getElem?_toArray, hu] at h1
      exact (Option.some.inj h1).symm
    subst eu
    refine ⟨_, rfl, wpAny_letOwnedTupleGo_enum (s := { s with heap := h', toks := tk + 1 }) ho fun h'' he' sb => ?_⟩
    have hT2 : h''.get? s.heap.objs.size = some { cls := .type "tuple", data := .seq #[.int i tk, u'] } := (sb.2 _ (Nat.ne_of_gt hel)).trans hT
    have new : ObjOk X.prog X.w (upd H s.heap.objs.size (.tup [.int (i : Nat), x])) h'' s.heap.objs.size (.tup [.int (i : Nat), x]) :=
      ⟨by show 2 ≤ sizeLine; decide, [.int i tk, u'], .cons ⟨_, rfl⟩ (.cons ru .nil), ⟨_, hT2, rfl, _, rfl⟩⟩
    have I1 : Inv X pins σ (upd H s.heap.objs.size (.tup [.int (i : Nat), x])) { s with heap := h'', toks := tk + 1 } :=
      I.turnedNew (ch := [e, it]) (fun b ob hb q => (sb.2 b (fun z => hb (by simp [z]))).trans (hk b ob (fun z => hb (by simp [z])) (fun z => hb (by simp [z])) q)) hf (Nat.le_refl _) new
    refine ⟨.ref s.heap.objs.size, _, I1, rfl, ⟨_, x, rfl, I.hok.fresh (Nat.le_refl _), rfl, fun ys hy => by rw [I.tuple_inj hy hq]; exact hx⟩, ⟨⟨u', ?_⟩, hit'.1.at fun o q => (sb.2 it (Ne.symm hne)).trans q, hne⟩, fun b hb => ?_⟩
    · have e1 : ((i + 1 : Nat) : Int) = (i : Int) + 1 := by omega
      rw [e1]; exact he'
    · have hb' : b < s.heap.objs.size := by
        have e' : b = e ∨ b = it := by simpa using hb
        rcases e' with z | z
        · rw [z]; exact hel
        · rw [z]; exact hil
      rw [upd_ne (Nat.ne_of_lt hb')]
      exact (hf b hb).1
  done := by
    intro X hP hw hK hc i pins s σ H E I hf st hg
    subst hP hw hK
    obtain ⟨⟨old, he⟩, hit, hne⟩ := st
    obtain ⟨xs, hq, hx⟩ := hg
    obtain ⟨its, rv, p, hz⟩ := I.tuple hq
    have p' : s.heap.IsTuple a its.toArray := p
    obtain ⟨f0, f1, f2, f3, f4, f5⟩ := hf it (by simp)
    have hl := rv.length
    have hn : i = its.toArray.size := by rw [List.size_toArray]; omega
    subst hn
    exact wpAny_pyNext_enum_endD (Draws.tuple (A := X.A.in1) (I.ok.hd hc) it a (tup_ne hit p') its.toArray) he ⟨hit, p'⟩ fun h' eb => ⟨rfl, I.turned (t' := s.toks) (fun b o hb q => eb b o hb q) f0 f1 f3 f4 f5⟩
  self := fun A i s Q E st h => let ⟨⟨_, he⟩, _⟩ := st; wpAny_pyIter_enum he h
theorem walk_enumT {K : PySem.W.Frag} {a : Addr} {xs : List V} : Walk (IteT K a) xs.length (fun H => SqT K H a xs) (YPair (fun i => some (.int (i : Nat))) (fun i => xs[i]?)) := by
  refine ⟨fun i _ hi q => ⟨xs, xs[i], q, by simp [hi]⟩, fun _ q => ⟨xs, q, rfl⟩, fun i H v H' _ q y => ?_⟩
  obtain ⟨T, x, h1, h2, h3, h4⟩ := y
  exact ⟨T, .int (i : Nat), x, h1, h2, h3, rfl, h4 xs q⟩
def iEnumT (K : PySem.W.Frag) (ta : TA) : TI := fun σ H R => ta σ H fun vs H1 => ∃ a xs, vs = [.ref a] ∧ SqT K H1 a xs ∧ R (IteT K a) H1
theorem pi_enumT {X : Cx} {e : Expr} {ta : TA} {p pos tpos : Pos} {elts : List Expr} {kk : Nat} (hg : Gl X "enumerate") (hm : X.mg "enumerate" = none) (ha : PA X [e] ta) (hs : starEach [e] X.env = [(false, eval e X.env)] := by rfl) :
    PI X (.Tuple elts kk tpos) (.Call (.Name "enumerate" p) [e] [] pos) (iEnumT X.K ta) := by
  refine ⟨fun pins s σ H R I h => ?_⟩
  refine Call_ (ld_blt I hg hm boot_enumerate (PyProof.Rows.callWith_type1 (thn (ha.run pos pins s σ H _ I h) fun us s1 ⟨vs, H1, I1, r1, q1⟩ => ?_) hs rfl))
  obtain ⟨a, xs, ex, hq, q⟩ := q1
  subst ex
  cases r1 with
  | cons r rr =>
    cases rr
    cases r
    obtain ⟨its, rv, p', hz⟩ := I1.tuple hq
    refine PySem.XEn.begins1 (begins_tuple a its.toArray) (show s1.heap.IsTuple a its.toArray from p') fun h' he hit hsz hk => wpAny_pyIter_enum he ?_
    have I2 : Inv X pins σ H1 { s1 with heap := h' } := I1.kept (t' := s1.toks) hk
    refine ⟨s1.heap.objs.size + 1, [s1.heap.objs.size + 1, s1.heap.objs.size], _, _, H1, rfl, I2, turn_enumT a (s1.heap.objs.size + 1) s1.heap.objs.size, ⟨⟨.none, he⟩, ⟨_, hit, rfl, rfl⟩, Nat.succ_ne_self _⟩, fun b hb => ?_, q⟩
    have e' : b = s1.heap.objs.size + 1 ∨ b = s1.heap.objs.size := by simpa using hb
    have hle : s1.heap.objs.size ≤ b := by
      rcases e' with z | z
      · rw [z]; exact Nat.le_add_right _ _
      · rw [z]; exact Nat.le_refl _
    exact I1.fpOk hle (I1.hok.fresh hle)
end XL
namespace XL
open PySem PySem.Spec PyProof.Rows L2
/-! ### small words that all laws want -/
theorem at_s {T : L2.St → Hp → Prop} {σ σ' : L2.St} {H : Hp} (e : σ = σ') (h : T σ' H) : T σ H := e ▸ h
theorem at_g {i : Nat} {x : V} {σ σ' : L2.St} {H : Hp} {N : L2.St → Hp → Prop} (e : σ.set i (some x) = σ') (h : N σ' H) : gName i x σ H N := by
  subst e; exact h
/-- a heap by what is known of it -/
theorem at_h {T : L2.St → Hp → Prop} {σ : L2.St} {H : Hp} (Pf : Hp → Prop) (hp : Pf H) (h : ∀ G, Pf G → T σ G) : T σ H := h H hp
structure Fns (P : Program) (w : World) (K : PySem.W.Frag) (mg : Str → Option Value) (base : Heap) (n : Nat) (name : Str) (ps : List Str) (sp : Sp) (f : Addr) (fd : FuncData) : Prop where
  ok : FnOk P w K mg base CX0 n f fd ps sp
  g : mg name = some (.ref f)
  k : PySem.W.keepIn K (.ref f) = true
  b : Binds K fd ps []
theorem pe_fn {X : Cx} {n : Nat} {name : Str} {ps : List Str} {sp : Sp} {f : Addr} {fd : FuncData} {p pos : Pos} {e : Expr} {es : List Expr} {t : TA} (F : Fns X.prog X.w X.K X.mg X.base n name ps sp f fd) (hr : Room n X.A) (hg : Gl X name) (ha : PA X (e :: es) t)
    (hdb : (name == ("__debug__" : Str)) = false := by decide) (he : starEach (e :: es) X.env = (false, eval e X.env) :: starEach es X.env := by rfl) (hpl : (backTo pos (starEach es X.env)).any (·.1) = false := by rfl) (hx : Passes CX0 X E0 := by exact pass0) :
    PE X (.Call (.Name name p) (e :: es) [] pos) (tCall sp [] E0 t) := pe_call F.ok hr hg F.g F.k F.b .nil hx ha hdb he hpl
theorem room65 {k : Nat} {A : Around} (r : Room k A) : A.units + 65 < cLine := by have := r.un; omega
/-- an item of a list or a tuple -/
def rIxA (K : PySem.W.Frag) : R2 := fun x y H Q => ∃ p xs i v, x = .ref p ∧ y = .int i ∧ Sq2 K H p xs ∧ atI xs i = some v ∧ Q v H
theorem ix_any {X : Cx} : IxR X (rIxA X.K) := by
  intro value slice pins s σ H x y v u Q I rx ry h hs
  obtain ⟨p, xs, i, z, e1, e2, hq, he, q⟩ := h
  rcases hq with hq | hq
  · exact ix_list value slice pins s σ H x y v u Q I rx ry ⟨p, xs, i, z, e1, e2, hq, he, q⟩ hs
  · exact ix_tup value slice pins s σ H x y v u Q I rx ry ⟨p, xs, i, z, e1, e2, hq, he, q⟩ hs
/-! ### built-ins over lists and tuples, their relations by name (within comprehensions they are given by hand) -/
def rLenA (K : PySem.W.Frag) : List V → Hp → VK → Prop := fun xs H Q => ∃ p ys, xs = [.ref p] ∧ (SqL K H p ys ∨ SqT K H p ys) ∧ Q (.int ys.length) H
theorem call_lenA {X : Cx} : CallR X (.builtin "len") (rLenA X.K) := call_len_seq
def rLstA (K : PySem.W.Frag) : List V → Hp → VK → Prop := fun xs H Q => ∃ p ys, xs = [.ref p] ∧ (SqL K H p ys ∨ SqT K H p ys) ∧ ∀ l, H l = none → Q (.ref l) (upd H l (.lst ys))
theorem call_listA {X : Cx} : CallR X (.type "list") (rLstA X.K) := call_list_of
def rTupA (K : PySem.W.Frag) : List V → Hp → VK → Prop := fun xs H Q => ∃ p ys, xs = [.ref p] ∧ ((SqL K H p ys ∧ ∀ l, H l = none → Q (.ref l) (upd H l (.tup ys))) ∨ SqT K H p ys ∧ Q (.ref p) H)
theorem call_tupleA {X : Cx} : CallR X (.type "tuple") (rTupA X.K) := call_tuple_of
/-- a comprehension, by an invariant over all that was made so far -/
theorem lc_acc {J : It} {n : Nat} {G : Hp → Prop} {Y : Nat → Hp → V → Hp → Prop} (w : Walk J n G Y) (Iv : Nat → List V → Hp → Prop) {g : TG} {t : TE} {vs : List Nat} {σ : L2.St} {H1 : Hp} {Qd : Addr → Hp → Prop} (hz : n < sizeLine)
    (h0 : Iv 0 [] H1) (hG : ∀ i F D acc, Iv i acc F → F D = none → G (upd F D (.lst acc)))
    (hs : ∀ i x D acc F H', i < n → H1 D = none → Iv i acc F → F D = none → Y i (upd F D (.lst acc)) x H' → ∀ B : L2.St → Hp → Prop, (∀ σ2 Fm, wipe σ2 vs = wipe σ vs → Fm D = none →
      (∀ Qt : VK, (∀ y F', Iv (i + 1) (acc ++ [y]) F' → Qt y F') → t σ2 Fm Qt) → B σ2 (upd Fm D (.lst acc))) → g x (wipe σ vs) H' B)
    (hd : ∀ D ys F, H1 D = none → Iv n ys F → F D = none → ys.length = n → Qd D (upd F D (.lst ys))) :
    ∀ D, H1 D = none → ∃ W : Nat → Nat → Hp → Prop, (∃ m, W 0 m (upd H1 D (.lst []))) ∧ ∀ i m H, W i m H →
      (J.stop i H ∧ Qd D H) ∨ (J.go i H ∧ ∃ Nx : Hp → Prop, (∀ H', Nx H' → ∃ m', m' < m ∧ W (i + 1) m' H') ∧ ∀ x H', J.yld i H x H' → g x (wipe σ vs) H' fun σ2 H2 => wipe σ2 vs = wipe σ vs ∧ tYes σ2 H2 fun b H3 =>
        if b = true then tHide t σ2 H3 fun y H4 => ∃ acc, H4 D = some (.lst acc) ∧ acc.length < sizeLine ∧ Nx (upd H4 D (.lst (acc ++ [y]))) else Nx H3) := by
  intro D nD
  refine lc_it w (fun i H => ∃ ys F, H = upd F D (.lst ys) ∧ F D = none ∧ Iv i ys F ∧ ys.length = i) ⟨[], H1, rfl, nD, h0, rfl⟩ ?_ ?_ ?_
  · rintro i H _ ⟨ys, F, rfl, nF, iv, _⟩
    exact hG i F D ys iv nF
  · rintro i x H H' hi ⟨ys, F, rfl, nF, iv, hl⟩ hy
    refine hs i x D ys F H' hi nD iv nF hy _ fun σ2 Fm hw nm ht => ⟨hw, ?_⟩
    unfold tYes; dsimp only
    rw [if_pos rfl]
    refine ⟨D, ys, upd_same, ?_⟩
    rw [delH_upd nm]
    exact ht _ fun y F' iv' nF' => ⟨ys, upd_same, by omega, ys ++ [y], F', upd_upd, nF', iv', by rw [List.length_append, hl]; rfl⟩
  · rintro H ⟨ys, F, rfl, nF, iv, hl⟩
    exact hd D ys F nD iv nF hl
/-! ### calls by keywords alone: one, two in their order or turned -/
def g1 : List α → List α → List α
  | [], [x] => [x]
  | _, _ => []
def g2 : List α → List α → List α
  | [], [x, y] => [y, x]
  | _, _ => []
section
variable {K : PySem.W.Frag}
theorem kb1 {x qual p : Str} {st : Stmt} {f : Addr} {fd : FuncData} (F : Fun K x qual st f fd)
    (h : ∀ (kV doc pm : Value) (an : Option Addr) (cdv ct v : Value), bindArgs (PySem.W.fnOf x qual (defArgs st) (defBody st) (defScope st) .none kV doc pm an cdv ct) ⟨[], [(p, v)]⟩ = pure [(p, v)]) : KBinds K fd [p] [p] g1 g1 := by
  obtain ⟨oc, od, kV, doc, pm, an, cdv, ct, osl, rfl, lk, hcd⟩ := F.ex
  refine ⟨fun s us ws _ hl => ?_, fun {vs us zs ws} r1 r2 => ?_⟩
  · match us, ws, hl with
    | [], [v], _ => exact .of_eq (h kV doc pm an cdv ct v)
  · cases r1 with
    | nil =>
      cases r2 with
      | nil => exact .nil
      | cons a r =>
        cases r with
        | nil => exact .cons a .nil
        | cons _ _ => exact .nil
    | cons _ _ => exact .nil
theorem kb2 {x qual p q : Str} {st : Stmt} {f : Addr} {fd : FuncData} (F : Fun K x qual st f fd)
    (h : ∀ (kV doc pm : Value) (an : Option Addr) (cdv ct v u : Value), bindArgs (PySem.W.fnOf x qual (defArgs st) (defBody st) (defScope st) .none kV doc pm an cdv ct) ⟨[], [(q, v), (p, u)]⟩ = pure [(p, u), (q, v)]) : KBinds K fd [p, q] [q, p] g2 g2 := by
  obtain ⟨oc, od, kV, doc, pm, an, cdv, ct, osl, rfl, lk, hcd⟩ := F.ex
  refine ⟨fun s us ws _ hl => ?_, fun {vs us zs ws} r1 r2 => ?_⟩
  · match us, ws, hl with
    | [], [v, u], _ => exact .of_eq (h kV doc pm an cdv ct v u)
  · cases r1 with
    | nil =>
      cases r2 with
      | nil => exact .nil
      | cons a r =>
        cases r with
        | nil => exact .nil
        | cons a2 r =>
          cases r with
          | nil => exact .cons a2 (.cons a .nil)
          | cons _ _ => exact .nil
    | cons _ _ => exact .nil
/-- three, turned -/
def g3r {α : Type} : List α → List α → List α
  | [], [x, y, z] => [z, y, x]
  | _, _ => []
theorem kb3r {x qual p q r : Str} {st : Stmt} {f : Addr} {fd : FuncData} (F : Fun K x qual st f fd)
    (h : ∀ (kV doc pm : Value) (an : Option Addr) (cdv ct v u z : Value), bindArgs (PySem.W.fnOf x qual (defArgs st) (defBody st) (defScope st) .none kV doc pm an cdv ct) ⟨[], [(r, v), (q, u), (p, z)]⟩ = pure [(p, z), (q, u), (r, v)]) : KBinds K fd [p, q, r] [r, q, p] g3r g3r := by
  obtain ⟨oc, od, kV, doc, pm, an, cdv, ct, osl, rfl, lk, hcd⟩ := F.ex
  refine ⟨fun s us ws _ hl => ?_, fun {vs us zs ws} r1 r2 => ?_⟩
  · match us, ws, hl with
    | [], [v, u, z], _ => exact .of_eq (h kV doc pm an cdv ct v u z)
  · cases r1 with
    | nil =>
      cases r2 with
      | nil => exact .nil
      | cons a r =>
        cases r with
        | nil => exact .nil
        | cons a2 r =>
          cases r with
          | nil => exact .nil
          | cons a3 r =>
            cases r with
            | nil => exact .cons a3 (.cons a2 (.cons a .nil))
            | cons _ _ => exact .nil
    | cons _ _ => exact .nil
end
end XL
namespace XL
open PySem PySem.Spec PyProof.Rows L2
/-! ### a comprehension over zip of two: both lists, or both tuples -/
theorem walk_zipT {K : PySem.W.Frag} {a b : Addr} {xs ys : List V} {n : Nat} (hn : n = min xs.length ys.length) : Walk (RZ.ItzT K a b) n (fun H => SqT K H a xs ∧ SqT K H b ys) (YPair (fun i => xs[i]?) (fun i => ys[i]?)) := by
  subst hn
  refine ⟨fun i _ hi q => ?_, fun _ q => ⟨xs, ys, q.1, q.2, by omega⟩, fun i H v H' _ q y => ?_⟩
  · have h1 : i < xs.length := by omega
    have h2 : i < ys.length := by omega
    exact ⟨xs, ys, xs[i], ys[i], q.1, q.2, by simp [h1], by simp [h2]⟩
  · obtain ⟨T, x, z, h1, h2, h3, h4, h5⟩ := y
    exact ⟨T, x, z, h1, h2, h3, h4 xs q.1, h5 ys q.2⟩
def iZ2 (K : PySem.W.Frag) (ta : TA) : TI := fun σ H R => ta σ H fun vs H1 => ∃ a b xs ys, vs = [.ref a, .ref b] ∧ ((SqL K H1 a xs ∧ SqL K H1 b ys) ∨ (SqT K H1 a xs ∧ SqT K H1 b ys)) ∧
  ∀ J, Walk J (min xs.length ys.length) (fun H => Same H1 H) (YPair (fun i => xs[i]?) (fun i => ys[i]?)) → R J H1
theorem pi_z2 {X : Cx} {e e2 : Expr} {ta : TA} {p pos tpos : Pos} {elts : List Expr} {kk : Nat} (hg : Gl X "zip") (hm : X.mg "zip" = none) (ha : PA X [e, e2] ta)
    (hs : starEach [e, e2] X.env = (false, eval e X.env) :: starEach [e2] X.env := by rfl) (hpl : (backTo pos (starEach [e2] X.env)).any (·.1) = false := by rfl) :
    PI X (.Tuple elts kk tpos) (.Call (.Name "zip" p) [e, e2] [] pos) (iZ2 X.K ta) := by
  refine ⟨fun pins s σ H R I h => ?_⟩
  refine Call_ (ld_blt I hg hm PyProof.Rows.boot_zip (PyProof.Rows.callWith_type1 (thn (ha.run pos pins s σ H _ I h) fun us s1 ⟨vs, H1, I1, r1, q1⟩ => ?_) hs hpl))
  obtain ⟨a, b, xs, ys, ex, q1, q⟩ := q1
  subst ex
  cases r1 with
  | cons r rr =>
    cases rr with
    | cons r' rr =>
      cases rr
      cases r
      cases r'
      have fresh5 : ∀ c, c ∈ [s1.heap.objs.size + 4, s1.heap.objs.size + 2, s1.heap.objs.size + 3, s1.heap.objs.size, s1.heap.objs.size + 1] → FpOk X pins H1 c := fun c hcm => by
        have e' : c = s1.heap.objs.size + 4 ∨ c = s1.heap.objs.size + 2 ∨ c = s1.heap.objs.size + 3 ∨ c = s1.heap.objs.size ∨ c = s1.heap.objs.size + 1 := by simpa using hcm
        have hle : s1.heap.objs.size ≤ c := by
          rcases e' with z | z | z | z | z
          · rw [z]; exact Nat.le_add_right _ _
          · rw [z]; exact Nat.le_add_right _ _
          · rw [z]; exact Nat.le_add_right _ _
          · rw [z]; exact Nat.le_refl _
          · rw [z]; exact Nat.le_add_right _ _
        exact I1.fpOk hle (I1.hok.fresh hle)
      rcases q1 with ⟨hqx, hqy⟩ | ⟨hqx, hqy⟩
      · obtain ⟨its, rv, p1, _⟩ := I1.list hqx
        obtain ⟨its2, rv2, p2, _⟩ := I1.list hqy
        refine call_zip_2 p1.isList p2.isList fun h' hz hTI hTO h1 h2 hsz hk => wpAny_pyIter_zip hz ?_
        have I2 : Inv X pins σ H1 { s1 with heap := h' } := I1.kept (t' := s1.toks) hk
        exact ⟨s1.heap.objs.size + 4, [s1.heap.objs.size + 4, s1.heap.objs.size + 2, s1.heap.objs.size + 3, s1.heap.objs.size, s1.heap.objs.size + 1], _, _, H1, rfl, I2, turn_zip (PySem.W.ktu_apart s1.heap.objs.size a b p1.lt p2.lt), ⟨hz, hTI, ⟨_, _, hTO⟩, h1, h2⟩, fresh5, q _ ((walk_zip rfl).mono (fun H s => ⟨s.seq hqx, s.seq hqy⟩) fun _ _ _ _ _ _ y => y)⟩
      · obtain ⟨its, rv, p1, _⟩ := I1.tuple hqx
        obtain ⟨its2, rv2, p2, _⟩ := I1.tuple hqy
        obtain ⟨o1, ho1, _⟩ := id p1
        obtain ⟨o2, ho2, _⟩ := id p2
        refine RZ.call_zipT (show s1.heap.IsTuple a its.toArray from p1) (show s1.heap.IsTuple b its2.toArray from p2) fun h' hz hTI hTO h1 h2 hsz hk => wpAny_pyIter_zip hz ?_
        have I2 : Inv X pins σ H1 { s1 with heap := h' } := I1.kept (t' := s1.toks) hk
        exact ⟨s1.heap.objs.size + 4, [s1.heap.objs.size + 4, s1.heap.objs.size + 2, s1.heap.objs.size + 3, s1.heap.objs.size, s1.heap.objs.size + 1], _, _, H1, rfl, I2, RZ.turn_zipT (PySem.W.ktu_apart s1.heap.objs.size a b (Heap.lt_size ho1) (Heap.lt_size ho2)), ⟨hz, hTI, ⟨_, _, hTO⟩, h1, h2⟩, fresh5, q _ ((walk_zipT rfl).mono (fun H s => ⟨Same.tup s hqx, Same.tup s hqy⟩) fun _ _ _ _ _ _ y => y)⟩
/-! ### zip of three lists -/
def YTrip (xs ys zs : Nat → Option V) : Nat → Hp → V → Hp → Prop := fun i H v H' => ∃ T x y z, v = .ref T ∧ H T = none ∧ H' = upd H T (.tup [x, y, z]) ∧ xs i = some x ∧ ys i = some y ∧ zs i = some z
def Itz3 (K : PySem.W.Frag) (a b c : Addr) : It :=
  ⟨fun i H => ∃ (xs ys zs : List V) (x y z : V), SqL K H a xs ∧ SqL K H b ys ∧ SqL K H c zs ∧ xs[i]? = some x ∧ ys[i]? = some y ∧ zs[i]? = some z,
    fun i H v H' => ∃ T x y z, v = .ref T ∧ H T = none ∧ H' = upd H T (.tup [x, y, z]) ∧ (∀ xs, SqL K H a xs → xs[i]? = some x) ∧ (∀ ys, SqL K H b ys → ys[i]? = some y) ∧ ∀ zs, SqL K H c zs → zs[i]? = some z,
    fun i H => ∃ xs ys zs : List V, SqL K H a xs ∧ SqL K H b ys ∧ SqL K H c zs ∧ i ≤ xs.length ∧ i ≤ ys.length ∧ i ≤ zs.length ∧ (i = xs.length ∨ i = ys.length ∨ i = zs.length)⟩
theorem turn_zip3 {P : Program} {w : World} {K : PySem.W.Frag} {elts : List Expr} {kk : Nat} {tpos : Pos} {a b c z TI TO i1 i2 i3 : Addr} (S : ZipSep3 z TI TO i1 i2 i3 [i1, a] [i2, b] [i3, c]) (na : a ≠ i1) (nb : b ≠ i2) (nc : c ≠ i3) :
    Turn P w K (.Tuple elts kk tpos) (Itz3 K a b c) [z, TI, TO, i1, i2, i3] z (fun i h => IsZip h z TI TO .none ∧ IsTupOf3 h TI (.ref i1) (.ref i2) (.ref i3) ∧ (∃ x y u, IsTupOf3 h TO x y u) ∧ h.IsListIter i1 a i ∧ h.IsListIter i2 b i ∧ h.IsListIter i3 c i) where
  mem := by simp
  obj := fun i h st c hc => by
    obtain ⟨hz, hTI, ⟨x, y, u, hTO⟩, ⟨o1, e1, _, d1⟩, ⟨o2, e2, _, d2⟩, ⟨o3, e3, _, d3⟩⟩ := st
    have e' : c = z ∨ c = TI ∨ c = TO ∨ c = i1 ∨ c = i2 ∨ c = i3 := by simpa using hc
    rcases e' with q | q | q | q | q | q
    · rw [q]; exact ⟨_, hz, fun v q => nomatch q⟩
    · rw [q]; exact ⟨_, hTI, fun v q => nomatch q⟩
    · rw [q]; exact ⟨_, hTO, fun v q => nomatch q⟩
    · rw [q]; exact ⟨o1, e1, fun v q => by rw [d1] at q; cases q⟩
    · rw [q]; exact ⟨o2, e2, fun v q => by rw [d2] at q; cases q⟩
    · rw [q]; exact ⟨o3, e3, fun v q => by rw [d3] at q; cases q⟩
  keep := fun i h h' st k => by
    obtain ⟨hz, hTI, ⟨x, y, u, hTO⟩, h1, h2, h3⟩ := st
    exact ⟨k z (by simp) _ hz, k TI (by simp) _ hTI, ⟨x, y, u, k TO (by simp) _ hTO⟩, h1.at fun o q => k i1 (by simp) o q, h2.at fun o q => k i2 (by simp) o q, h3.at fun o q => k i3 (by simp) o q⟩
  item := by
    intro X hP hw hK hc i pins s σ H E I hf st hg
    subst hP hw hK
    obtain ⟨hz, hTI, ⟨x0, y0, u0, hTO⟩, h1, h2, h3⟩ := st
    obtain ⟨xs, ys, zs, x, y, z', hqx, hqy, hqz, hx, hy, hzz⟩ := hg
    obtain ⟨its, rv, p, _⟩ := I.list hqx
    obtain ⟨its2, rv2, p2, _⟩ := I.list hqy
    obtain ⟨its3, rv3, p3, _⟩ := I.list hqz
    obtain ⟨u, hu, ru⟩ := rv.get hx
    obtain ⟨u2, hu2, ru2⟩ := rv2.get hy
    obtain ⟨u3, hu3, ru3⟩ := rv3.get hzz
    have hzl : z < s.heap.objs.size := Heap.lt_size hz
    have lt : ∀ {l : List Value} {v : Value}, l[i]? = some v → i < l.toArray.size := fun {l v} e => by rw [List.size_toArray]; exact (List.getElem?_eq_some_iff.mp e).1
    refine wpAny_pyNext_zipD3_item S (Draws.list (A := X.A.in1) (I.ok.hd hc) i1 a na its.toArray) (Draws.list (A := X.A.in1) (I.ok.hd hc) i2 b nb its2.toArray) (Draws.list (A := X.A.in1) (I.ok.hd hc) i3 c nc its3.toArray) hz hTI hTO ⟨h1, p.isList⟩ ⟨h2, p2.isList⟩ ⟨h3, p3.isList⟩ (lt hu) (lt hu2) (lt hu3) fun v1 v2 v3 h' tk y1 y2 y3 zh TO' d1 d2 d3 hT hsz hk => ?_
    have ev : ∀ {l : List Value} {v v' : Value}, l.toArray[i]? = some v' → l[i]? = some v → v' = v := fun {l v v'} e1 e2 => by
      rw [List.getElem?_toArray, e2] at e1; exact (Option.some.inj e1).symm
    obtain rfl := ev y1 hu
    obtain rfl := ev y2 hu2
    obtain rfl := ev y3 hu3
    refine ⟨_, rfl, wpAny_letOwnedTupleGo_zip (s := { s with heap := h', toks := tk }) zh fun h'' z'' sb => ?_⟩
    have hT2 : h''.get? s.heap.objs.size = some { cls := .type "tuple", data := .seq #[v1, v2, v3] } := (sb.2 _ (Nat.ne_of_gt hzl)).trans hT
    have new : ObjOk X.prog X.w (upd H s.heap.objs.size (.tup [x, y, z'])) h'' s.heap.objs.size (.tup [x, y, z']) :=
      ⟨by show 3 ≤ sizeLine; decide, [v1, v2, v3], .cons ru (.cons ru2 (.cons ru3 .nil)), ⟨_, hT2, rfl, _, rfl⟩⟩
    have I1 : Inv X pins σ (upd H s.heap.objs.size (.tup [x, y, z'])) { s with heap := h'', toks := tk } :=
      I.turnedNew (ch := [z, TI, TO, i1, i2, i3]) (fun c o hb q => (sb.2 c (fun q' => hb (by simp [q']))).trans (hk c o (fun q' => hb (by simp [q'])) (fun q' => hb (by simp [q'])) (fun q' => hb (by simp [q'])) (fun q' => hb (by simp [q'])) (fun q' => hb (by simp [q'])) q)) hf (Nat.le_refl _) new
    refine ⟨.ref s.heap.objs.size, _, I1, rfl, ⟨_, x, y, z', rfl, I.hok.fresh (Nat.le_refl _), rfl, fun l hl => by rw [I.list_inj hl hqx]; exact hx, fun l hl => by rw [I.list_inj hl hqy]; exact hy, fun l hl => by rw [I.list_inj hl hqz]; exact hzz⟩, ⟨z'', ?_, ⟨v1, v2, v3, ?_⟩, ?_, ?_, ?_⟩, fun c hcm => ?_⟩
    · exact (sb.2 _ S.TIz).trans (hk _ _ S.TIz S.TITO S.TIi1 S.TIi2 S.TIi3 hTI)
    · exact (sb.2 _ S.TOz).trans TO'
    · exact d1.1.at fun o q => (sb.2 _ (Ne.symm S.zi1)).trans q
    · exact d2.1.at fun o q => (sb.2 _ (Ne.symm S.zi2)).trans q
    · exact d3.1.at fun o q => (sb.2 _ (Ne.symm S.zi3)).trans q
    · have hlt : c < s.heap.objs.size := by
        have e' : c = z ∨ c = TI ∨ c = TO ∨ c = i1 ∨ c = i2 ∨ c = i3 := by simpa using hcm
        rcases e' with q | q | q | q | q | q
        · rw [q]; exact hzl
        · rw [q]; exact Heap.lt_size hTI
        · rw [q]; exact Heap.lt_size hTO
        · rw [q]; obtain ⟨_, e1, _⟩ := h1; exact Heap.lt_size e1
        · rw [q]; obtain ⟨_, e2, _⟩ := h2; exact Heap.lt_size e2
        · rw [q]; obtain ⟨_, e3, _⟩ := h3; exact Heap.lt_size e3
      rw [upd_ne (Nat.ne_of_lt hlt)]
      exact (hf c hcm).1
  done := by
    intro X hP hw hK hc i pins s σ H E I hf st hg
    subst hP hw hK
    obtain ⟨hz, hTI, ⟨x0, y0, u0, hTO⟩, h1, h2, h3⟩ := st
    obtain ⟨xs, ys, zs, hqx, hqy, hqz, e1, e2, e3, hend⟩ := hg
    obtain ⟨its, rv, p, _⟩ := I.list hqx
    obtain ⟨its2, rv2, p2, _⟩ := I.list hqy
    obtain ⟨its3, rv3, p3, _⟩ := I.list hqz
    have l1 := rv.length
    have l2 := rv2.length
    have l3 := rv3.length
    exact wpAny_pyNext_zipD3_end S (Draws.list (A := X.A.in1) (I.ok.hd hc) i1 a na its.toArray) (Draws.list (A := X.A.in1) (I.ok.hd hc) i2 b nb its2.toArray) (Draws.list (A := X.A.in1) (I.ok.hd hc) i3 c nc its3.toArray) hz hTI hTO ⟨h1, p.isList⟩ ⟨h2, p2.isList⟩ ⟨h3, p3.isList⟩ (by rw [List.size_toArray]; omega) (by rw [List.size_toArray]; omega) (by rw [List.size_toArray]; omega) (by rw [List.size_toArray, List.size_toArray, List.size_toArray]; omega)
      fun h' tk hk => ⟨rfl, I.turnedL (t' := tk) (ch := [z, TI, TO, i1, i2, i3]) (fun c o hb q =>
      hk c o (fun q' => hb (by simp [q'])) (fun q' => hb (by simp [q'])) (fun q' => hb (by simp [q'])) (fun q' => hb (by simp [q'])) (fun q' => hb (by simp [q'])) q) hf⟩
  self := fun A i s Q E st h => wpAny_pyIter_zip st.1 h
theorem walk_zip3 {K : PySem.W.Frag} {a b c : Addr} {xs ys zs : List V} {n : Nat} (hn : n = min (min xs.length ys.length) zs.length) : Walk (Itz3 K a b c) n (fun H => SqL K H a xs ∧ SqL K H b ys ∧ SqL K H c zs) (YTrip (fun i => xs[i]?) (fun i => ys[i]?) (fun i => zs[i]?)) := by
  subst hn
  refine ⟨fun i _ hi q => ?_, fun _ q => ⟨xs, ys, zs, q.1, q.2.1, q.2.2, by omega, by omega, by omega, by omega⟩, fun i H v H' _ q y => ?_⟩
  · have h1 : i < xs.length := by omega
    have h2 : i < ys.length := by omega
    have h3 : i < zs.length := by omega
    exact ⟨xs, ys, zs, xs[i], ys[i], zs[i], q.1, q.2.1, q.2.2, by simp [h1], by simp [h2], by simp [h3]⟩
  · obtain ⟨T, x, y, z, h1, h2, h3, h4, h5, h6⟩ := y
    exact ⟨T, x, y, z, h1, h2, h3, h4 xs q.1, h5 ys q.2.1, h6 zs q.2.2⟩
def iZ3 (K : PySem.W.Frag) (ta : TA) : TI := fun σ H R => ta σ H fun vs H1 => ∃ a b c xs ys zs, vs = [.ref a, .ref b, .ref c] ∧ SqL K H1 a xs ∧ SqL K H1 b ys ∧ SqL K H1 c zs ∧
  ∀ J, Walk J (min (min xs.length ys.length) zs.length) (fun H => Same H1 H) (YTrip (fun i => xs[i]?) (fun i => ys[i]?) (fun i => zs[i]?)) → R J H1
theorem pi_z3 {X : Cx} {e e2 e3 : Expr} {ta : TA} {p pos tpos : Pos} {elts : List Expr} {kk : Nat} (hg : Gl X "zip") (hm : X.mg "zip" = none) (ha : PA X [e, e2, e3] ta)
    (hs : starEach [e, e2, e3] X.env = (false, eval e X.env) :: starEach [e2, e3] X.env := by rfl) (hpl : (backTo pos (starEach [e2, e3] X.env)).any (·.1) = false := by rfl) :
    PI X (.Tuple elts kk tpos) (.Call (.Name "zip" p) [e, e2, e3] [] pos) (iZ3 X.K ta) := by
  refine ⟨fun pins s σ H R I h => ?_⟩
  refine Call_ (ld_blt I hg hm PyProof.Rows.boot_zip (PyProof.Rows.callWith_type1 (thn (ha.run pos pins s σ H _ I h) fun us s1 ⟨vs, H1, I1, r1, q1⟩ => ?_) hs hpl))
  obtain ⟨a, b, c, xs, ys, zs, ex, hqx, hqy, hqz, q⟩ := q1
  subst ex
  cases r1 with
  | cons r rr =>
    cases rr with
    | cons r' rr =>
      cases rr with
      | cons r'' rr =>
        cases rr
        cases r
        cases r'
        cases r''
        obtain ⟨its, rv, p1, _⟩ := I1.list hqx
        obtain ⟨its2, rv2, p2, _⟩ := I1.list hqy
        obtain ⟨its3, rv3, p3, _⟩ := I1.list hqz
        have la : a < s1.heap.objs.size := p1.lt
        have lb : b < s1.heap.objs.size := p2.lt
        have lc : c < s1.heap.objs.size := p3.lt
        have S := zip_sep3 (N := s1.heap.objs.size) (fp1 := [a]) (fp2 := [b]) (fp3 := [c]) (fun x hx => by rw [List.mem_singleton.mp hx]; exact la) (fun x hx => by rw [List.mem_singleton.mp hx]; exact lb) (fun x hx => by rw [List.mem_singleton.mp hx]; exact lc)
        refine zip_begins3 (begins_list a its.toArray) (begins_list b its2.toArray) (begins_list c its3.toArray) p1.isList p2.isList p3.isList fun h' hz hTI hTO h1 h2 h3 hsz hk => wpAny_pyIter_zip hz ?_
        have I2 : Inv X pins σ H1 { s1 with heap := h' } := I1.kept (t' := s1.toks) hk
        refine ⟨s1.heap.objs.size + 5, [s1.heap.objs.size + 5, s1.heap.objs.size + 3, s1.heap.objs.size + 4, s1.heap.objs.size, s1.heap.objs.size + 1, s1.heap.objs.size + 2], _, _, H1, rfl, I2, turn_zip3 S (Nat.ne_of_lt la) (Nat.ne_of_lt (Nat.lt_succ_of_lt lb)) (Nat.ne_of_lt (Nat.lt_succ_of_lt (Nat.lt_succ_of_lt lc))), ⟨hz, hTI, ⟨_, _, _, hTO⟩, ⟨_, h1, rfl, rfl⟩, ⟨_, h2, rfl, rfl⟩, ⟨_, h3, rfl, rfl⟩⟩, fun x hcm => ?_, q _ ((walk_zip3 rfl).mono (fun H s => ⟨s.seq hqx, s.seq hqy, s.seq hqz⟩) fun _ _ _ _ _ _ y => y)⟩
        have e' : x = s1.heap.objs.size + 5 ∨ x = s1.heap.objs.size + 3 ∨ x = s1.heap.objs.size + 4 ∨ x = s1.heap.objs.size ∨ x = s1.heap.objs.size + 1 ∨ x = s1.heap.objs.size + 2 := by simpa using hcm
        have hle : s1.heap.objs.size ≤ x := by
          rcases e' with z | z | z | z | z | z
          · rw [z]; exact Nat.le_add_right _ _
          · rw [z]; exact Nat.le_add_right _ _
          · rw [z]; exact Nat.le_add_right _ _
          · rw [z]; exact Nat.le_refl _
          · rw [z]; exact Nat.le_add_right _ _
          · rw [z]; exact Nat.le_add_right _ _
        exact I1.fpOk hle (I1.hok.fresh hle)
end XL
namespace XL
open PySem PySem.Spec PyProof.Rows L2
abbrev sSame : Stmt := topS 27
theorem boot_all : bootBuiltins "all" = some (.builtin "all") := by decide +kernel
theorem boot_bool' : bootBuiltins "bool" = some (.type "bool") := by decide +kernel
theorem boot_str' : bootBuiltins "str" = some (.type "str") := by decide +kernel
theorem boot_int' : bootBuiltins "int" = some (.type "int") := by decide +kernel
section
variable {P : Program} {w : World} {K : PySem.W.Frag} {mg : Str → Option Value} {base : Heap}
def isBS : PyData → Bool
  | .bool _ => true
  | .str _ => true
  | _ => false
def isB : PyData → Bool
  | .bool _ => true
  | _ => false
theorem kitf {a b : String} (h : kitB a b = some false) : PySem.W.kitOne K (.type a) (.type b) = some false := kit_ty h
theorem kitt {a b : String} (h : kitB a b = some true) : PySem.W.kitOne K (.type a) (.type b) = some true := kit_ty h
theorem kit_list (d : PyData) : ∃ b, PySem.W.kitOne K (tyD d) (.type "list") = some b := by cases d <;> first | exact ⟨false, kitf (by decide +kernel)⟩ | exact ⟨true, kitt (by decide +kernel)⟩
theorem kit_tuple (d : PyData) : ∃ b, PySem.W.kitOne K (tyD d) (.type "tuple") = some b := by cases d <;> first | exact ⟨false, kitf (by decide +kernel)⟩ | exact ⟨true, kitt (by decide +kernel)⟩
theorem kit_bool (d : PyData) : PySem.W.kitOne K (tyD d) (.type "bool") = some (isB d) := by cases d <;> first | exact kitf (by decide +kernel) | exact kitt (by decide +kernel)
theorem kit_int (i : Int) : PySem.W.kitOne K (tyD (.int i)) (.type "int") = some true := kitt (by decide +kernel)
theorem bs_kit (d : PyData) : PySem.W.kitAny K (tyD d) [.type "bool", .type "str"] = some (isBS d) := by
  cases d with
  | none => exact kit2 (a := false) (b := false) (by decide +kernel) (by decide +kernel)
  | bool b => exact kit2 (a := true) (b := false) (by decide +kernel) (by decide +kernel)
  | int i => exact kit2 (a := false) (b := false) (by decide +kernel) (by decide +kernel)
  | str x => exact kit2 (a := false) (b := true) (by decide +kernel) (by decide +kernel)
  | list ds => exact kit2 (a := false) (b := false) (by decide +kernel) (by decide +kernel)
  | tuple ds => exact kit2 (a := false) (b := false) (by decide +kernel) (by decide +kernel)
  | dict kvs => exact kit2 (a := false) (b := false) (by decide +kernel) (by decide +kernel)
theorem all_true : ∀ n : Nat, (List.replicate n true).all id = true
  | 0 => rfl
  | n + 1 => by rw [List.replicate_succ, List.all_cons, all_true n]; rfl
theorem eq_true_map : ∀ (ys : List V), (∀ (i : Nat) y, ys[i]? = some y → y = .bl true) → ys = (List.replicate ys.length true).map V.bl
  | [], _ => rfl
  | y :: ys, h => by
    have h0 := h 0 y rfl
    have r := eq_true_map ys fun i z e => h (i + 1) z (by simpa using e)
    rw [List.length_cons, List.replicate_succ, List.map_cons, ← r, h0]
theorem seq2_of {H : Hp} {v u : V} {d : PyData} (hv : Dp K H v d) (hu : Dp K H u d) (h : isSeq d = true) : ∃ a xs a2 xs2, v = .ref a ∧ u = .ref a2 ∧ ((SqL K H a xs ∧ SqL K H a2 xs2) ∨ (SqT K H a xs ∧ SqT K H a2 xs2)) ∧ DpAll K H xs (itemsD d) ∧ DpAll K H xs2 (itemsD d) := by
  cases d with
  | list ds => cases hv with
    | lst h1 h2 => cases hu with
      | lst h3 h4 => exact ⟨_, _, _, _, rfl, rfl, .inl ⟨h1, h3⟩, h2, h4⟩
  | tuple ds => cases hv with
    | tup h1 h2 => cases hu with
      | tup h3 h4 => exact ⟨_, _, _, _, rfl, rfl, .inr ⟨h1, h3⟩, h2, h4⟩
  | none => simp [isSeq] at h
  | bool b => simp [isSeq] at h
  | int b => simp [isSeq] at h
  | str b => simp [isSeq] at h
  | dict b => simp [isSeq] at h
theorem scSame : FnScope ["_law_found", "_law_due", "_law_mine", "_law_its"] ["_law_found", "_law_due"] (defScope sSame) := ⟨rfl, rfl, rfl, by decide +kernel, rfl, by decide +kernel, by decide +kernel⟩
def spSame (K : PySem.W.Frag) (n : Nat) : Sp := fun vs H Q _ => ∃ (v u : V) (d : PyData), vs = [v, u] ∧ Dp K H v d ∧ Dp K H u d ∧ okD n d ∧ ∀ H' : Hp, Same H H' → Q (.bl true) H'
theorem ok_same {f : Addr} {fd : FuncData} (F : Fun K "_law_same" "_law_same" sSame f fd) (b : Binds K fd ["_law_found", "_law_due"] []) (gF : mg "_law_same" = some (.ref f)) (mi : mg "isinstance" = none) (ml : mg "list" = none) (mt : mg "tuple" = none)
    (mz : mg "zip" = none) (me : mg "len" = none) (ma : mg "all" = none) (mb : mg "bool" = none) (ms : mg "str" = none) (mn : mg "int" = none) :
    ∀ n : Nat, FnOk P w K mg base CX0 n f fd ["_law_found", "_law_due"] (spSame K n)
  | 0 => no_fn fun vs H Q E ⟨v, u, d, _, _, _, h, _⟩ => h
  | n + 1 => by
    have G := ok_same F b gF mi ml mt mz me ma mb ms mn n
    refine F.ok scSame (fun vs H Q E h => ?_) (fun cdv A outer s H vs Q E hr h => ?_)
    · obtain ⟨v, u, d, rfl, _⟩ := h
      rfl
    obtain ⟨v, u, d, rfl, hv, hu, ok, q⟩ := h
    refine ⟨_, pss_cons (ps_if (pt_val (pe_callB call_isiT rfl mi boot_isinstance (pa_cons (pv 1) (pa_cons (pe_tup (pa_cons (pe_bltn (v := .ty "list") rfl ml boot_list rfl) (pa_cons (pe_bltn (v := .ty "tuple") rfl mt boot_tuple rfl) pa_nil))) pa_nil))))
        (pss_cons (ps_if (PW.pt (pw_or (pt_cmpR op_ne (pe_callB call_isi rfl mi boot_isinstance (pa_cons (pv 0) (pa_cons (pe_bltn (v := .ty "list") rfl ml boot_list rfl) pa_nil))) (pe_callB call_isi rfl mi boot_isinstance (pa_cons (pv 1) (pa_cons (pe_bltn (v := .ty "list") rfl ml boot_list rfl) pa_nil))) (nomark _))
              (pw_or1 (pt_cmpR op_ne (pe_callB call_isi rfl mi boot_isinstance (pa_cons (pv 0) (pa_cons (pe_bltn (v := .ty "tuple") rfl mt boot_tuple rfl) pa_nil))) (pe_callB call_isi rfl mi boot_isinstance (pa_cons (pv 1) (pa_cons (pe_bltn (v := .ty "tuple") rfl mt boot_tuple rfl) pa_nil))) (nomark _)))))
            (pss_one (ps_ret pe_bl)) pss_nil)
        (pss_cons (ps_if (pt_cmpR op_ne (pe_callB call_len_seq rfl me PySem.boot_len (pa_cons (pv 0) pa_nil)) (pe_callB call_len_seq rfl me PySem.boot_len (pa_cons (pv 1) pa_nil)) (nomark _)) (pss_one (ps_ret pe_bl)) pss_nil)
        (pss_one (ps_ret (pe_callB (cr_all rfl) rfl ma boot_all (pa_cons (pe_lc (own := [("_law_mine", 2), ("_law_its", 3)]) (g := gAny K 2 (gCons (gName 2) (gCons (gName 3) gNil))) (tt := tYes) rfl scSame.nd (pi_z2 rfl mz (pa_cons (pv 0) (pa_cons (pv 1) pa_nil)))
            (blkOk_by (own := [("_law_mine", 2), ("_law_its", 3)]) (N := ["_law_found", "_law_due", "_law_mine", "_law_its"]) (sc := defScope sSame) (by decide +kernel))
            (fun _ _ _ _ _ => pg_any rfl (pgs_cons (pg_name (i := 2) scSame.nd rfl (Or.inl rfl)) (pgs_cons (pg_name (i := 3) scSame.nd rfl (Or.inl rfl)) pgs_nil))) (fun _ _ _ _ _ => pts_nil)
            (fun _ _ _ _ _ => pe_hide (pe_call G hr rfl gF F.kp b .nil pass0 (pa_cons (pv 2) (pa_cons (pv 3) pa_nil))))) pa_nil)))))) pss_nil)
      (pss_cons (ps_if (PW.pt (pw_or (pt_cmpR op_isN (pv 1) pe_non (nomark _)) (pw_or1 (pt_val (pe_callB call_isiT rfl mi boot_isinstance (pa_cons (pv 1) (pa_cons (pe_tup (pa_cons (pe_bltn (v := .ty "bool") rfl mb boot_bool' rfl) (pa_cons (pe_bltn (v := .ty "str") rfl ms boot_str' rfl) pa_nil))) pa_nil)))))))
          (pss_cons (ps_if (pt_cmpR op_ne (pe_callB call_isi rfl mi boot_isinstance (pa_cons (pv 0) (pa_cons (pe_bltn (v := .ty "bool") rfl mb boot_bool' rfl) pa_nil))) (pe_callB call_isi rfl mi boot_isinstance (pa_cons (pv 1) (pa_cons (pe_bltn (v := .ty "bool") rfl mb boot_bool' rfl) pa_nil))) (nomark _)) (pss_one (ps_ret pe_bl)) pss_nil)
            (pss_one (ps_ret (pe_and (pe_cmpR op_eq (pe_cmpR op_isN (pv 0) pe_non (nomark _)) (pe_cmpR op_isN (pv 1) pe_non (nomark _)) (nomark _)) (pe_one (pe_cmpR op_eq (pv 0) (pv 1) (nomark _))))))) pss_nil)
      (pss_one (ps_ret (pe_and (pe_callB call_isi rfl mi boot_isinstance (pa_cons (pv 0) (pa_cons (pe_bltn (v := .ty "int") rfl mn boot_int' rfl) pa_nil)))
        (pe_and (pe_not (pe_callB call_isi rfl mi boot_isinstance (pa_cons (pv 0) (pa_cons (pe_bltn (v := .ty "bool") rfl mb boot_bool' rfl) pa_nil)))) (pe_one (pe_cmpR op_eq (pv 0) (pv 1) (nomark _)))))))), ?_⟩
    refine ⟨_, rfl, (by show 2 ≤ sizeLine; decide), fun tp np => ?_⟩
    have s1 : Same H (upd H tp (.tup [.ty "list", .ty "tuple"])) := same_new np
    have hv1 := Dp.same s1 d hv
    have hu1 := Dp.same s1 d hu
    refine ⟨u, tp, _, tyD d, _, isSeq d, rfl, upd_same, .cons (.ty _) (.cons (.ty _) .nil), tyx_of hu1, seq_kit d (Dp.nodict hu), isSeq d, rfl, ?_⟩
    obtain ⟨kl, ekl⟩ := kit_list (K := K) d
    obtain ⟨kt, ekt⟩ := kit_tuple (K := K) d
    cases hsq : isSeq d with
    | true =>
      refine iteT ?_
      obtain ⟨a, xs, a2, xs2, rfl, rfl, hss, hall, hall2⟩ := seq2_of hv hu hsq
      have hs : Sq2 K H a xs := hss.imp (fun z => z.1) (fun z => z.1)
      have hs2 : Sq2 K H a2 xs2 := hss.imp (fun z => z.2) (fun z => z.2)
      obtain ⟨hok, hlen⟩ := okD_items ok hsq
      have hx1 : xs.length = (itemsD d).length := DpAll.length hall
      have hx2 : xs2.length = (itemsD d).length := DpAll.length hall2
      -- the kinds are alike
      refine ⟨_, rfl, _, _, _, _, kl, rfl, .ty _, tyx_of hv1, ekl, _, rfl, _, _, _, _, kl, rfl, .ty _, tyx_of hu1, ekl, rfl, _, rfl, iteNS rfl ?_⟩
      refine ⟨_, rfl, _, _, _, _, kt, rfl, .ty _, tyx_of hv1, ekt, _, rfl, _, _, _, _, kt, rfl, .ty _, tyx_of hu1, ekt, rfl, _, rfl, iteNS rfl ?_⟩
      -- the lengths are alike
      refine ⟨_, rfl, a, xs, rfl, Same.sq2 s1 hs, _, rfl, a2, xs2, rfl, Same.sq2 s1 hs2, rfl, _, rfl, iteNS (by rw [hx1, hx2]) ?_⟩
      have hn : min xs.length xs2.length = (itemsD d).length := by rw [hx1, hx2, Nat.min_self]
      refine ⟨_, rfl, _, rfl, a, a2, xs, xs2, rfl, hss.imp (fun z => ⟨s1.seq z.1, s1.seq z.2⟩) (fun z => ⟨Same.tup s1 z.1, Same.tup s1 z.2⟩), fun J wk => lc_map wk Same (fun a b => a.trans b) (fun i y F => y = .bl true) (fun i y A B s p => p) (by rw [hn]; exact small1000 hlen) (Same.refl _) (fun F D acc sF nF => sF.trans (same_new nF)) (fun i x D acc F H' hi nD sF nF hy B hB => ?_) (fun D ys F nD sF nF hl hR => ?_)⟩
      · obtain ⟨T, x1, y1, rfl, nT, rfl, e1, e2⟩ := hy
        have hTD : T ≠ D := fun z => by rw [z, upd_same] at nT; cases nT
        rw [upd_ne hTD] at nT
        obtain ⟨d1, ed1, p1⟩ := DpAll.get hall e1
        obtain ⟨d2, ed2, p2⟩ := DpAll.get hall2 e2
        rw [ed1] at ed2
        cases ed2
        rw [upd_comm hTD]
        have sT : Same F (upd F T (.tup [x1, y1])) := same_new nT
        refine ⟨T, [x1, y1], rfl, .inr (.inl (.inl (by rw [upd_ne hTD, upd_same]))), rfl, x1, [y1], rfl, y1, [], rfl, rfl, ?_⟩
        refine hB _ (upd F T (.tup [x1, y1])) rfl (by rw [upd_ne (Ne.symm hTD)]; exact nF) fun Qt hq => ?_
        exact ⟨x1, rfl, y1, rfl, x1, y1, d1, rfl, Dp.same ((s1.trans sF).trans sT) _ p1, Dp.same ((s1.trans sF).trans sT) _ p2, hok _ (List.mem_of_getElem? ed1), fun H' s' => hq _ _ (sT.trans s') rfl⟩
      · refine ⟨D, List.replicate ys.length true, rfl, ?_, ?_⟩
        · rw [← eq_true_map ys hR]; exact SqL.of upd_same
        · rw [all_true]
          exact q _ (s1.trans (sF.trans (same_new nF)))
    | false =>
      refine iteF ?_
      have fin : ∀ H', Same H H' → Q (.bl true) H' := q
      cases d with
      | list ds => simp [isSeq] at hsq
      | tuple ds => simp [isSeq] at hsq
      | dict kvs => cases hv
      | none =>
        cases hv; cases hu
        refine ⟨_, rfl, rfl, _, rfl, iteT (iteT ?_)⟩
        refine ⟨_, rfl, _, _, _, _, _, rfl, .ty _, tyx_of hv1, kit_bool .none, _, rfl, _, _, _, _, _, rfl, .ty _, tyx_of hu1, kit_bool .none, rfl, _, rfl, iteNS rfl ?_⟩
        refine ⟨_, rfl, rfl, _, rfl, rfl, rfl, _, rfl, iteT ?_⟩
        refine ⟨_, rfl, _, rfl, rfl, ?_⟩
        exact fin _ s1
      | bool b0 =>
        cases hv; cases hu
        refine ⟨_, rfl, rfl, _, rfl, iteF ?_⟩
        refine ⟨_, rfl, (by show 2 ≤ sizeLine; decide), fun tq nq => ?_⟩
        have s2 : Same H (upd (upd H tp (.tup [.ty "list", .ty "tuple"])) tq (.tup [.ty "bool", .ty "str"])) := s1.trans (same_new nq)
        refine ⟨_, tq, _, _, _, _, rfl, upd_same, .cons (.ty _) (.cons (.ty _) .nil), tyx_of (Dp.bl b0), bs_kit (.bool b0), _, rfl, iteT ?_⟩
        refine ⟨_, rfl, _, _, _, _, _, rfl, .ty _, tyx_of (Dp.bl b0), kit_bool (.bool b0), _, rfl, _, _, _, _, _, rfl, .ty _, tyx_of (Dp.bl b0), kit_bool (.bool b0), rfl, _, rfl, iteNS rfl ?_⟩
        refine ⟨_, rfl, rfl, _, rfl, rfl, rfl, _, rfl, iteT ?_⟩
        refine ⟨_, rfl, _, rfl, rfl, ?_⟩
        have e : decide (V.bl b0 = V.bl b0) = true := decide_eq_true rfl
        have e2 := fin _ s2
        rw [← e] at e2
        exact e2
      | str x0 =>
        cases hv; cases hu
        refine ⟨_, rfl, rfl, _, rfl, iteF ?_⟩
        refine ⟨_, rfl, (by show 2 ≤ sizeLine; decide), fun tq nq => ?_⟩
        have s2 : Same H (upd (upd H tp (.tup [.ty "list", .ty "tuple"])) tq (.tup [.ty "bool", .ty "str"])) := s1.trans (same_new nq)
        refine ⟨_, tq, _, _, _, _, rfl, upd_same, .cons (.ty _) (.cons (.ty _) .nil), tyx_of (Dp.str x0), bs_kit (.str x0), _, rfl, iteT ?_⟩
        refine ⟨_, rfl, _, _, _, _, _, rfl, .ty _, tyx_of (Dp.str x0), kit_bool (.str x0), _, rfl, _, _, _, _, _, rfl, .ty _, tyx_of (Dp.str x0), kit_bool (.str x0), rfl, _, rfl, iteNS rfl ?_⟩
        refine ⟨_, rfl, rfl, _, rfl, rfl, rfl, _, rfl, iteT ?_⟩
        refine ⟨_, rfl, _, rfl, rfl, ?_⟩
        have e : decide (V.str x0 = V.str x0) = true := decide_eq_true rfl
        have e2 := fin _ s2
        rw [← e] at e2
        exact e2
      | int i0 =>
        cases hv; cases hu
        refine ⟨_, rfl, rfl, _, rfl, iteF ?_⟩
        refine ⟨_, rfl, (by show 2 ≤ sizeLine; decide), fun tq nq => ?_⟩
        have s2 : Same H (upd (upd H tp (.tup [.ty "list", .ty "tuple"])) tq (.tup [.ty "bool", .ty "str"])) := s1.trans (same_new nq)
        refine ⟨_, tq, _, _, _, _, rfl, upd_same, .cons (.ty _) (.cons (.ty _) .nil), tyx_of (Dp.int i0), bs_kit (.int i0), _, rfl, iteF ?_⟩
        refine ⟨_, rfl, _, _, _, _, _, rfl, .ty _, tyx_of (Dp.int i0), kit_int i0, _, rfl, iteT ?_⟩
        refine ⟨_, rfl, _, _, _, _, _, rfl, .ty _, tyx_of (Dp.int i0), kit_bool (.int i0), _, rfl, _, rfl, iteT ?_⟩
        refine ⟨_, rfl, _, rfl, rfl, ?_⟩
        have e : decide (V.int i0 = V.int i0) = true := decide_eq_true rfl
        have e2 := fin _ s2
        rw [← e] at e2
        exact e2
end
end XL
namespace XL
open PySem PySem.Spec PyProof.Rows L2
abbrev sCells : Stmt := topS 25
abbrev sBox : Stmt := topS 23
theorem boot_enumerate' : bootBuiltins "enumerate" = some (.type "enumerate") := by decide +kernel
theorem boot_abs' : bootBuiltins "abs" = some (.builtin "abs") := by decide +kernel
section
variable {P : Program} {w : World} {K : PySem.W.Frag} {mg : Str → Option Value} {base : Heap}
theorem cut_ints (ns : List Int) (lo hi : Option Int) : cutV (ns.map V.int) lo hi = ((ns.drop (HT.sIx ns.length 0 lo)).take (HT.sIx ns.length ns.length hi - HT.sIx ns.length 0 lo)).map V.int := by
  unfold cutV
  rw [List.length_map, List.map_take, List.map_drop]
theorem set_ints : ∀ (zs : List Int) (j : Nat) (v : Int), (zs.map V.int).set j (.int v) = (zs.set j v).map V.int
  | [], _, _ => rfl
  | z :: zs, 0, v => rfl
  | z :: zs, j + 1, v => by
    show .int z :: (zs.map V.int).set j (.int v) = .int z :: (zs.set j v).map V.int
    rw [set_ints zs j v]
/-! ### _law_cells -/
theorem scCells : FnScope ["_law_script", "_law_utmost", "_law_cells_here", "_law_k", "_law_cell"] ["_law_script", "_law_utmost"] (defScope sCells) := ⟨rfl, rfl, rfl, by decide +kernel, rfl, by decide +kernel, by decide +kernel⟩
def spCells (K : PySem.W.Frag) : Sp := fun vs H Q _ => ∃ (a : Addr) (ns : List Int) (m : Nat), vs = [.ref a, .int m] ∧ SqL K H a (ns.map V.int) ∧ ns.length ≤ 63 ∧ 1 ≤ m ∧ m ≤ 5 ∧
  ∀ (p : Addr) (zs : List Int) (H' : Hp), Same H H' → H p = none → H' p = some (.lst (zs.map V.int)) → 1 ≤ zs.length → zs.length ≤ m → Q (.ref p) H'
theorem ok_cells {f : Addr} {fd : FuncData} {k : Nat} (F : Fun K "_law_cells" "_law_cells" sCells f fd) (ml : mg "list" = none) (me : mg "enumerate" = none) : FnOk P w K mg base CX0 (k + 1) f fd ["_law_script", "_law_utmost"] (spCells K) := by
  refine F.ok scCells (fun vs H Q E h => ?_) (fun cdv A outer s H vs Q E hr h => ?_)
  · obtain ⟨a, ns, m, rfl, _⟩ := h
    rfl
  obtain ⟨a, ns, m, rfl, ha, hn, m1, m2, q⟩ := h
  have tail : ∃ t, PSs (cxOf CX0 P w K mg base ["_law_script", "_law_utmost", "_law_cells_here", "_law_k", "_law_cell"] "_law_cells" (defScope sCells) f cdv A outer s H E).nox ((defBody sCells).drop 1) t ∧
      ∀ (c : Addr) (zs : List Int) (H2 : Hp), Same H H2 → H c = none → H2 c = some (.lst (zs.map V.int)) → 1 ≤ zs.length → zs.length ≤ m → (m < ns.length → zs.length = m) →
        t { nx := fun _ H' => Q .non H', rt := Q } [some (.ref a), some (.int m), some (.ref c), none, none] H2 := by
    refine ⟨_, pss_cons (ps_for PassesOwn.never rfl (pi_enum (by rfl) me (pa_cons (pe_slice sl_list (pv 0) (po_some (pv 1)) (po_some pe_int)) pa_nil)) (pg_tup rfl (pgs_cons (pg_name (i := 3) scCells.nd rfl (.inl rfl)) (pgs_cons (pg_name (i := 4) scCells.nd rfl (.inl rfl)) pgs_nil)))
        (pss_one (ps_asg (pe_op op_add (pe_ix ix_list (pv 2) (pe_op op_modN (pv 3) (pv 1)) (fun _ _ => rfl)) (pe_op op_mul (pv 4) (pe_op op_add (pv 3) pe_int))) (pg_sub (pv 2) (pe_op op_modN (pv 3) (pv 1)) set_list))))
      (pss_one (ps_ret (pv 2))), fun c zs H2 s2 nc ec z1 z2 z3 => ?_⟩
    refine ⟨_, rfl, _, rfl, (m : Int), rfl, 63, rfl, a, _, rfl, s2.seq ha, fun p np => ?_⟩
    rw [cut_ints]
    generalize hes : ((ns.drop (HT.sIx ns.length 0 (some (m : Int)))).take (HT.sIx ns.length ns.length (some 63) - HT.sIx ns.length 0 (some (m : Int)))) = es
    have hel : 0 < es.length → m < ns.length := fun h => by
      rw [← hes, List.length_take, List.length_drop, HT.sIx_nat] at h
      omega
    have hel2 : es.length ≤ 63 := by
      rw [← hes, List.length_take, List.length_drop]
      omega
    have s3 : Same H (upd H2 p (.lst (es.map V.int))) := s2.trans (same_new np)
    have cp : c ≠ p := ne_of_none ec np
    refine ⟨p, es.map V.int, rfl, SqL.of upd_same, for_it (walk_enum (xs := es.map V.int)) (fun i σ H3 => ∃ (ws : List Int) (y3 y4 : Option V), σ = [some (.ref a), some (.int m), some (.ref c), y3, y4] ∧ Same H H3 ∧ H3 p = some (.lst (es.map V.int)) ∧ H3 c = some (.lst (ws.map V.int)) ∧ ws.length = zs.length)
      ⟨zs, none, none, rfl, s3, upd_same, by rw [upd_ne cp]; exact ec, rfl⟩ (fun i σ H3 _ h => ?_) (fun i x σ H3 H4 hi h hy => ?_) (fun σ H3 h => ?_)⟩
    · obtain ⟨_, _, _, _, _, e, _⟩ := h
      exact SqL.of e
    · obtain ⟨ws, y3, y4, rfl, sm, ep, ew, wl⟩ := h
      obtain ⟨T, x1, x2, rfl, nT, rfl, e1, e2⟩ := hy
      have hi' : i < es.length := by rw [List.length_map] at hi; exact hi
      have e1' : x1 = .int (i : Nat) := (Option.some.inj e1).symm
      have e2' : x2 = .int es[i] := by
        have e3 : (es.map V.int)[i]? = some x2 := e2
        rw [List.getElem?_map, List.getElem?_eq_getElem hi'] at e3
        exact (Option.some.inj e3).symm
      subst e1' e2'
      have sT : Same H3 (upd H3 T (.tup [.int (i : Nat), .int es[i]])) := same_new nT
      have wm : ws.length = m := by rw [wl]; exact z3 (hel (by omega))
      have fm := fmod_lt (a := (i : Int)) (n := (m : Int)) (by omega)
      have hj : ((i : Int).fmod (m : Int)).toNat < ws.length := by omega
      refine ⟨T, _, rfl, .inl (.inl upd_same), rfl, _, _, rfl, _, _, rfl, rfl, ?_⟩
      have ewT := sT _ _ ew
      have aw : atI (ws.map V.int) ((i : Int).fmod (m : Int)) = some (.int ws[((i : Int).fmod (m : Int)).toNat]) := atI_int fm.1 (by rw [List.getElem?_map, List.getElem?_eq_getElem hj]; rfl)
      refine ⟨_, rfl, _, rfl, _, rfl, _, _, rfl, rfl, by omega, c, _, _, _, rfl, rfl, SqL.of ewT, aw, _, rfl, _, rfl, _, _, rfl, rfl, _, _, rfl, rfl, .inr ⟨by omega, by omega⟩, _, _, rfl, rfl, ?_⟩
      refine ⟨_, rfl, _, rfl, _, rfl, _, _, rfl, rfl, by omega, c, _, _, ((i : Int).fmod (m : Int)).toNat, rfl, rfl, ewT, ?_, ?_⟩
      · unfold ixN
        rw [if_pos fm.1, if_pos (by rw [List.length_map]; omega)]
      · refine ⟨_, _, _, rfl, fun b o e => ?_, ?_, by rw [set_ints, upd_same], by rw [List.length_set]; exact wl⟩
        · rw [upd_ne (ne_of_none e nc)]; exact sT _ _ (sm _ _ e)
        · rw [upd_ne cp.symm]; exact sT _ _ ep
    · obtain ⟨ws, y3, y4, rfl, sm, ep, ew, wl⟩ := h
      exact ⟨_, rfl, q c ws H3 sm nc ew (by omega) (by omega)⟩
  obtain ⟨t, ht, hgo⟩ := tail
  refine ⟨_, pss_cons (ps_set (i := 2) scCells.nd rfl (.inl rfl) (pe_orT (pe_callTy call_list_of rfl ml boot_list (pa_cons (pe_slice sl_list (pv 0) po_none (po_some (pv 1))) pa_nil)) (pe_one (pe_lst (pa_cons pe_int pa_nil))))) ht, ?_⟩
  -- list(script[:utmost])
  refine ⟨_, rfl, _, rfl, (m : Int), rfl, a, _, rfl, ha, fun p np => ?_⟩
  have s1 : Same H (upd H p (.lst (cutV (ns.map V.int) none (some (m : Int))))) := same_new np
  refine ⟨p, _, rfl, .inl (SqL.of upd_same), fun c nc => ?_⟩
  have e0 : cutV (ns.map V.int) none (some (m : Int)) = (ns.take m).map V.int := by
    rw [cut_ints, HT.sIx_none, HT.sIx_nat, List.drop_zero, Nat.sub_zero]
    congr 1
    rcases Nat.le_total m ns.length with h | h
    · rw [Nat.min_eq_left h]
    · rw [Nat.min_eq_right h, List.take_of_length_le (Nat.le_refl _), List.take_of_length_le h]
  rw [e0] at nc s1 ⊢
  have s2 := s1.trans (same_new nc (o := .lst ((ns.take m).map V.int)))
  refine ⟨!((ns.take m).map V.int).isEmpty, .inl ⟨_, SqL.of upd_same, rfl⟩, ?_⟩
  cases hns : ns with
  | nil =>
    have em : ((([] : List Int).take m).map V.int) = [] := by rw [List.take_nil]; rfl
    rw [em]
    refine iteF ⟨(by show 1 ≤ sizeLine; decide), fun c2 nc2 => ?_⟩
    subst hns
    rw [em] at s2
    exact hgo c2 [0] _ (s2.trans (same_new nc2)) (s2.free nc2) upd_same (Nat.le_refl _) m1 (fun h => by simp at h)
  | cons n0 r =>
    obtain ⟨m', rfl⟩ : ∃ m', m = m' + 1 := ⟨m - 1, by omega⟩
    rw [← hns]
    have e1 : (ns.take (m' + 1)).map V.int ≠ [] := by rw [hns]; simp
    have e2 : (!((ns.take (m' + 1)).map V.int).isEmpty) = true := by
      cases h : (ns.take (m' + 1)).map V.int with
      | nil => exact absurd h e1
      | cons _ _ => rfl
    rw [e2]
    have hl : (ns.take (m' + 1)).length = min (m' + 1) ns.length := List.length_take
    have hn1 : 1 ≤ ns.length := by rw [hns]; simp
    exact iteT (hgo c (ns.take (m' + 1)) _ s2 (s1.free nc) upd_same (by omega) (by omega) (fun h => by omega))
/-! ### _law_box -/
theorem b01 (b : Bool) : -2 ^ 64 < (if b = true then (1 : Int) else 0) ∧ (if b = true then (1 : Int) else 0) < 2 ^ 64 := by cases b <;> decide
theorem scBox : FnScope ["_law_cells_here", "_law_k", "_law_cell"] ["_law_cells_here", "_law_k"] (defScope sBox) := ⟨rfl, rfl, rfl, by decide +kernel, rfl, by decide +kernel, by decide +kernel⟩
def spBox (K : PySem.W.Frag) : Sp := fun vs H Q _ => ∃ (a : Addr) (zs : List Int) (k : Nat), vs = [.ref a, .int k] ∧ SqL K H a (zs.map V.int) ∧ k < zs.length ∧
  ∀ (b : Addr) (x y : Int), H b = none → Q (.ref b) (upd H b (.lst [.int x, .int y, .int 0]))
theorem ok_box {f : Addr} {fd : FuncData} {k : Nat} (F : Fun K "_law_box" "_law_box" sBox f fd) (ma : mg "abs" = none) (mi : mg "int" = none) : FnOk P w K mg base CX0 (k + 1) f fd ["_law_cells_here", "_law_k"] (spBox K) := by
  refine F.ok scBox (fun vs H Q E h => ?_) (fun cdv A outer s H vs Q E hr h => ?_)
  · obtain ⟨a, zs, k, rfl, _⟩ := h
    rfl
  obtain ⟨a, zs, k, rfl, ha, hk, q⟩ := h
  refine ⟨_, pss_cons (ps_set (i := 2) scBox.nd rfl (.inl rfl) (pe_ix ix_list (pv 0) (pv 1) (fun _ _ => rfl)))
    (pss_one (ps_ret (pe_lst (pa_cons (pe_op op_mul (pe_callB call_abs rfl ma boot_abs' (pa_cons (pv 2) pa_nil)) (pe_callTy call_int1 rfl mi boot_int' (pa_cons (pe_cmpR op_ge (pe_callB call_abs rfl ma boot_abs' (pa_cons (pv 2) pa_nil)) (pe_op op_pow pe_int pe_int) (nomark _)) pa_nil)))
      (pa_cons (pe_op op_add (pe_op op_add (pe_op op_modN (pv 2) pe_int) (pe_op op_mul pe_int (pv 1))) pe_int) (pa_cons pe_int pa_nil)))))), ?_⟩
  have hx : atI (zs.map V.int) ((k : Nat) : Int) = some (.int zs[k]) := atI_nat (by rw [List.getElem?_map, List.getElem?_eq_getElem hk]; rfl)
  refine ⟨_, rfl, _, rfl, a, _, _, _, rfl, rfl, ha, hx, ?_⟩
  refine ⟨_, rfl, _, rfl, _, rfl, _, rfl, _, _, rfl, rfl, ⟨by decide, by decide, by decide⟩, _, _, rfl, rfl, .inr ⟨_, rfl, _, _, rfl, rfl, .inr ?_, ?_⟩⟩
  · exact b01 _
  · refine ⟨_, rfl, _, _, rfl, rfl, (by show (2305843009213693951 : Int) ≠ 0; decide), _, rfl, _, _, rfl, rfl, .inl ⟨by decide, by decide⟩, _, _, rfl, rfl, _, _, rfl, rfl, (by show 3 ≤ sizeLine; decide), fun b nb => ?_⟩
    exact q b _ _ nb
end
end XL
namespace XL
open PySem PySem.Spec PyProof.Rows L2
abbrev sCanal : Stmt := topS 29
theorem boot_range' : bootBuiltins "range" = some (.type "range") := by decide +kernel
section
variable {P : Program} {w : World} {K : PySem.W.Frag} {mg : Str → Option Value} {base : Heap}
theorem Dr.tp {b : Addr} {H H' : Hp} (h : Bx H b) (d : Dr b H H') : Tp H H' := by
  obtain ⟨x, y, z, e⟩ := h
  exact ⟨fun a xs q => d.same a _ (fun c => by rw [c, e] at q; cases q) q, fun a o xs q => d.same a _ (fun c => by rw [c, e] at q; cases q) q⟩
theorem Bx.ne {b p : Addr} {H : Hp} (h : Bx H b) (n : H p = none) : p ≠ b := fun e => by
  obtain ⟨x, y, z, q⟩ := h
  rw [e, q] at n; cases n
/-- a step besides the box: a new object, or one of ours written -/
theorem Dr.wr {b p : Addr} {H : Hp} {o : HO} (h : Bx H b) (n : p ≠ b) (hs : H p = none) : Dr b H (upd H p o) := Dr.new h hs
abbrev nCanal : List Str := ["_law_box_here", "_law_wide", "_law_utmost", "_law_sizes", "_law_sort", "_law_gates", "_law_k", "_law_ends", "_law_flood", "_law_size"]
theorem scCanal : FnScope nCanal ["_law_box_here", "_law_wide", "_law_utmost"] (defScope sCanal) := ⟨rfl, rfl, rfl, by decide +kernel, rfl, by decide +kernel, by decide +kernel⟩
def spCanal (K : PySem.W.Frag) : Sp := fun vs H Q _ => ∃ (b : Addr) (wide utmost : Nat), vs = [.ref b, .int wide, .int utmost] ∧ Bx H b ∧ 1 ≤ wide ∧ wide ≤ 100 ∧ utmost ≤ 100 ∧
  ∀ (c : Cn) (v : V) (H' : Hp), okCn wide utmost c → Dr b H H' → Dp K H' v (cnD c) → Q v H'
/-- the four ends of a gate -/
def endsV (l : Lk) : List V := [.int l.1, .int l.2.1, .int l.2.2.1, .int l.2.2.2]
theorem dp_lk {H : Hp} {a : Addr} {l : Lk} (h : SqT K H a (endsV l)) : Dp K H (.ref a) (lkD l) := .tup h (.cons (.int _) (.cons (.int _) (.cons (.int _) (.cons (.int _) .nil))))
/-- between two turns: b the box, z the sizes, g the gates -/
structure Gt (K : PySem.W.Frag) (b z g : Addr) (s0 s1 : Int) (n : Nat) (H0 H : Hp) (vs : List V) (ls : List Lk) : Prop where
  box : Bx H b
  old : ∀ a o, a ≠ b → H0 a = some o → H a = some o
  ez : H z = some (.lst [.int s0, .int s1])
  eg : H g = some (.lst vs)
  dp : DpAll K H vs (ls.map lkD)
  len : ls.length = n
  ok : ∀ l ∈ ls, okLk s0 s1 l
theorem Gt.draw {b z g : Addr} {s0 s1 : Int} {n : Nat} {H0 H H' : Hp} {vs : List V} {ls : List Lk} (q : Gt K b z g s0 s1 n H0 H vs ls) (hz : z ≠ b) (hg : g ≠ b) (d : Dr b H H') : Gt K b z g s0 s1 n H0 H' vs ls :=
  ⟨d.box, fun a o na e => d.same a o na (q.old a o na e), d.same _ _ hz q.ez, d.same _ _ hg q.eg, DpAll.tp (d.tp q.box) _ (noLs_lk ls) q.dp, q.len, q.ok⟩
theorem Gt.new {b z g p : Addr} {s0 s1 : Int} {n : Nat} {H0 H : Hp} {vs : List V} {ls : List Lk} {o : HO} (q : Gt K b z g s0 s1 n H0 H vs ls) (hz : z ≠ b) (hg : g ≠ b) (np : H p = none) : Gt K b z g s0 s1 n H0 (upd H p o) vs ls := q.draw hz hg (Dr.new q.box np)
def fbody : Stmt → List Stmt
  | .For _ _ b _ _ => b
  | _ => []
abbrev slC (b : Addr) (wide utmost : Nat) (z : Addr) (kind : Int) (g : Addr) (y6 y7 y8 y9 : Option V) : L2.St := [some (.ref b), some (.int wide), some (.int utmost), some (.ref z), some (.int kind), some (.ref g), y6, y7, y8, y9]
theorem ok_canal {f ft fo : Addr} {fd fdt fdo : FuncData} {k : Nat} (F : Fun K "_law_canal" "_law_canal" sCanal f fd) (FT : Fun K "_law_take" "_law_take" sTake ft fdt) (bT : Binds K fdt ["_law_box_here", "_law_size"] []) (gT : mg "_law_take" = some (.ref ft))
    (FO : Fun K "_law_of" "_law_of" sOf fo fdo) (bO : Binds K fdo ["_law_box_here", "_law_some"] []) (gO : mg "_law_of" = some (.ref fo)) (me : mg "len" = none) (ml : mg "list" = none) (mt : mg "tuple" = none) (mr : mg "range" = none) :
    FnOk P w K mg base CX0 (k + 1 + 1 + 1) f fd ["_law_box_here", "_law_wide", "_law_utmost"] (spCanal K) := by
  have GT : FnOk P w K mg base CX0 (k + 1) ft fdt ["_law_box_here", "_law_size"] spTake := ok_take FT
  have GO : FnOk P w K mg base CX0 (k + 1 + 1) fo fdo ["_law_box_here", "_law_some"] (spOf K) := ok_of FO FT bT gT me
  refine F.ok scCanal (fun vs H Q E h => ?_) (fun cdv A outer s H vs Q E hr h => ?_)
  · obtain ⟨b, wide, utmost, rfl, _⟩ := h
    rfl
  obtain ⟨b, wide, utmost, rfl, hb, w1, w2, u2, q⟩ := h
  have hr1 : Room (k + 1) _ := hr.mono (Nat.le_succ _)
  -- one turn behind the choice of the ends
  have tail : ∃ t, PSs (cxOf CX0 P w K mg base nCanal "_law_canal" (defScope sCanal) f cdv A outer s H E).nox ((fbody ((defBody sCanal).getD 2 (.Pass ⟨0, 0, 0, 0⟩))).drop 1) t ∧
      ∀ (D : Ends) (z g e : Addr) (kind s0 s1 : Int) (i : Nat) (y6 y8 y9 : Option V) (l : Lk) (vs : List V) (ls : List Lk) (H3 : Hp), z ≠ b → g ≠ b → z ≠ g → e ≠ g → H z = none → H g = none → Gt K b z g s0 s1 i H H3 vs ls → i ≤ 200 → H3 e = some (.lst (endsV l)) → okLk s0 s1 l →
        (∀ vs' H4, Gt K b z g s0 s1 (i + 1) H H4 vs' (ls ++ [l]) → D.nx (slC b wide utmost z kind g y6 (some (.ref e)) y8 y9) H4) → t D (slC b wide utmost z kind g y6 (some (.ref e)) y8 y9) H3 := by
    refine ⟨_, pss_one (ps_expr (pe_bm PySem.F.plainAttrs_list PySem.F.slot_list_append PySem.F.type_list_append mt_append (pv 5) (pa_cons (pe_callTy call_tuple_of rfl mt boot_tuple (pa_cons (pv 7) pa_nil)) pa_nil))), ?_⟩
    intro D z g e kind s0 s1 i y6 y8 y9 l vs ls H3 hzb hgb hzg heg nz ng hG hi he hl hnx
    refine ⟨_, rfl, .inl ⟨rfl, _, SqL.of hG.eg⟩, _, rfl, e, _, rfl, .inl ⟨SqL.of he, fun t nt => ?_⟩⟩
    have G1 := hG.new hzb hgb (o := .tup (endsV l)) nt
    have lv : vs.length = i := by rw [DpAll.length hG.dp, List.length_map, hG.len]
    refine ⟨g, _, _, rfl, rfl, G1.eg, ?_, hnx _ _ ⟨?_, ?_, ?_, upd_same, ?_, ?_, ?_⟩⟩
    · rw [lv]; exact small1000 (by omega)
    · obtain ⟨x, y, w, e⟩ := G1.box
      exact ⟨x, y, w, by rw [upd_ne (fun q => hgb q.symm)]; exact e⟩
    · intro a o na e
      rw [upd_ne (ne_of_none e ng)]; exact G1.old a o na e
    · rw [upd_ne hzg]; exact G1.ez
    · rw [List.map_append]
      have tp : Tp _ (upd (upd H3 t (.tup (endsV l))) g (.lst (vs ++ [.ref t]))) := Tp.upd G1.eg
      exact DpAll.app (DpAll.tp tp _ (noLs_lk ls) G1.dp) (.cons (dp_lk (.inl (.inl (tp.t _ _ upd_same)))) .nil)
    · rw [List.length_append, hG.len]; rfl
    · intro l' h
      rcases List.mem_append.mp h with h | h
      · exact hG.ok l' h
      · rw [List.mem_singleton.mp h]; exact hl
  obtain ⟨t, ht, hgo⟩ := tail
  refine ⟨_, pss_cons (ps_par rfl scCanal.nd (i := 3) (j := 4) rfl rfl (by decide) rfl rfl
      (pa_cons (pe_lc (own := [("_law_flood", 8)]) (g := gName 8) (tt := tYes) rfl scCanal.nd (pi_range1 rfl mr (pa_cons pe_int pa_nil)) (blkOk_by (own := [("_law_flood", 8)]) (N := nCanal) (sc := defScope sCanal) (by decide +kernel))
          (fun _ _ _ _ _ => pg_name (i := 8) scCanal.nd rfl (Or.inl rfl)) (fun _ _ _ _ _ => pts_nil) (fun _ _ _ _ _ => pe_hide (pe_op op_add pe_int (pe_call GT hr1 rfl gT FT.kp bT .nil pass0 (pa_cons (pv 0) (pa_cons (pv 1) pa_nil))))))
        (pa_cons (pe_call GT hr1 rfl gT FT.kp bT .nil pass0 (pa_cons (pv 0) (pa_cons pe_int pa_nil))) pa_nil)) rfl)
    (pss_cons (ps_set (i := 5) scCanal.nd rfl (.inl rfl) (pe_lst pa_nil))
    (pss_cons (ps_for PassesOwn.never rfl (pi_range1 rfl mr (pa_cons (pe_call GT hr1 rfl gT FT.kp bT .nil pass0 (pa_cons (pv 0) (pa_cons (pe_op op_add (pv 2) pe_int) pa_nil))) pa_nil)) (pg_name (i := 6) scCanal.nd rfl (.inl rfl))
      (pss_cons (ps_if (PW.pt (pw_and (pt_cmpR op_eq (pv 4) pe_int (nomark _)) (pw_and1 (pt_cmpR (op_neD hr.units) (pv 5) (pe_lst pa_nil) (nomark _)))))
          (pss_one (ps_set (i := 7) scCanal.nd rfl (.inl rfl) (pe_op op_cat (pe_slice sl_list (pe_callTy call_list_of rfl ml boot_list (pa_cons (pe_ix ix_list (pv 5) (pe_un un_neg pe_int) (fun _ _ => rfl)) pa_nil)) po_none (po_some pe_int))
            (pe_lst (pa_cons (pe_call GT hr1 rfl gT FT.kp bT .nil pass0 (pa_cons (pv 0) (pa_cons (pe_ix ix_list (pv 3) pe_int (fun _ _ => rfl)) pa_nil))) (pa_cons (pe_call GT hr1 rfl gT FT.kp bT .nil pass0 (pa_cons (pv 0) (pa_cons (pe_ix ix_list (pv 3) pe_int (fun _ _ => rfl)) pa_nil))) pa_nil))))))
          (pss_one (ps_if (pt_cmpR op_eq (pv 4) pe_int (nomark _))
            (pss_one (ps_set (i := 7) scCanal.nd rfl (.inl rfl) (pe_lst (pa_cons (pe_op op_modN (pv 6) (pe_ix ix_list (pv 3) pe_int (fun _ _ => rfl))) (pa_cons (pe_op op_modN (pe_op op_add (pv 6) pe_int) (pe_ix ix_list (pv 3) pe_int (fun _ _ => rfl)))
              (pa_cons (pe_call GT hr1 rfl gT FT.kp bT .nil pass0 (pa_cons (pv 0) (pa_cons (pe_ix ix_list (pv 3) pe_int (fun _ _ => rfl)) pa_nil))) (pa_cons (pe_call GT hr1 rfl gT FT.kp bT .nil pass0 (pa_cons (pv 0) (pa_cons (pe_ix ix_list (pv 3) pe_int (fun _ _ => rfl)) pa_nil))) pa_nil)))))))
            (pss_one (ps_if (PW.pt (pw_and (pt_cmpR op_eq (pv 4) pe_int (nomark _)) (pw_and1 (pt_cmpR (op_neD hr.units) (pv 5) (pe_lst pa_nil) (nomark _)))))
              (pss_cons (ps_set (i := 7) scCanal.nd rfl (.inl rfl) (pe_callTy call_list_of rfl ml boot_list (pa_cons (pe_call GO hr rfl gO FO.kp bO .nil pass0 (pa_cons (pv 0) (pa_cons (pv 5) pa_nil))) pa_nil)))
                (pss_one (ps_asg pe_int (pg_sub (pv 7) (pe_call GT hr1 rfl gT FT.kp bT .nil pass0 (pa_cons (pv 0) (pa_cons pe_int pa_nil))) set_list))))
              (pss_one (ps_setLc (i := 7) (own := [("_law_size", 9)]) (g := gName 9) (tt := tYes) rfl scCanal.nd rfl rfl (sw_true rfl rfl rfl (by decide +kernel)) (pi_seq (pe_tup (pa_cons (pe_ix ix_list (pv 3) pe_int (fun _ _ => rfl)) (pa_cons (pe_ix ix_list (pv 3) pe_int (fun _ _ => rfl)) (pa_cons (pe_ix ix_list (pv 3) pe_int (fun _ _ => rfl)) (pa_cons (pe_ix ix_list (pv 3) pe_int (fun _ _ => rfl)) pa_nil))))))
                (blkOk_by (own := [("_law_size", 9)]) (N := nCanal) (sc := defScope sCanal) (by decide +kernel)) (fun _ _ _ _ _ => pg_name (i := 9) scCanal.nd rfl (Or.inl rfl)) (fun _ _ _ _ _ => pts_nil)
                (fun _ _ _ _ _ => pe_hide (pe_call GT hr1 rfl gT FT.kp bT .nil pass0 (pa_cons (pv 0) (pa_cons (pv 9) pa_nil)))))))))))
        ht))
    (pss_one (ps_ret (pe_tup (pa_cons (pe_ix ix_list (pv 3) pe_int (fun _ _ => rfl)) (pa_cons (pe_ix ix_list (pv 3) pe_int (fun _ _ => rfl)) (pa_cons (pe_callTy call_tuple_of rfl mt boot_tuple (pa_cons (pv 5) pa_nil)) pa_nil)))))))), ?_⟩
  refine ⟨2, rfl, by decide, by decide, lc_map walk_range (Dr b) (fun a b => a.trans b) (fun i y F => ∃ x : Int, y = .int x ∧ 1 ≤ x ∧ x ≤ wide) (fun i y A B _ p => p) (by decide) (Dr.refl hb) (fun _ _ _ _ _ => trivial) (fun i x D acc F H' hi nD dF nF hy B hB => ?_) (fun z ys F nz dF nF hl hR => ?_)⟩
  · obtain ⟨rfl, rfl⟩ := hy
    refine hB _ F rfl nF fun Qt hq => ?_
    refine ⟨_, rfl, _, rfl, b, _, rfl, dF.box, by omega, by omega, fun v F' v0 v1 d => ⟨_, _, rfl, rfl, hq _ _ d ⟨_, rfl, by omega, by omega⟩⟩⟩
  have hys : ∃ s0 s1 : Int, ys = [.int s0, .int s1] ∧ 1 ≤ s0 ∧ s0 ≤ wide ∧ 1 ≤ s1 ∧ s1 ≤ wide := by
    match ys, hl with
    | [y0, y1], _ =>
      obtain ⟨s0, rfl, a1, a2⟩ := hR 0 y0 rfl
      obtain ⟨s1, rfl, c1, c2⟩ := hR 1 y1 rfl
      exact ⟨s0, s1, rfl, a1, a2, c1, c2⟩
  obtain ⟨s0, s1, rfl, a1, a2, c1, c2⟩ := hys
  have hzb : z ≠ b := hb.ne nz
  have d1 : Dr b H (upd F z (.lst [.int s0, .int s1])) := dF.trans (Dr.new dF.box nF)
  refine ⟨_, rfl, b, 5, rfl, d1.box, by decide, by decide, fun kind H2 k0 k1 d2 => ?_⟩
  refine ⟨_, _, rfl, ?_⟩
  -- gates = []
  refine ⟨(by show 0 ≤ sizeLine; decide), fun g ng => ?_⟩
  have d12 := d1.trans d2
  have ez2 : H2 z = some (.lst [.int s0, .int s1]) := d2.same z _ hzb upd_same
  have hgb : g ≠ b := d2.box.ne ng
  have hzg : z ≠ g := ne_of_none ez2 ng
  have ngH : H g = none := by
    cases e : H g with
    | none => rfl
    | some o => rw [d12.same g o hgb e] at ng; cases ng
  have d3 : Dr b H (upd H2 g (.lst [])) := d12.trans (Dr.new d2.box ng)
  -- the number of gates
  refine ⟨_, rfl, _, rfl, _, _, rfl, rfl, b, _, rfl, d3.box, by omega, by omega, fun n H3 n0 n1 d4 => ?_⟩
  have d34 := d3.trans d4
  have G0 : Gt K b z g s0 s1 0 H H3 [] [] := ⟨d34.box, fun a o na e => d34.same a o na e, d4.same z _ hzb (by rw [upd_ne hzg]; exact ez2), d4.same g _ hgb upd_same, .nil, rfl, fun l h => by simp at h⟩
  refine ⟨n, rfl, by omega, by omega, for_it walk_range (fun i σ H4 => ∃ y6 y7 y8 y9 vs ls, σ = slC b wide utmost z kind g y6 y7 y8 y9 ∧ Gt K b z g s0 s1 i H H4 vs ls) ⟨none, none, none, none, [], [], rfl, G0⟩ (fun _ _ _ _ _ => trivial) (fun i x σ H4 H5 hi h hy => ?_) (fun σ H4 h => ?_)⟩
  · obtain ⟨y6, y7, y8, y9, vs, ls, rfl, hG⟩ := h
    obtain ⟨rfl, rfl⟩ := hy
    have hi2 : i ≤ 200 := by omega
    -- what is left, by the ends that were chosen
    have fin : ∀ (D : Ends) (e : Addr) (l : Lk) (y8 y9 : Option V) (H6 : Hp) (vs : List V) (ls : List Lk), D.nx = (fun σ H4 => ∃ y6 y7 y8 y9 vs ls, σ = slC b wide utmost z kind g y6 y7 y8 y9 ∧ Gt K b z g s0 s1 (i + 1) H H4 vs ls) →
        Gt K b z g s0 s1 i H H6 vs ls → e ≠ g → H6 e = some (.lst (endsV l)) → okLk s0 s1 l → t D (slC b wide utmost z kind g (some (.int (0 + i))) (some (.ref e)) y8 y9) H6 := by
      intro D e l y8 y9 H6 vs ls hD hG heg he hl
      refine hgo D z g e kind s0 s1 i _ y8 y9 l vs ls H6 hzb hgb hzg heg nz ngH hG hi2 he hl fun vs' H7 hG7 => ?_
      rw [hD]
      exact ⟨_, _, _, _, vs', _, rfl, hG7⟩
    -- two draws by the blues' size
    have draw1 : ∀ (H6 : Hp) (vs : List V) (ls : List Lk) (Q' : V → Hp → Prop), Gt K b z g s0 s1 i H H6 vs ls → (∀ (x : Int) (H7 : Hp), 0 ≤ x → x < s1 → Gt K b z g s0 s1 i H H7 vs ls → Dr b H6 H7 → Q' (.int x) H7) →
        spTake ([.ref b, .int s1] ++ []) H6 Q' E0 := by
      intro H6 vs ls Q' hG h
      exact ⟨b, s1, rfl, hG.box, by omega, by omega, fun v H7 v0 v1 d => h v H7 v0 v1 (hG.draw hzb hgb d) d⟩
    -- kind == 1 and gates != []
    have neq : ∀ (H6 : Hp) (vs : List V) (ls : List Lk) (p : Addr) (Q' : Bool → Hp → Prop), Gt K b z g s0 s1 i H H6 vs ls → H6 p = none → (∀ H7, Gt K b z g s0 s1 i H H7 vs ls → Q' (!ls.isEmpty) H7) →
        rNeD K (.ref g) (.ref p) (upd H6 p (.lst [])) (fun v H7 => ∃ k, v = .bl k ∧ Q' k H7) := by
      intro H6 vs ls p Q' hG np h
      have G7 := hG.new hzb hgb (o := .lst []) np
      refine ⟨.list (ls.map lkD), .list [], .lst (SqL.of G7.eg) G7.dp, .lst (SqL.of upd_same) .nil, lks_shaped ls, nil_shaped, _, rfl, ?_⟩
      rw [eqv_nil]
      exact h _ G7
    have fst : ∀ {xs : List V} {l : Lk} {a : Addr} {H6 : Hp}, Dp K H6 (.ref a) (lkD l) → SqT K H6 a (endsV l) := by
      intro xs l a H6 h
      cases h with
      | tup hs ha =>
        cases ha with
        | cons p1 ha => cases p1; cases ha with
          | cons p2 ha => cases p2; cases ha with
            | cons p3 ha => cases p3; cases ha with
              | cons p4 ha => cases p4; cases ha; exact hs
    have lkref : ∀ {v : V} {l : Lk} {H6 : Hp}, Dp K H6 v (lkD l) → ∃ a, v = .ref a ∧ SqT K H6 a (endsV l) := by
      intro v l H6 h
      have h' := h
      cases h with
      | tup hs ha => exact ⟨_, rfl, fst (xs := []) h'⟩
    refine ⟨_, rfl, rfl, _, rfl, ?_⟩
    by_cases hk1 : kind = 1
    · subst hk1
      refine iteT ⟨_, rfl, (by show 0 ≤ sizeLine; decide), fun p np => neq _ vs ls p _ hG np fun H6 G6 => ?_⟩
      cases ls with
      | nil =>
        refine iteF ⟨_, rfl, rfl, _, rfl, iteF ⟨_, rfl, rfl, _, rfl, iteF ?_⟩⟩
        refine ⟨_, rfl, z, _, _, _, rfl, rfl, SqL.of G6.ez, rfl, _, rfl, z, _, _, _, rfl, rfl, SqL.of G6.ez, rfl, _, rfl, z, _, _, _, rfl, rfl, SqL.of G6.ez, rfl, _, rfl, z, _, _, _, rfl, rfl, SqL.of G6.ez, rfl, (by show 4 ≤ sizeLine; decide), fun p np => ?_⟩
        have G8 := G6.new hzb hgb (o := .tup [.int s0, .int s0, .int s1, .int s1]) np
        have hpb : p ≠ b := G6.box.ne np
        refine ⟨p, [.int s0, .int s0, .int s1, .int s1], rfl, .inr (.inl (.inl upd_same)), fun J wk => lc_map wk (Dr b) (fun a b => a.trans b) (fun j y F => ∃ x : Int, y = .int x ∧ 0 ≤ x ∧ ∀ sz : Int, [s0, s0, s1, s1][j]? = some sz → x < sz) (fun j y A B _ p => p) (by show 4 < sizeLine; decide) (Dr.refl G8.box) (fun F D acc dF nF => ?_) (fun j x D acc F H' hj nD dF nF hy B hB => ?_) (fun D ys F nD dF nF hl hR => ?_)⟩
        · exact ⟨fun _ h => (same_new nF).seq (dF.sqL hpb h), fun h => Same.tup (same_new nF) (dF.sqT hpb h)⟩
        · obtain ⟨rfl, hx⟩ := hy
          have hx' : ∃ sz : Int, x = .int sz ∧ [s0, s0, s1, s1][j]? = some sz ∧ 1 ≤ sz ∧ sz ≤ wide := by
            match j, hj, hx with
            | 0, _, hx => exact ⟨s0, (Option.some.inj hx).symm, rfl, a1, a2⟩
            | 1, _, hx => exact ⟨s0, (Option.some.inj hx).symm, rfl, a1, a2⟩
            | 2, _, hx => exact ⟨s1, (Option.some.inj hx).symm, rfl, c1, c2⟩
            | 3, _, hx => exact ⟨s1, (Option.some.inj hx).symm, rfl, c1, c2⟩
          obtain ⟨sz, rfl, hsz, z1, z2⟩ := hx'
          refine hB _ F rfl nF fun Qt hq => ?_
          exact ⟨_, rfl, _, rfl, b, sz, rfl, dF.box, by omega, by omega, fun v F' v0 v1 d => hq _ _ d ⟨v, rfl, v0, fun sz' e => by rw [hsz] at e; cases e; exact v1⟩⟩
        · have hys : ∃ l : Lk, ys = endsV l ∧ okLk s0 s1 l := by
            match ys, hl with
            | [y0, y1, y2, y3], _ =>
              obtain ⟨x0, rfl, p0, q0⟩ := hR 0 _ rfl
              obtain ⟨x1, rfl, p1, q1⟩ := hR 1 _ rfl
              obtain ⟨x2, rfl, p2, q2⟩ := hR 2 _ rfl
              obtain ⟨x3, rfl, p3, q3⟩ := hR 3 _ rfl
              exact ⟨(x0, x1, x2, x3), rfl, ⟨p0, q0 _ rfl, p1, q1 _ rfl, p2, q2 _ rfl, p3, q3 _ rfl⟩⟩
          obtain ⟨l, rfl, okl⟩ := hys
          have G9 := (G8.draw hzb hgb dF).new hzb hgb (o := .lst (endsV l)) nF
          exact fin _ D l _ _ _ _ _ rfl G9 (fun e => by rw [e, G8.eg] at nD; cases nD) upd_same okl
      | cons l0 lr =>
        refine iteT ?_
        obtain ⟨vs', v', rfl⟩ : ∃ vs' v', vs = vs' ++ [v'] := by
          have hv : vs ≠ [] := fun e => by have := DpAll.length G6.dp; rw [e] at this; simp at this
          exact ⟨vs.dropLast, vs.getLast hv, (List.dropLast_concat_getLast hv).symm⟩
        have hvl : (vs' ++ [v']).length = (l0 :: lr).length := by rw [DpAll.length G6.dp, List.length_map]
        obtain ⟨d, ed, pd⟩ := DpAll.get G6.dp (i := vs'.length) (v := v') (by rw [List.getElem?_append_right (Nat.le_refl _), Nat.sub_self]; rfl)
        rw [List.getElem?_map] at ed
        cases el : (l0 :: lr)[vs'.length]? with
        | none => rw [el] at ed; cases ed
        | some l =>
          rw [el] at ed
          cases ed
          have okl := G6.ok l (List.mem_of_getElem? el)
          obtain ⟨a, rfl, ha⟩ := lkref pd
          refine ⟨_, rfl, 1, rfl, g, _, _, _, rfl, rfl, SqL.of G6.eg, atI_last _ _, a, _, rfl, .inr ha, fun c nc => ?_⟩
          have G7 := G6.new hzb hgb (o := .lst (endsV l)) nc
          refine ⟨2, rfl, c, _, rfl, SqL.of upd_same, fun c2 nc2 => ?_⟩
          have G8 := G7.new hzb hgb (o := .lst [.int l.1, .int l.2.1]) nc2
          have hc2b : c2 ≠ b := G7.box.ne nc2
          refine ⟨_, rfl, _, rfl, z, _, _, _, rfl, rfl, SqL.of G8.ez, rfl, b, s1, rfl, G8.box, by omega, by omega, fun x H7 x0 x1 dd1 => ?_⟩
          have G9 := G8.draw hzb hgb dd1
          refine ⟨_, rfl, _, rfl, z, _, _, _, rfl, rfl, SqL.of G9.ez, rfl, b, s1, rfl, G9.box, by omega, by omega, fun y H8 y0 y1 dd2 => ?_⟩
          have G10 := G9.draw hzb hgb dd2
          refine ⟨(by show 2 ≤ sizeLine; decide), fun c3 nc3 => ?_⟩
          have G11 := G10.new hzb hgb (o := .lst [.int x, .int y]) nc3
          have ec2 : H8 c2 = some (.lst [.int l.1, .int l.2.1]) := dd2.same _ _ hc2b (dd1.same _ _ hc2b upd_same)
          refine ⟨c2, c3, [.int l.1, .int l.2.1], [.int x, .int y], rfl, rfl, by rw [upd_ne (ne_of_none ec2 nc3)]; exact ec2, upd_same, (by show 2 + 2 ≤ sizeLine; decide), fun c4 nc4 => ?_⟩
          have G12 := G11.new hzb hgb (o := .lst (endsV (l.1, l.2.1, x, y))) nc4
          exact fin _ c4 (l.1, l.2.1, x, y) _ _ _ _ _ rfl G12 (fun e => by rw [e, G11.eg] at nc4; cases nc4) upd_same ⟨okl.a0, okl.a1, okl.c0, okl.c1, x0, x1, y0, y1⟩
    · have e1 : decide (V.int kind = V.int 1) = false := decide_eq_false fun e => hk1 (V.int.inj e)
      rw [e1]
      refine iteF (iteF ⟨_, rfl, rfl, _, rfl, ?_⟩)
      by_cases hk2 : kind = 2
      · subst hk2
        have f1 := fmod_lt (a := 0 + (i : Int)) (n := s0) (by omega)
        have f2 := fmod_lt (a := 0 + (i : Int) + 1) (n := s0) (by omega)
        refine iteT ⟨_, rfl, _, rfl, z, _, _, _, rfl, rfl, SqL.of hG.ez, rfl, _, _, rfl, rfl, by omega, _, rfl, _, _, rfl, rfl, _, rfl, z, _, _, _, rfl, rfl, SqL.of hG.ez, rfl, _, _, rfl, rfl, by omega, ?_⟩
        refine ⟨_, rfl, _, rfl, z, _, _, _, rfl, rfl, SqL.of hG.ez, rfl, b, s1, rfl, hG.box, by omega, by omega, fun x H7 x0 x1 dd1 => ?_⟩
        have G9 := hG.draw hzb hgb dd1
        refine ⟨_, rfl, _, rfl, z, _, _, _, rfl, rfl, SqL.of G9.ez, rfl, b, s1, rfl, G9.box, by omega, by omega, fun y H8 y0 y1 dd2 => ?_⟩
        have G10 := G9.draw hzb hgb dd2
        refine ⟨(by show 4 ≤ sizeLine; decide), fun c3 nc3 => ?_⟩
        have G11 := G10.new hzb hgb (o := .lst (endsV ((0 + (i : Int)).fmod s0, (0 + (i : Int) + 1).fmod s0, x, y))) nc3
        exact fin _ c3 ((0 + (i : Int)).fmod s0, (0 + (i : Int) + 1).fmod s0, x, y) _ _ _ _ _ rfl G11 (fun e => by rw [e, G10.eg] at nc3; cases nc3) upd_same ⟨f1.1, f1.2, f2.1, f2.2, x0, x1, y0, y1⟩
      · have e2 : decide (V.int kind = V.int 2) = false := decide_eq_false fun e => hk2 (V.int.inj e)
        rw [e2]
        refine iteF ⟨_, rfl, rfl, _, rfl, ?_⟩
        by_cases hk3 : kind = 3
        · subst hk3
          refine iteT ⟨_, rfl, (by show 0 ≤ sizeLine; decide), fun p np => neq _ vs ls p _ hG np fun H6 G6 => ?_⟩
          cases ls with
          | nil =>
            refine iteF ?_
            refine ⟨_, rfl, z, _, _, _, rfl, rfl, SqL.of G6.ez, rfl, _, rfl, z, _, _, _, rfl, rfl, SqL.of G6.ez, rfl, _, rfl, z, _, _, _, rfl, rfl, SqL.of G6.ez, rfl, _, rfl, z, _, _, _, rfl, rfl, SqL.of G6.ez, rfl, (by show 4 ≤ sizeLine; decide), fun p np => ?_⟩
            have G8 := G6.new hzb hgb (o := .tup [.int s0, .int s0, .int s1, .int s1]) np
            have hpb : p ≠ b := G6.box.ne np
            refine ⟨p, [.int s0, .int s0, .int s1, .int s1], rfl, .inr (.inl (.inl upd_same)), fun J wk => lc_map wk (Dr b) (fun a b => a.trans b) (fun j y F => ∃ x : Int, y = .int x ∧ 0 ≤ x ∧ ∀ sz : Int, [s0, s0, s1, s1][j]? = some sz → x < sz) (fun j y A B _ p => p) (by show 4 < sizeLine; decide) (Dr.refl G8.box) (fun F D acc dF nF => ?_) (fun j x D acc F H' hj nD dF nF hy B hB => ?_) (fun D ys F nD dF nF hl hR => ?_)⟩
            · exact ⟨fun _ h => (same_new nF).seq (dF.sqL hpb h), fun h => Same.tup (same_new nF) (dF.sqT hpb h)⟩
            · obtain ⟨rfl, hx⟩ := hy
              have hx' : ∃ sz : Int, x = .int sz ∧ [s0, s0, s1, s1][j]? = some sz ∧ 1 ≤ sz ∧ sz ≤ wide := by
                match j, hj, hx with
                | 0, _, hx => exact ⟨s0, (Option.some.inj hx).symm, rfl, a1, a2⟩
                | 1, _, hx => exact ⟨s0, (Option.some.inj hx).symm, rfl, a1, a2⟩
                | 2, _, hx => exact ⟨s1, (Option.some.inj hx).symm, rfl, c1, c2⟩
                | 3, _, hx => exact ⟨s1, (Option.some.inj hx).symm, rfl, c1, c2⟩
              obtain ⟨sz, rfl, hsz, z1, z2⟩ := hx'
              refine hB _ F rfl nF fun Qt hq => ?_
              exact ⟨_, rfl, _, rfl, b, sz, rfl, dF.box, by omega, by omega, fun v F' v0 v1 d => hq _ _ d ⟨v, rfl, v0, fun sz' e => by rw [hsz] at e; cases e; exact v1⟩⟩
            · have hys : ∃ l : Lk, ys = endsV l ∧ okLk s0 s1 l := by
                match ys, hl with
                | [y0, y1, y2, y3], _ =>
                  obtain ⟨x0, rfl, p0, q0⟩ := hR 0 _ rfl
                  obtain ⟨x1, rfl, p1, q1⟩ := hR 1 _ rfl
                  obtain ⟨x2, rfl, p2, q2⟩ := hR 2 _ rfl
                  obtain ⟨x3, rfl, p3, q3⟩ := hR 3 _ rfl
                  exact ⟨(x0, x1, x2, x3), rfl, ⟨p0, q0 _ rfl, p1, q1 _ rfl, p2, q2 _ rfl, p3, q3 _ rfl⟩⟩
              obtain ⟨l, rfl, okl⟩ := hys
              have G9 := (G8.draw hzb hgb dF).new hzb hgb (o := .lst (endsV l)) nF
              exact fin _ D l _ _ _ _ _ rfl G9 (fun e => by rw [e, G8.eg] at nD; cases nD) upd_same okl
          | cons l0 lr =>
            refine iteT ?_
            have hv : vs ≠ [] := fun e => by have := DpAll.length G6.dp; rw [e] at this; simp at this
            have hvl : vs.length ≤ 200 := by rw [DpAll.length G6.dp, List.length_map, G6.len]; exact hi2
            refine ⟨_, rfl, _, rfl, b, g, vs, rfl, G6.box, hgb, SqL.of G6.eg, hv, by omega, fun j v H7 ej dd => ?_⟩
            have G7 := G6.draw hzb hgb dd
            obtain ⟨d, ed, pd⟩ := DpAll.get G7.dp ej
            rw [List.getElem?_map] at ed
            cases el : (l0 :: lr)[j]? with
            | none => rw [el] at ed; cases ed
            | some l =>
              rw [el] at ed
              cases ed
              have okl := G7.ok l (List.mem_of_getElem? el)
              obtain ⟨a, rfl, ha⟩ := lkref pd
              refine ⟨a, _, rfl, .inr ha, fun c nc => ?_⟩
              have G8 := G7.new hzb hgb (o := .lst (endsV l)) nc
              have hcb : c ≠ b := G7.box.ne nc
              have hcg : c ≠ g := fun e => by rw [e, G7.eg] at nc; cases nc
              have hcz : c ≠ z := fun e => by rw [e, G7.ez] at nc; cases nc
              refine ⟨_, rfl, _, rfl, b, 4, rfl, G8.box, by decide, by decide, fun j2 H9 j0 j1 dd2 => ?_⟩
              have G9 := G8.draw hzb hgb dd2
              have ec : H9 c = some (.lst (endsV l)) := dd2.same c _ hcb upd_same
              refine ⟨c, _, _, j2.toNat, rfl, rfl, ec, ?_, ?_⟩
              · unfold ixN
                rw [if_pos j0, if_pos (by show j2 < 4; exact j1)]
              · have G10 : Gt K b z g s0 s1 i H (upd H9 c (.lst ((endsV l).set j2.toNat (.int 0)))) vs (l0 :: lr) := by
                  refine ⟨?_, fun a o na e => ?_, ?_, ?_, DpAll.tp (Tp.upd ec) _ (noLs_lk _) G9.dp, G9.len, G9.ok⟩
                  · obtain ⟨x, y, w, e⟩ := G9.box
                    exact ⟨x, y, w, by rw [upd_ne (fun q => hcb q.symm)]; exact e⟩
                  · by_cases hac : a = c
                    · exfalso
                      rw [hac] at e
                      rw [G7.old c o hcb e] at nc; cases nc
                    · rw [upd_ne hac]; exact G9.old a o na e
                  · rw [upd_ne (fun q => hcz q.symm)]; exact G9.ez
                  · rw [upd_ne (fun q => hcg q.symm)]; exact G9.eg
                have hset : ∃ l2 : Lk, (endsV l).set j2.toNat (.int 0) = endsV l2 ∧ okLk s0 s1 l2 := by
                  have hj : j2.toNat = 0 ∨ j2.toNat = 1 ∨ j2.toNat = 2 ∨ j2.toNat = 3 := by omega
                  rcases hj with e | e | e | e <;> rw [e]
                  · exact ⟨(0, l.2.1, l.2.2.1, l.2.2.2), rfl, ⟨Int.le_refl 0, by show 0 < s0; omega, okl.c0, okl.c1, okl.x0, okl.x1, okl.y0, okl.y1⟩⟩
                  · exact ⟨(l.1, 0, l.2.2.1, l.2.2.2), rfl, ⟨okl.a0, okl.a1, Int.le_refl 0, by show 0 < s0; omega, okl.x0, okl.x1, okl.y0, okl.y1⟩⟩
                  · exact ⟨(l.1, l.2.1, 0, l.2.2.2), rfl, ⟨okl.a0, okl.a1, okl.c0, okl.c1, Int.le_refl 0, by show 0 < s1; omega, okl.y0, okl.y1⟩⟩
                  · exact ⟨(l.1, l.2.1, l.2.2.1, 0), rfl, ⟨okl.a0, okl.a1, okl.c0, okl.c1, okl.x0, okl.x1, Int.le_refl 0, by show 0 < s1; omega⟩⟩
                obtain ⟨l2, el2, ok2⟩ := hset
                rw [el2] at G10 ⊢
                exact fin _ c l2 _ _ _ _ _ rfl G10 hcg upd_same ok2
        · have e3 : decide (V.int kind = V.int 3) = false := decide_eq_false fun e => hk3 (V.int.inj e)
          rw [e3]
          refine iteF (iteF ?_)
          refine ⟨_, rfl, z, _, _, _, rfl, rfl, SqL.of hG.ez, rfl, _, rfl, z, _, _, _, rfl, rfl, SqL.of hG.ez, rfl, _, rfl, z, _, _, _, rfl, rfl, SqL.of hG.ez, rfl, _, rfl, z, _, _, _, rfl, rfl, SqL.of hG.ez, rfl, (by show 4 ≤ sizeLine; decide), fun p np => ?_⟩
          have G8 := hG.new hzb hgb (o := .tup [.int s0, .int s0, .int s1, .int s1]) np
          have hpb : p ≠ b := hG.box.ne np
          refine ⟨p, [.int s0, .int s0, .int s1, .int s1], rfl, .inr (.inl (.inl upd_same)), fun J wk => lc_map wk (Dr b) (fun a b => a.trans b) (fun j y F => ∃ x : Int, y = .int x ∧ 0 ≤ x ∧ ∀ sz : Int, [s0, s0, s1, s1][j]? = some sz → x < sz) (fun j y A B _ p => p) (by show 4 < sizeLine; decide) (Dr.refl G8.box) (fun F D acc dF nF => ?_) (fun j x D acc F H' hj nD dF nF hy B hB => ?_) (fun D ys F nD dF nF hl hR => ?_)⟩
          · exact ⟨fun _ h => (same_new nF).seq (dF.sqL hpb h), fun h => Same.tup (same_new nF) (dF.sqT hpb h)⟩
          · obtain ⟨rfl, hx⟩ := hy
            have hx' : ∃ sz : Int, x = .int sz ∧ [s0, s0, s1, s1][j]? = some sz ∧ 1 ≤ sz ∧ sz ≤ wide := by
              match j, hj, hx with
              | 0, _, hx => exact ⟨s0, (Option.some.inj hx).symm, rfl, a1, a2⟩
              | 1, _, hx => exact ⟨s0, (Option.some.inj hx).symm, rfl, a1, a2⟩
              | 2, _, hx => exact ⟨s1, (Option.some.inj hx).symm, rfl, c1, c2⟩
              | 3, _, hx => exact ⟨s1, (Option.some.inj hx).symm, rfl, c1, c2⟩
            obtain ⟨sz, rfl, hsz, z1, z2⟩ := hx'
            refine hB _ F rfl nF fun Qt hq => ?_
            exact ⟨_, rfl, _, rfl, b, sz, rfl, dF.box, by omega, by omega, fun v F' v0 v1 d => hq _ _ d ⟨v, rfl, v0, fun sz' e => by rw [hsz] at e; cases e; exact v1⟩⟩
          · have hys : ∃ l : Lk, ys = endsV l ∧ okLk s0 s1 l := by
              match ys, hl with
              | [y0, y1, y2, y3], _ =>
                obtain ⟨x0, rfl, p0, q0⟩ := hR 0 _ rfl
                obtain ⟨x1, rfl, p1, q1⟩ := hR 1 _ rfl
                obtain ⟨x2, rfl, p2, q2⟩ := hR 2 _ rfl
                obtain ⟨x3, rfl, p3, q3⟩ := hR 3 _ rfl
                exact ⟨(x0, x1, x2, x3), rfl, ⟨p0, q0 _ rfl, p1, q1 _ rfl, p2, q2 _ rfl, p3, q3 _ rfl⟩⟩
            obtain ⟨l, rfl, okl⟩ := hys
            have G9 := (G8.draw hzb hgb dF).new hzb hgb (o := .lst (endsV l)) nF
            exact fin _ D l _ _ _ _ _ rfl G9 (fun e => by rw [e, G8.eg] at nD; cases nD) upd_same okl
  · obtain ⟨y6, y7, y8, y9, vs, ls, rfl, hG⟩ := h
    refine ⟨_, rfl, z, _, _, _, rfl, rfl, SqL.of hG.ez, rfl, _, rfl, z, _, _, _, rfl, rfl, SqL.of hG.ez, rfl, _, rfl, g, _, rfl, .inl ⟨SqL.of hG.eg, fun t nt => ?_⟩⟩
    refine ⟨(by show 3 ≤ sizeLine; decide), fun r nr => ?_⟩
    have s1' : Same H4 (upd H4 t (.tup vs)) := same_new nt
    have s2' : Same _ (upd (upd H4 t (.tup vs)) r (.tup [.int s0, .int s1, .ref t])) := same_new nr
    refine q ⟨s0, s1, ls⟩ _ _ ⟨a1, a2, c1, c2, by rw [hG.len]; omega, hG.ok⟩ (Dr.trans (b := b) (H1 := H4) ⟨hG.box, hG.old⟩ (Dr.of hG.box (s1'.trans s2'))) ?_
    exact .tup (.inl (.inl upd_same)) (.cons (.int _) (.cons (.int _) (.cons (.tup (.inl (.inl (s2' _ _ upd_same))) (DpAll.same (s1'.trans s2') _ hG.dp)) .nil)))
end
end XL
namespace XL
-- optVs
open PySem PySem.Spec PyProof.Rows L2
theorem nil_go {σ : L2.St} {H : Hp} {Q : List V → Hp → Prop} (h : Q [] H) : tNil σ H Q := h
theorem cons_c {v : V} {ta : TA} {σ : L2.St} {H : Hp} {Q : List V → Hp → Prop} (h : ta σ H fun vs H1 => Q (v :: vs) H1) : tCons (tC v) ta σ H Q := h
theorem sq_keep {K : PySem.W.Frag} {H F : Hp} {a : Addr} {xs : List V} (s : Same H F) : (¬ SqT K H a xs → SqL K H a xs → SqL K F a xs) ∧ (SqT K H a xs → SqT K F a xs) := by
  refine ⟨fun _ h => ?_, fun h => ?_⟩
  · rcases h with (h | ⟨o, h⟩) | h
    · exact .inl (.inl (s _ _ h))
    · exact .inl (.inr ⟨o, s _ _ h⟩)
    · exact .inr h
  · rcases h with (h | ⟨o, h⟩) | h
    · exact .inl (.inl (s _ _ h))
    · exact .inl (.inr ⟨o, s _ _ h⟩)
    · exact .inr h
/-! ### words that are numbers, as rows of signs -/
abbrev Dg (c : Nat) : Prop := 48 ≤ c ∧ c ≤ 57
abbrev valL (w : List Nat) : Nat := NumText.digitsVal w
theorem valL_snoc (v : List Nat) (c : Nat) : valL (v ++ [c]) = valL v * 10 + (c - 48) := by
  show (v ++ [c]).foldl _ 0 = _
  rw [List.foldl_append]; rfl
theorem snoc_ind {p : List Nat → Prop} (h0 : p []) (h1 : ∀ v c, p v → p (v ++ [c])) (w : List Nat) : p w := by
  have h : ∀ n (w : List Nat), w.length = n → p w := by
    intro n
    induction n with
    | zero => intro w e; rw [List.length_eq_zero_iff.mp e]; exact h0
    | succ n ih =>
      intro w e
      have ne : w ≠ [] := fun z => by rw [z] at e; simp at e
      rw [← List.dropLast_concat_getLast ne]
      exact h1 _ _ (ih _ (by rw [List.length_dropLast, e]; rfl))
  exact h _ w rfl
theorem valL_lt : ∀ {w : List Nat}, (∀ c ∈ w, Dg c) → valL w < 10 ^ w.length := by
  intro w
  refine snoc_ind (p := fun w => (∀ c ∈ w, Dg c) → valL w < 10 ^ w.length) (fun _ => by decide) (fun v c ih => ?_) w
  intro hd
  rw [valL_snoc, List.length_append]
  have h1 := ih fun d h => hd d (List.mem_append_left _ h)
  have h2 := hd c (by simp)
  show _ < 10 ^ (v.length + 1)
  rw [Nat.pow_succ]
  omega
theorem log2_small {n : Nat} (h : n < 10 ^ 13) : ((n : Nat) : Int).natAbs.log2 < 1920 := by
  rw [Int.natAbs_natCast]
  by_cases h0 : n = 0
  · rw [h0]; decide
  · have := (Nat.log2_lt (k := 44) h0).mpr (by omega)
    omega
/-- no needless nought before it -/
def Tight (w : List Nat) : Prop := w.head? ≠ some 48 ∨ w = [48]
theorem valL_pos : ∀ {w : List Nat}, (∀ c ∈ w, Dg c) → w ≠ [] → w.head? ≠ some 48 → 1 ≤ valL w := by
  intro w
  refine snoc_ind (p := fun w => (∀ c ∈ w, Dg c) → w ≠ [] → w.head? ≠ some 48 → 1 ≤ valL w) (fun _ h => absurd rfl h) (fun v c ih => ?_) w
  · intro hd _ hh
    rw [valL_snoc]
    by_cases hv : v = []
    · subst hv
      have := hd c (by simp)
      have h48 : c ≠ 48 := fun z => hh (by rw [z]; rfl)
      omega
    · have : 1 ≤ valL v := ih (fun d h => hd d (List.mem_append_left _ h)) hv (by
        cases v with
        | nil => exact absurd rfl hv
        | cons a r => simpa using hh)
      omega
theorem num_back : ∀ {w : List Nat}, (∀ c ∈ w, Dg c) → w ≠ [] → Tight w → TL.numL (valL w) = w := by
  intro w
  refine snoc_ind (p := fun w => (∀ c ∈ w, Dg c) → w ≠ [] → Tight w → TL.numL (valL w) = w) (fun _ h => absurd rfl h) (fun v c ih => ?_) w
  · intro hd _ ht
    have hc := hd c (by simp)
    rw [valL_snoc]
    by_cases hv : v = []
    · subst hv
      show TL.numL (0 * 10 + (c - 48)) = [c]
      rw [TL.numL_lt (by omega)]
      congr 1; omega
    · have hdv : ∀ d ∈ v, Dg d := fun d h => hd d (List.mem_append_left _ h)
      have hh : v.head? ≠ some 48 := by
        rcases ht with h | h
        · cases v with
          | nil => exact absurd rfl hv
          | cons a r => simpa using h
        · cases v with
          | nil => exact absurd rfl hv
          | cons a r => simp at h
      have hp := valL_pos hdv hv hh
      rw [TL.numL_step (by omega)]
      have e1 : (valL v * 10 + (c - 48)) / 10 = valL v := by omega
      have e2 : 48 + (valL v * 10 + (c - 48)) % 10 = c := by omega
      rw [e1, e2, ih hdv hv (.inl hh)]
theorem numL_tight (n : Nat) : Tight (TL.numL n) := by
  induction n using Nat.strongRecOn with
  | _ n ih =>
    by_cases h : n < 10
    · rw [TL.numL_lt h]
      by_cases h0 : n = 0
      · exact .inr (by rw [h0])
      · refine .inl fun z => h0 ?_
        have : 48 + n = 48 := by simpa using z
        omega
    · rw [TL.numL_step (by omega)]
      refine .inl ?_
      have ne := TL.numL_ne (n / 10)
      have := ih (n / 10) (by omega)
      rcases this with q | q
      · cases e : TL.numL (n / 10) with
        | nil => exact absurd e ne
        | cons a r => rw [e] at q; simpa using q
      · have : TL.numL (n / 10) = TL.numL 0 := by rw [q, TL.numL_lt (by decide)]
        have := TL.numL_inj this
        omega
/-- the number that a word tells -/
def okNum (w : List Nat) : Bool := decide (w ≠ []) && decide (w.length ≤ 13) && w.all (fun c => decide (48 ≤ c) && decide (c ≤ 57)) && decide (w.head? ≠ some 48 ∨ w = [48])
def numIn (w : List Nat) : Option Nat := if okNum w = true then some (valL w) else none
theorem okNum_iff {w : List Nat} : okNum w = true ↔ w ≠ [] ∧ w.length ≤ 13 ∧ (∀ c ∈ w, Dg c) ∧ Tight w := by
  unfold okNum Tight
  simp only [Bool.and_eq_true, decide_eq_true_eq, List.all_eq_true, and_assoc]
theorem numIn_numL {n : Nat} (h : n < 10 ^ 13) : numIn (TL.numL n) = some n := by
  unfold numIn
  rw [if_pos (okNum_iff.mpr ⟨TL.numL_ne n, TL.numL_len (by decide) h, TL.numL_digits n, numL_tight n⟩)]; show some (NumText.digitsVal _) = _; rw [TL.numL_val]
/-- a row of words, each a number -/
def numsIn (ws : List (List Nat)) : Option (List Nat) := ws.mapM numIn
theorem numsIn_of {zs : List Nat} (h : ∀ z ∈ zs, z < 10 ^ 13) : numsIn (zs.map TL.numL) = some zs := by
  unfold numsIn
  induction zs with
  | nil => rfl
  | cons z zs ih =>
    rw [List.map_cons, List.mapM_cons, numIn_numL (h z (List.mem_cons_self ..)), ih fun y hy => h y (List.mem_cons_of_mem _ hy)]
    rfl
/-- a number, or None -/
def optV : Option Nat → V
  | none => .non
  | some n => .int (n : Nat)
theorem nums_none : ∀ ws : List (List Nat), V.non ∈ ws.map (fun w => optV (numIn w)) ↔ numsIn ws = none
  | [] => by simp [numsIn]
  | w :: ws => by
    have ih := nums_none ws
    unfold numsIn at ih ⊢
    rw [List.map_cons, List.mem_cons, List.mapM_cons]
    cases e : numIn w with
    | none => simp [optV]
    | some n =>
      have : V.non ≠ optV (some n) := by intro z; cases z
      rw [ih]
      cases e2 : ws.mapM numIn with
      | none => simp
      | some ns => simp [this]
theorem nums_some : ∀ {ws : List (List Nat)} {ns : List Nat}, numsIn ws = some ns → ws.map (fun w => optV (numIn w)) = ns.map fun n => V.int (n : Nat)
  | [], ns, h => by
    have h' : some [] = some ns := h
    obtain rfl := Option.some.inj h'
    rfl
  | w :: ws, ns, h => by
    unfold numsIn at h
    rw [List.mapM_cons] at h
    cases e : numIn w with
    | none => rw [e] at h; cases h
    | some n =>
      cases e2 : ws.mapM numIn with
      | none => rw [e, e2] at h; cases h
      | some ms =>
        rw [e, e2] at h
        have h' : some (n :: ms) = some ns := h
        obtain rfl := Option.some.inj h'
        rw [List.map_cons, nums_some (ns := ms) e2, List.map_cons, e]
        rfl
end XL
namespace XL
open PySem PySem.Spec PyProof.Rows L2
abbrev sNi : Stmt := topS 15
theorem dec_str (x y : Str) : decide (V.str x = V.str y) = decide (TL.tl x = TL.tl y) := by
  by_cases h : TL.tl x = TL.tl y
  · rw [decide_eq_true h, decide_eq_true (show V.str x = V.str y by rw [TL.ext_tl h])]
  · rw [decide_eq_false h, decide_eq_false fun z => h (by injection z with z; rw [z])]
theorem tl_digs : TL.tl (Str.ofString "0123456789") = [48, 49, 50, 51, 52, 53, 54, 55, 56, 57] := by decide +kernel
theorem in_digs (c : Nat) : decide (c ∈ (Str.ofString "0123456789").cps.toList) = (decide (48 ≤ c) && decide (c ≤ 57)) := by
  show decide (c ∈ TL.tl (Str.ofString "0123456789")) = _
  rw [tl_digs, Bool.eq_iff_iff]
  simp only [List.mem_cons, List.not_mem_nil, or_false, decide_eq_true_eq, Bool.and_eq_true]
  omega
section
variable {P : Program} {w : World} {K : PySem.W.Frag} {mg : Str → Option Value} {base : Heap}
abbrev nNi : List Str := ["word", "sign"]
theorem scNi : FnScope nNi ["word"] (defScope sNi) := ⟨rfl, rfl, rfl, by decide +kernel, rfl, by decide +kernel, by decide +kernel⟩
def spNi : Sp := fun vs H Q _ => ∃ x : Str, vs = [.str x] ∧ x.length ≤ sizeLine ∧ ∀ H' : Hp, Same H H' → Q (optV (numIn (TL.tl x))) H'
theorem ok_ni {f : Addr} {fd : FuncData} {k : Nat} {t1 t2 : Tok} (F : Fun K "number_in" "number_in" sNi f fd) (gFIG : mg "FIGURES" = some (.str (Str.ofString "0123456789") t1)) (gMF : mg "MOST_FIGURES" = some (.int 13 t2)) (m_len : mg "len" = none) (m_all : mg "all" = none) (m_int : mg "int" = none) : FnOk P w K mg base CX0 (k + 1) f fd ["word"] spNi := by
  refine F.ok scNi (fun vs H Q E h => ?_) (fun cdv A outer s0 H vs Q E hr h => ?_)
  · obtain ⟨x, rfl, _⟩ := h
    rfl
  obtain ⟨x, rfl, hx, q⟩ := h
  refine ⟨_, (pss_cons (ps_if (PW.pt (pw_or (pt_cmpR op_eq (pv 0) pe_str (nomark _)) (pw_or (pt_cmpR op_gt (pe_callB call_len_str rfl m_len PySem.boot_len (pa_cons (pv 0) pa_nil)) (pe_glob (v := .int 13) rfl gMF ⟨_, rfl⟩) (nomark _)) (pw_or1 (pt_not (pt_val (pe_callB (r := rAll K) (cr_all rfl) rfl m_all boot_all (pa_cons (pe_lc (own := [("sign", 1)]) (g := gName 1) (tt := tYes) rfl scNi.nd (pi_str (pv 0)) (blkOk_by (own := [("sign", 1)]) (N := nNi) (sc := defScope sNi) (by decide +kernel)) (fun _ _ _ _ _ => (pg_name (i := 1) scNi.nd rfl (.inl rfl))) (fun _ _ _ _ _ => pts_nil) (fun _ _ _ _ _ => pe_hide (pe_cmpR op_in_sign (pv 1) (pe_glob (v := .str (Str.ofString "0123456789")) rfl gFIG ⟨_, rfl⟩) (by rfl)))) pa_nil)))))))) (pss_one (ps_ret pe_non)) pss_nil)
    (pss_cons (ps_if (PW.pt (pw_and (pt_cmpR op_eq (pe_ix ix_str (pv 0) pe_int (fun _ _ => rfl)) pe_str (nomark _)) (pw_and1 (pt_cmpR op_ne (pv 0) pe_str (nomark _))))) (pss_one (ps_ret pe_non)) pss_nil)
    (pss_one (ps_ret (pe_callTy call_int_str rfl m_int boot_int' (pa_cons (pv 0) pa_nil)))))), ?_⟩
  have e0 : TL.tl (Str.ofString "") = [] := by decide +kernel
  have e48 : TL.tl (Str.ofString "0") = [48] := by decide +kernel
  have xl : x.length = (TL.tl x).length := TL.len_tl x
  obtain ⟨w, hw⟩ : ∃ w, w = TL.tl x := ⟨_, rfl⟩
  rw [← hw] at q xl
  have no : numIn w = none → ∀ G, Same H G → Q .non G := fun h G s => by
    have := q G s
    rw [h] at this
    exact this
  refine ⟨_, rfl, rfl, _, rfl, ?_⟩
  rw [dec_str, e0, ← hw]
  by_cases h0 : w = []
  · rw [decide_eq_true h0]
    exact iteT (iteT (no (by unfold numIn; rw [if_neg fun z => (okNum_iff.mp z).1 h0]) H (Same.refl _)))
  rw [decide_eq_false h0]
  refine iteF ⟨_, rfl, nil_go ⟨x, rfl, hx, ?_⟩⟩
  refine ⟨_, _, rfl, rfl, _, rfl, ?_⟩
  by_cases h1 : 13 < w.length
  · rw [decide_eq_true (show (13 : Int) < ((x.length : Nat) : Int) by omega)]
    exact iteT (iteT (no (by unfold numIn; rw [if_neg fun z => (by have := (okNum_iff.mp z).2.1; omega)]) H (Same.refl _)))
  rw [decide_eq_false (show ¬ (13 : Int) < ((x.length : Nat) : Int) by omega)]
  refine iteF ?_
  have hsz : x.cps.size = w.length := by rw [hw]; show x.cps.size = x.cps.toList.length; rw [Array.length_toList]
  refine ⟨_, rfl, x, rfl, lc_map walk_str Same (fun a b => a.trans b) (fun i y F => ∃ c, w[i]? = some c ∧ y = .bl (decide (48 ≤ c) && decide (c ≤ 57))) (fun i y A B _ h => h) (by rw [hsz]; exact Nat.lt_of_le_of_lt (by omega : w.length ≤ 13) (by decide)) (Same.refl _) (fun _ _ _ _ _ => trivial) (fun j y D acc F H' hj nD sF nF hy B hB => ?_) (fun D ys F nD sF nF hl hR => ?_)⟩
  · obtain ⟨rfl, c, hc, rfl⟩ := hy
    refine hB _ F rfl nF fun Qt hq => ?_
    refine ⟨_, rfl, c, _, rfl, rfl, hq _ _ (Same.refl _) ⟨c, ?_, by rw [in_digs]⟩⟩
    rw [hw]
    show x.cps.toList[j]? = _
    rw [Array.getElem?_toList]; exact hc
  have hl' : ys.length = w.length := by rw [hl, hsz]
  have ey : ys = (w.map fun c => decide (48 ≤ c) && decide (c ≤ 57)).map V.bl := by
    refine List.ext_getElem? fun i => ?_
    rw [List.getElem?_map, List.getElem?_map]
    cases e : ys[i]? with
    | none =>
      rw [List.getElem?_eq_none_iff] at e
      rw [List.getElem?_eq_none_iff.mpr (by omega)]; rfl
    | some y =>
      obtain ⟨c, h1, rfl⟩ := hR i y e
      rw [h1]; rfl
  refine nil_go ⟨D, w.map fun c => decide (48 ≤ c) && decide (c ≤ 57), rfl, by rw [← ey]; exact SqL.of upd_same, ?_⟩
  have s1 : Same H (upd F D (.lst ys)) := sF.trans (same_new nF)
  generalize upd F D (.lst ys) = G at s1
  clear hl hR ey hl' nF nD sF
  refine ⟨_, rfl, ?_⟩
  rw [List.all_map]
  by_cases hd : ∀ c ∈ w, Dg c
  rotate_left
  · rw [show (w.all (id ∘ fun c => decide (48 ≤ c) && decide (c ≤ 57))) = false from by
      rw [Bool.eq_false_iff]
      intro z
      refine hd fun c hc => ?_
      have := List.all_eq_true.mp z c hc
      simpa using this]
    exact iteT (no (by unfold numIn; rw [if_neg fun z => hd (okNum_iff.mp z).2.2.1]) G s1)
  rw [show (w.all (id ∘ fun c => decide (48 ≤ c) && decide (c ≤ 57))) = true from List.all_eq_true.mpr fun c hc => by
    have := hd c hc
    simp [this.1, this.2]]
  refine iteF ?_
  obtain ⟨c0, r0, hw0⟩ : ∃ c0 r0, w = c0 :: r0 := by
    cases w with
    | nil => exact absurd rfl h0
    | cons a r => exact ⟨a, r, rfl⟩
  have at0 : atI x.cps.toList (0 : Int) = some c0 := atI_int (by decide) (by
    show (TL.tl x)[0]? = _
    rw [← hw, hw0]; rfl)
  refine ⟨_, rfl, x, 0, c0, rfl, rfl, hx, at0, rfl, _, rfl, ?_⟩
  have hc1 : TL.tl (⟨#[c0]⟩ : Str) = [c0] := rfl
  rw [dec_str, e48, hc1]
  have fin : Tight w → Q (.int (valL w : Nat)) G := fun ht => by
    have hn : numIn w = some (valL w) := by
      unfold numIn
      rw [if_pos (okNum_iff.mpr ⟨h0, by omega, hd, ht⟩)]
    have := q G s1
    rw [hn] at this
    exact this
  have hint : intText? x = some ((valL w : Nat) : Int) := by
    have := intText_digits (x := x) (by rw [show x.cps.toList = w from hw.symm]; exact hd) (by rw [show x.cps.toList = w from hw.symm]; exact h0) (by omega)
    rw [show x.cps.toList = w from hw.symm] at this
    exact this
  by_cases hz : c0 = 48
  · rw [decide_eq_true (show [c0] = [48] by rw [hz])]
    refine iteT ⟨_, rfl, rfl, _, rfl, ?_⟩
    rw [dec_str, e48, ← hw]
    by_cases h48 : w = [48]
    · rw [decide_eq_true h48]
      exact iteF ⟨_, rfl, nil_go ⟨x, _, rfl, hint, by omega, fin (.inr h48)⟩⟩
    · rw [decide_eq_false h48]
      have key : ¬ okNum w = true := fun z => by
        rcases (okNum_iff.mp z).2.2.2 with t | t
        · exact t (by rw [hw0, hz]; rfl)
        · exact h48 t
      exact iteT (no (by unfold numIn; rw [if_neg key]) G s1)
  · rw [decide_eq_false (show ¬ [c0] = [48] by intro z; injection z with z; exact hz z)]
    exact iteF ⟨_, rfl, nil_go ⟨x, _, rfl, hint, by omega, fin (.inl (by rw [hw0]; intro z; exact hz (Option.some.inj z)))⟩⟩
end
end XL
namespace XL
open PySem PySem.Spec PyProof.Rows L2
/-! ### stripped of signs: nothing is left when all are such -/
theorem takeWhile_len {g : Nat → Bool} : ∀ l : List Nat, (l.takeWhile g).length = l.length ↔ ∀ c ∈ l, g c = true
  | [] => by simp
  | a :: r => by
    rw [List.takeWhile_cons]
    by_cases h : g a = true
    · rw [if_pos h]
      have := takeWhile_len (g := g) r
      simp only [List.length_cons, List.mem_cons, forall_eq_or_imp, h, true_and]
      rw [← this]; omega
    · rw [if_neg h]
      simp only [List.length_nil, List.length_cons, List.mem_cons, forall_eq_or_imp, h]
      simp
theorem strip_none_iff (g : Nat → Bool) (x : Str) : TL.tl (Txt.stripBy g true true x) = [] ↔ ∀ c ∈ TL.tl x, g c = true := by
  rw [stripBy_eq, TL.tl_strSub]
  have hl : x.length = (TL.tl x).length := TL.len_tl x
  have elo : stripLo g true x = ((TL.tl x).takeWhile g).length := rfl
  rw [elo]
  have ehi : ∀ lo, stripHi g true x lo = (TL.tl x).length - (((TL.tl x).drop lo).reverse.takeWhile g).length := fun lo => by rw [← hl]; rfl
  rw [ehi]
  generalize TL.tl x = l
  have h1 := takeWhile_len_le g l
  constructor
  · intro h
    refine (takeWhile_len l).mp ?_
    have h2 := congrArg List.length h
    rw [List.length_take, List.length_drop, List.length_nil] at h2
    rcases Nat.lt_or_ge (l.takeWhile g).length l.length with q | q
    · exfalso
      have hd : l.drop (l.takeWhile g).length ≠ [] := fun z => by
        have := congrArg List.length z
        rw [List.length_drop, List.length_nil] at this
        omega
      have hn : (((l.drop (l.takeWhile g).length).reverse).takeWhile g).length < (l.drop (l.takeWhile g).length).length := by
        have le := takeWhile_len_le g (l.drop (l.takeWhile g).length).reverse
        rw [List.length_reverse] at le
        refine Nat.lt_of_le_of_ne le fun z => ?_
        have all := (takeWhile_len _).mp (by rw [z, List.length_reverse])
        obtain ⟨c, hc⟩ : ∃ c, l[(l.takeWhile g).length]? = some c := ⟨_, List.getElem?_eq_getElem q⟩
        have gc := all c (List.mem_reverse.mpr (List.mem_of_getElem? (i := 0) (by rw [List.getElem?_drop]; exact hc)))
        rcases takeWhile_stop g 0 l with s | s
        · omega
        · rw [List.getD_eq_getElem?_getD, hc] at s
          simp at s
          rw [gc] at s; cases s
      rw [List.length_drop] at hn
      omega
    · omega
  · intro h
    rw [(takeWhile_len l).mpr h, List.drop_length]
    exact List.take_nil
end XL
namespace XL
open PySem PySem.Spec PyProof.Rows L2
abbrev sLn : Stmt := topS 30
abbrev sLs : Stmt := topS 31
section
variable {P : Program} {w : World} {K : PySem.W.Frag} {mg : Str → Option Value} {base : Heap}
abbrev nLn : List Str := ["_law_word"]
theorem scLn : FnScope nLn ["_law_word"] (defScope sLn) := ⟨rfl, rfl, rfl, by decide +kernel, rfl, by decide +kernel, by decide +kernel⟩
theorem ok_ln {f : Addr} {fd : FuncData} {k : Nat} (F : Fun K "_law_number_in" "_law_number_in" sLn f fd) (m_len : mg "len" = none) (m_int : mg "int" = none) (m_str : mg "str" = none) : FnOk P w K mg base CX0 (k + 1) f fd ["_law_word"] spNi := by
  refine F.ok scLn (fun vs H Q E h => ?_) (fun cdv A outer s0 H vs Q E hr h => ?_)
  · obtain ⟨x, rfl, _⟩ := h
    rfl
  obtain ⟨x, rfl, hx, q⟩ := h
  refine ⟨_, (pss_cons (ps_if (PW.pt (pw_or (pt_not (pt_chain op_lt op_lt pe_int (pe_callB call_len_str rfl m_len PySem.boot_len (pa_cons (pv 0) pa_nil)) pe_int)) (pw_or1 (pt_cmpR op_ne (pe_m1 PySem.F.slot_str_strip PySem.F.type_str_strip mt_stripChars (pv 0) pe_str) pe_str (nomark _))))) (pss_one (ps_ret pe_non)) pss_nil)
    (pss_one (ps_ret (pe_ifExp (pt_cmpR op_eq (pe_callTy call_str_int rfl m_str boot_str' (pa_cons (pe_callTy call_int_str rfl m_int boot_int' (pa_cons (pv 0) pa_nil)) pa_nil)) (pv 0) (nomark _)) (pe_callTy call_int_str rfl m_int boot_int' (pa_cons (pv 0) pa_nil)) pe_non)))), ?_⟩
  have e0 : TL.tl (Str.ofString "") = [] := by decide +kernel
  have xl : x.length = (TL.tl x).length := TL.len_tl x
  obtain ⟨w, hw⟩ : ∃ w, w = TL.tl x := ⟨_, rfl⟩
  rw [← hw] at q xl
  have no : ¬ okNum w = true → Q .non H := fun h => by
    have := q H (Same.refl _)
    unfold numIn at this
    rw [if_neg h] at this
    exact this
  refine ⟨_, rfl, x, rfl, hx, ?_⟩
  refine ⟨_, _, rfl, rfl, _, rfl, ?_⟩
  by_cases h0 : w = []
  · rw [decide_eq_false (show ¬ (0 : Int) < ((x.length : Nat) : Int) by rw [xl, h0]; decide)]
    exact iteF ⟨_, rfl, iteT (iteT (no fun z => (okNum_iff.mp z).1 h0))⟩
  have wl : 1 ≤ w.length := List.length_pos_iff.mpr h0
  rw [decide_eq_true (show (0 : Int) < ((x.length : Nat) : Int) by omega)]
  refine iteT ⟨_, _, rfl, rfl, _, rfl, ?_⟩
  by_cases h1 : 13 < w.length
  · rw [decide_eq_false (show ¬ ((x.length : Nat) : Int) < 14 by omega)]
    exact iteT (iteT (no fun z => by have := (okNum_iff.mp z).2.1; omega))
  rw [decide_eq_true (show ((x.length : Nat) : Int) < 14 by omega)]
  refine iteF ?_
  refine ⟨_, rfl, ⟨_, rfl⟩, x, _, rfl, rfl, hx, rfl, _, rfl, ?_⟩
  rw [dec_str, e0]
  have hs : TL.tl (Txt.stripChars x (Str.ofString "0123456789")) = [] ↔ ∀ c ∈ w, Dg c := by
    rw [hw]
    refine (strip_none_iff _ x).trans ⟨fun h c hc => ?_, fun h c hc => ?_⟩
    · have := h c hc
      rw [Array.contains_eq_mem] at this
      have e := in_digs c
      simp only [Array.mem_toList_iff] at e
      rw [this] at e
      have e := e.symm
      rw [Bool.and_eq_true, decide_eq_true_eq, decide_eq_true_eq] at e
      exact e
    · have := h c hc
      rw [Array.contains_eq_mem]
      have e := in_digs c
      simp only [Array.mem_toList_iff] at e
      rw [e, decide_eq_true this.1, decide_eq_true this.2]; rfl
  by_cases hd : ∀ c ∈ w, Dg c
  · rw [decide_eq_true (hs.mpr hd)]
    refine iteF ?_
    have hint : intText? x = some ((valL w : Nat) : Int) := by
      have := intText_digits (x := x) (by rw [show x.cps.toList = w from hw.symm]; exact hd) (by rw [show x.cps.toList = w from hw.symm]; exact h0) (by omega)
      rw [show x.cps.toList = w from hw.symm] at this
      exact this
    have lv : valL w < 10 ^ 13 := Nat.lt_of_lt_of_le (valL_lt hd) (Nat.pow_le_pow_right (by decide) (by omega))
    refine ⟨_, rfl, nil_go ⟨x, _, rfl, hint, by omega, nil_go ⟨_, rfl, log2_small lv, _, rfl, rfl, _, rfl, ?_⟩⟩⟩
    rw [dec_str, TL.tl_num, ← hw]
    by_cases ht : Tight w
    · rw [decide_eq_true (num_back hd h0 ht)]
      refine iteT ⟨_, rfl, nil_go ⟨x, _, rfl, hint, by omega, ?_⟩⟩
      have := q H (Same.refl _)
      unfold numIn at this
      rw [if_pos (okNum_iff.mpr ⟨h0, by omega, hd, ht⟩)] at this
      exact this
    · rw [decide_eq_false fun z => ht (by rw [← z]; exact numL_tight _)]
      exact iteF (no fun z => ht (okNum_iff.mp z).2.2.2)
  · rw [decide_eq_false fun z => hd (hs.mp z)]
    exact iteT (no fun z => hd (okNum_iff.mp z).2.2.1)
end
end XL
namespace XL
open PySem PySem.Spec PyProof.Rows L2
theorem in_non : ∀ ws : List (List Nat), inV .non (ws.map fun w => optV (numIn w)) = (numsIn ws).isNone
  | [] => rfl
  | w :: ws => by
    have ih := in_non ws
    unfold inV at ih ⊢
    rw [List.map_cons, List.any_cons, ih]
    unfold numsIn
    rw [List.mapM_cons]
    cases e : numIn w with
    | none => rfl
    | some n => cases e2 : ws.mapM numIn <;> rfl
theorem flat_opt : ∀ ws : List (List Nat), (ws.map fun w => optV (numIn w)).all flatV = true
  | [] => rfl
  | w :: ws => by
    rw [List.map_cons, List.all_cons, flat_opt ws]
    cases numIn w <;> rfl
section
variable {P : Program} {w : World} {K : PySem.W.Frag} {mg : Str → Option Value} {base : Heap}
abbrev nLs : List Str := ["_law_words", "_law_found", "_law_word"]
theorem scLs : FnScope nLs ["_law_words"] (defScope sLs) := ⟨rfl, rfl, rfl, by decide +kernel, rfl, by decide +kernel, by decide +kernel⟩
def spLs (K : PySem.W.Frag) : Sp := fun vs H Q _ => ∃ (a : Addr) (ys : List Str), vs = [.ref a] ∧ SqL K H a (ys.map V.str) ∧ (∀ y ∈ ys, y.length ≤ sizeLine) ∧ ys.length ≤ 100000 ∧
  (∀ H' : Hp, numsIn (ys.map TL.tl) = none → Same H H' → Q .non H') ∧
  (∀ (ns : List Nat) (p : Addr) (H' : Hp), numsIn (ys.map TL.tl) = some ns → Same H H' → H p = none → H' p = some (.lst (ns.map fun n => V.int (n : Nat))) → Q (.ref p) H')
/-- the words one by one -/
theorem opt_of {ys : List Str} {zs : List V} {F : Hp} (hl : zs.length = ys.length) (hR : ∀ (i : Nat) z, zs[i]? = some z → ∃ y, ys[i]? = some y ∧ z = optV (numIn (TL.tl y))) : zs = (ys.map TL.tl).map fun w => optV (numIn w) := by
  refine List.ext_getElem? fun i => ?_
  rw [List.getElem?_map, List.getElem?_map]
  cases e : zs[i]? with
  | none =>
    rw [List.getElem?_eq_none_iff] at e
    rw [List.getElem?_eq_none_iff.mpr (by omega)]; rfl
  | some z =>
    obtain ⟨y, h1, rfl⟩ := hR i z e
    rw [h1]; rfl
theorem ok_ls {f fn : Addr} {fd fdn : FuncData} {k : Nat} (F : Fun K "_law_numbers_in" "_law_numbers_in" sLs f fd) (Ln : Fns P w K mg base k "_law_number_in" ["_law_word"] spNi fn fdn) : FnOk P w K mg base CX0 (k + 1) f fd ["_law_words"] (spLs K) := by
  refine F.ok scLs (fun vs H Q E h => ?_) (fun cdv A outer s0 H vs Q E hr h => ?_)
  · obtain ⟨a, ys, rfl, _⟩ := h
    rfl
  obtain ⟨a, ys, rfl, ha, hy, hn, qn, qs⟩ := h
  refine ⟨_, (pss_cons (ps_setLc (i := 1) (own := [("_law_word", 2)]) (g := gName 2) (tt := tYes) rfl scLs.nd rfl rfl (sw_true rfl rfl rfl (by decide +kernel)) (pi_seq (pv 0)) (blkOk_by (own := [("_law_word", 2)]) (N := nLs) (sc := defScope sLs) (by decide +kernel)) (fun _ _ _ _ _ => (pg_name (i := 2) scLs.nd rfl (.inl rfl))) (fun _ _ _ _ _ => pts_nil) (fun _ _ _ _ _ => pe_hide (pe_fn Ln hr rfl (pa_cons (pv 2) pa_nil))))
    (pss_one (ps_ret (pe_ifExp (pt_cmpR op_in_seq pe_non (pv 1) (by rfl)) pe_non (pv 1))))), ?_⟩
  refine ⟨_, rfl, a, _, rfl, .inl ha, fun J wk => lc_map wk Same (fun a b => a.trans b) (fun i z F => ∃ y, ys[i]? = some y ∧ z = optV (numIn (TL.tl y))) (fun i y A B _ h => h) (by rw [List.length_map]; exact Nat.lt_of_le_of_lt hn (by rw [sizeLine_eq]; decide)) (Same.refl _) (fun F D acc sF nF => sq_keep (sF.trans (same_new nF))) (fun j z D acc F H' hj nD sF nF hy2 B hB => ?_) (fun D zs F nD sF nF hl hR => ?_)⟩
  · obtain ⟨rfl, hz⟩ := hy2
    rw [List.getElem?_map] at hz
    obtain ⟨y, h1, rfl⟩ := Option.map_eq_some_iff.mp hz
    refine hB _ F rfl nF fun Qt hq => ?_
    exact ⟨_, rfl, nil_go ⟨y, rfl, hy y (List.mem_of_getElem? h1), fun H1 s1 => hq _ _ s1 ⟨y, h1, rfl⟩⟩⟩
  · rw [List.length_map] at hl
    have ez := opt_of (F := F) hl hR
    have s1 : Same H (upd F D (.lst zs)) := sF.trans (same_new nF)
    have e1 : (upd F D (.lst zs)) D = some (.lst zs) := upd_same
    generalize upd F D (.lst zs) = G at s1 e1
    refine at_g (σ' := [some (.ref a), some (.ref D), none]) rfl ?_
    refine ⟨_, rfl, D, zs, rfl, .inl (SqL.of e1), rfl, by rw [ez]; exact flat_opt _, _, rfl, ?_⟩
    show (if inV .non zs = true then _ else _)
    rw [ez, in_non]
    cases e : numsIn (ys.map TL.tl) with
    | none => exact iteT (qn G e s1)
    | some ns => exact iteF ⟨_, rfl, qs ns D G e s1 nD (by rw [e1, ez, nums_some e])⟩
end
end XL
namespace XL
open PySem PySem.Spec PyProof.Rows L2
abbrev sRt : Stmt := topS 16
/-- a number's text; a row's text -/
def numS (n : Nat) : Str := Str.ofString (toString ((n : Nat) : Int))
theorem tl_numS (n : Nat) : TL.tl (numS n) = TL.numL n := TL.tl_num n
def rowT (word : Str) (ns : List Nat) : Str := Txt.join (Str.ofString " ") (word :: ns.map numS)
theorem numS_len {n : Nat} (h : n < 10 ^ 13) : (numS n).length ≤ 13 := by
  rw [TL.len_tl, tl_numS]; exact TL.numL_len (by decide) h
theorem sum_le {xs : List Nat} {b : Nat} (h : ∀ x ∈ xs, x ≤ b) : xs.sum ≤ b * xs.length := by
  induction xs with
  | nil => simp
  | cons x xs ih =>
    have h1 := h x (List.mem_cons_self ..)
    have h2 := ih fun y hy => h y (List.mem_cons_of_mem _ hy)
    rw [List.sum_cons, List.length_cons, Nat.mul_succ]; omega
section
variable {P : Program} {w : World} {K : PySem.W.Frag} {mg : Str → Option Value} {base : Heap}
abbrev nRt : List Str := ["word", "numbers", "number"]
theorem scRt : FnScope nRt ["word", "numbers"] (defScope sRt) := ⟨rfl, rfl, rfl, by decide +kernel, rfl, by decide +kernel, by decide +kernel⟩
def spRt (K : PySem.W.Frag) : Sp := fun vs H Q _ => ∃ (x : Str) (a : Addr) (ns : List Nat), vs = [.str x, .ref a] ∧ x.length ≤ 1000 ∧ (SqL K H a (ns.map fun n => V.int (n : Nat)) ∨ SqT K H a (ns.map fun n => V.int (n : Nat))) ∧ ns.length ≤ 1000 ∧ (∀ n ∈ ns, n < 10 ^ 13) ∧
  ∀ H' : Hp, Same H H' → Q (.str (rowT x ns)) H'
theorem ok_rt {f : Addr} {fd : FuncData} {k : Nat} (F : Fun K "row_text" "row_text" sRt f fd) (m_str : mg "str" = none) : FnOk P w K mg base CX0 (k + 1) f fd ["word", "numbers"] (spRt K) := by
  refine F.ok scRt (fun vs H Q E h => ?_) (fun cdv A outer s0 H vs Q E hr h => ?_)
  · obtain ⟨x, a, ns, rfl, _⟩ := h
    rfl
  obtain ⟨x, a, ns, rfl, hx, ha, hl, hn, q⟩ := h
  refine ⟨_, (pss_one (ps_ret (pe_join pe_str (pe_op op_cat (pe_lst (pa_cons (pv 0) pa_nil)) (pe_lc (own := [("number", 2)]) (g := gName 2) (tt := tYes) rfl scRt.nd (pi_seq (pv 1)) (blkOk_by (own := [("number", 2)]) (N := nRt) (sc := defScope sRt) (by decide +kernel)) (fun _ _ _ _ _ => (pg_name (i := 2) scRt.nd rfl (.inl rfl))) (fun _ _ _ _ _ => pts_nil) (fun _ _ _ _ _ => pe_hide (pe_callTy call_str_int rfl m_str boot_str' (pa_cons (pv 2) pa_nil)))))))), ?_⟩
  refine ⟨⟨_, rfl⟩, _, rfl, (by show 1 ≤ sizeLine; decide), fun L nL => ?_⟩
  have s1 := same_new nL (o := .lst [.str x])
  have eL : (upd H L (.lst [.str x])) L = some (.lst [.str x]) := upd_same
  have ha1 : SqL K (upd H L (.lst [.str x])) a (ns.map fun n => V.int (n : Nat)) ∨ SqT K (upd H L (.lst [.str x])) a (ns.map fun n => V.int (n : Nat)) := Same.sq2 s1 ha
  generalize upd H L (.lst [.str x]) = H1 at s1 eL ha1
  refine ⟨_, rfl, a, _, rfl, ha1, fun J wk => lc_map wk Same (fun a b => a.trans b) (fun i z F => ∃ n, ns[i]? = some n ∧ z = .str (numS n)) (fun i y A B _ h => h) (by rw [List.length_map]; exact Nat.lt_of_le_of_lt hl (by decide)) (Same.refl _) (fun F D acc sF nF => sq_keep (sF.trans (same_new nF))) (fun j z D acc F H' hj nD sF nF hy2 B hB => ?_) (fun D zs F nD sF nF hl2 hR => ?_)⟩
  · obtain ⟨rfl, hz⟩ := hy2
    rw [List.getElem?_map] at hz
    obtain ⟨n, h1, rfl⟩ := Option.map_eq_some_iff.mp hz
    refine hB _ F rfl nF fun Qt hq => ?_
    exact ⟨_, rfl, nil_go ⟨_, rfl, log2_small (hn n (List.mem_of_getElem? h1)), hq _ _ (Same.refl _) ⟨n, h1, rfl⟩⟩⟩
  rw [List.length_map] at hl2
  have ez : zs = (ns.map numS).map V.str := by
    refine List.ext_getElem? fun i => ?_
    rw [List.getElem?_map, List.getElem?_map]
    cases e : zs[i]? with
    | none =>
      rw [List.getElem?_eq_none_iff] at e
      rw [List.getElem?_eq_none_iff.mpr (by omega)]; rfl
    | some z =>
      obtain ⟨y, h1, rfl⟩ := hR i z e
      rw [h1]; rfl
  have s2 := same_new nF (o := .lst zs)
  have hLD : L ≠ D := fun z => by rw [← z, sF _ _ eL] at nF; cases nF
  refine ⟨L, D, [.str x], zs, rfl, rfl, s2 _ _ (sF _ _ eL), upd_same, (by rw [hl2]; show 1 + ns.length ≤ sizeLine; rw [sizeLine_eq]; omega), fun L2 nL2 => ?_⟩
  have s3 := same_new nL2 (o := .lst ([.str x] ++ zs))
  refine ⟨_, L2, x :: ns.map numS, rfl, rfl, .inl (SqL.of (by rw [ez]; exact upd_same)), ?_, q _ (s1.trans (sF.trans (s2.trans s3)))⟩
  have h1 : (((x :: ns.map numS).map (·.length)).sum) ≤ 1000 * (x :: ns.map numS).length := by
    have := sum_le (xs := (x :: ns.map numS).map (·.length)) (b := 1000) fun y hy => by
      rw [List.map_cons, List.mem_cons] at hy
      rcases hy with rfl | hy
      · exact hx
      · rw [List.map_map] at hy
        obtain ⟨n, hm, rfl⟩ := List.mem_map.mp hy
        have := numS_len (hn n hm)
        show (numS n).length ≤ 1000
        omega
    rw [List.length_map] at this
    exact this
  have h2 : (x :: ns.map numS).length ≤ 1001 := by rw [List.length_cons, List.length_map]; omega
  have h3 : (Str.ofString " ").length = 1 := by decide +kernel
  rw [h3]
  omega
end
end XL
namespace XL
open PySem PySem.Spec PyProof.Rows L2
section
variable {prog : Program} {w : World} {A : Around} {E : Value → Shared → Prop} {s : Shared}
theorem applied_rev2 {sl : Addr} {vs : Value} {Q : Int × Int × Nat → Shared → Prop} (hs : s.heap.IsSliceOf sl .none .none vs) (ps : IsPart vs (some (-1))) (h : Q (1, -1, 2) s) :
    wpAny (model prog w) A (Builtin.Slice.sliceApplied (.ref sl) (pure ((2 : Nat) : Int))) Q E s := by
  obtain ⟨os, hos, hcs, hds⟩ := id hs
  unfold Builtin.Slice.sliceApplied Builtin.Slice.sliceFields
  refine wpAny_bind (wpAny_bind (wpAny_field hos hds (x := .none) rfl (wpAny_bind (wpAny_field hos hds (x := .none) rfl (wpAny_bind (wpAny_field hos hds (x := vs) rfl (wpAny_pure ?_)))))))
  refine wpAny_bind (HT.slicePart_ ps ?_)
  show wpAny _ _ (if ((-1 : Int) == 0) = true then _ else _) _ _ s
  rw [if_neg (by decide)]
  refine wpAny_bind (HT.slicePart_ .none (wpAny_bind (HT.slicePart_ .none (wpAny_bind (wpAny_pure ?_)))))
  show wpAny _ _ (match Builtin.Slice.sliceAdjust none none (-1) ((2 : Nat) : Int) with | (lo, hi) => pure (lo, (-1 : Int), Builtin.Slice.slicePlaces lo hi (-1))) _ _ s
  have e : Builtin.Slice.sliceAdjust none none (-1) ((2 : Nat) : Int) = (1, -1) := by decide
  rw [e]
  have e2 : Builtin.Slice.slicePlaces 1 (-1) (-1) = 2 := by decide
  show wpAny _ _ (pure ((1 : Int), (-1 : Int), Builtin.Slice.slicePlaces 1 (-1) (-1))) _ _ s
  rw [e2]
  exact wpAny_pure h
theorem getItem_rev2 {t sl : Addr} {u1 u2 vs : Value} {Q : Value → Shared → Prop} (ht : IsTup s.heap t #[u1, u2]) (hs : s.heap.IsSliceOf sl .none .none vs) (ps : IsPart vs (some (-1)))
    (h : Q (.ref s.heap.objs.size) { s with heap := s.heap.push { cls := .type "tuple", data := .seq #[u2, u1] } }) : wpAny (model prog w) A (getItem (.ref t) (.ref sl)) Q E s := by
  have fits : sizeOk (.seq #[u2, u1]) := by show 2 ≤ sizeLine; decide
  obtain ⟨os, hos, hcs, hds⟩ := id hs
  have hTs : s.TypeIs (.ref sl) "slice" := ⟨os, hos, hcs⟩
  unfold getItem
  try with_reducible refine wpAny_holding ?_
  first | refine wpAny_bind (wpAny_pure ?_) | skip
  refine wpAny_bind (wpAny_sequenceKey ht.typeIs (by decide) ?_)
  refine wpAny_bind (wpAny_callSpecial?_slot (name := Str.ofString "__getitem__") ht.typeIs PyProof.Rows.slot_tuple_getitem (wpAny_call_entry PyProof.Rows.slot_tuple_getitem ht.typeIs entry_tuple_getitem ?_ (args_tuple_getitem _ _)))
  show wpAny _ _ (Builtin.Tuple.tupleItemsOf (.ref t) >>= _) _ _ s
  refine wpAny_bind (tupleItemsOf_ ht ?_)
  refine wpAny_bind (wpAny_typeOf hTs ?_)
  rw [if_pos (by decide)]
  refine wpAny_bind (applied_rev2 hs ps ?_)
  show wpAny _ _ (if ((1 : Int) == 0 && (-1 : Int) == 1 && (2 : Nat) == 2) = true then _ else _) _ _ s
  rw [if_neg (by decide)]
  have e : ((List.range 2).filterMap fun (m : Nat) => (#[u1, u2] : Array Value)[((1 : Int) + (m : Int) * (-1)).toNat]?).toArray = #[u2, u1] := by rfl
  rw [e]
  first
    | exact wpAny_bind (m := Builtin.Tuple.tupleExact _) (wpAny_newObj_type (wpAny_pure ⟨_, rfl, wpAny_pure h⟩) fits)
    | exact wpAny_bind (m := Builtin.Tuple.tupleExact _) (wpAny_newObj_type (wpAny_bind (wpAny_pure (wpAny_pure ⟨_, rfl, wpAny_pure h⟩))) fits)
    | exact wpAny_bind (wpAny_bind (m := Builtin.Tuple.tupleExact _) (wpAny_newObj_type (wpAny_pure (wpAny_pure ⟨_, rfl, wpAny_pure h⟩)) fits))
    | exact wpAny_bind (wpAny_bind (m := Builtin.Tuple.tupleExact _) (wpAny_newObj_type (wpAny_pure ⟨_, rfl, wpAny_pure h⟩) fits))
end
section
variable {X : Cx}
/-- t[::-1] of a pair -/
def tRev2 (K : PySem.W.Frag) (te : TE) : TE := fun σ H Q => te σ H fun x H1 => ∃ a y z, x = .ref a ∧ SqT K H1 a [y, z] ∧ ∀ p, H1 p = none → Q (.ref p) (upd H1 p (.tup [z, y]))
theorem pe_rev2 {e : Expr} {te : TE} {k : Nat} {p1 p2 p3 pos : Pos} (he : PE X e te) : PE X (.Subscript e (.Slice none none (some (.UnaryOp .USub (.Constant (.int 1) k p1) p2)) p3) pos) (tRev2 X.K te) := by
  refine ⟨fun pins s σ H Q I h => ?_⟩
  refine Subscript_ (thn (he.run pins s σ H _ I h) fun v s1 ⟨x, H1, I1, r1, q1⟩ => ?_)
  obtain ⟨a, y, z, ex, hx, q⟩ := q1
  subst ex
  cases r1
  have hst : PO X (some (.UnaryOp .USub (.Constant (.int 1) k p1) p2)) (tPart (tUn (rU fun i => .int (-i)) (tC (.int 1)))) := po_some (pe_un un_neg pe_int)
  refine wpAny_Slice (thn (po_none.run pins s1 σ H1 (fun o H2 => o = none ∧ H2 = H1) I1 ⟨rfl, rfl⟩) fun vl s2 ⟨l, H2, I2, pl, el, e2⟩ => ?_)
  subst el e2
  refine thn (po_none.run pins s2 σ H2 (fun o H3 => o = none ∧ H3 = H2) I2 ⟨rfl, rfl⟩) fun vu s3 ⟨u, H3, I3, pu, eu, e3⟩ => ?_
  subst eu e3
  refine thn (hst.run pins s3 σ H3 (fun o H4 => o = some (-1) ∧ H4 = H3) I3 ⟨1, rfl, -1, rfl, rfl, rfl⟩) fun vs s4 ⟨o, H4, I4, ps, eo, e4⟩ => ?_
  subst eo e4
  cases pl
  cases pu
  have I5 : Inv X pins σ H4 { s4 with heap := s4.heap.push { cls := .type "slice", data := .fields #[.none, .none, vs] } } := I4.kept (t' := s4.toks) fun b ob q => Heap.get?_push_of_some _ q
  obtain ⟨its, r, ht, hz⟩ := I5.tuple hx
  obtain ⟨w1, w2, rfl, q1, q2⟩ := vals2 r
  show wpAny (model X.prog X.w) X.A (subscriptTail e (.Slice none none (some (.UnaryOp .USub (.Constant (.int 1) k p1) p2)) p3) (.ref a) (.ref s4.heap.objs.size)) (EP X pins σ Q) X.xe { s4 with heap := s4.heap.push { cls := .type "slice", data := .fields #[.none, .none, vs] } }
  refine tail_any (ops := [.ref a, .ref s4.heap.objs.size]) ht.typeIs (PyProof.Rows.slot_tuple_getitem.lookup) ?_ (by with_unfolding_all rfl)
  refine getItem_rev2 (u1 := w1) (u2 := w2) ht (Heap.IsSliceOf.new _ .none .none vs) ps ?_
  refine ⟨.ref _, _, I5.laid (t' := s4.toks) (o := .tup [z, y]) (fun b ob q => Heap.get?_push_of_some _ q) (Nat.le_refl _) ?_, rfl, q _ (I5.hok.fresh (Nat.le_refl _))⟩
  exact ⟨by show 2 ≤ sizeLine; decide, [w2, w1], .cons q2 (.cons q1 .nil), IsTup.new _ _⟩
/-- xs[i], for xs[i] op= e -/
def rGetL (K : PySem.W.Frag) : V → V → Hp → VK → Prop := fun o y H Q => ∃ p xs i v, o = .ref p ∧ y = .int i ∧ SqL K H p xs ∧ 0 ≤ i ∧ xs[i.toNat]? = some v ∧ Q v H
theorem get_list : PGet X (rGetL X.K) := by
  intro pins s σ H o y ov iv Q I ro ry h
  obtain ⟨p, xs, i, v, rfl, rfl, hq, h0, he, q⟩ := h
  cases ro
  obtain ⟨t, rfl⟩ := ry
  obtain ⟨its, r, pl, hz⟩ := I.list hq
  obtain ⟨u, eu, ru⟩ := r.get he
  have hl : i.toNat < xs.length := (List.getElem?_eq_some_iff.mp he).1
  have hn := line63
  exact wpAny_getItem_list pl.isList h0 (by omega) (by simpa using eu) ⟨v, H, I, ru, q⟩
end
end XL
namespace XL
open PySem PySem.Spec PyProof.Rows L2
section
variable {P : Program} {w : World} {K : PySem.W.Frag} {mg : Str → Option Value} {base : Heap}
/-- a canal of tuples or of lists -/
structure CnAny (K : PySem.W.Frag) (H : Hp) (v : V) (c : Cn) : Prop where
  ex : ∃ a g vs, v = .ref a ∧ Sq2 K H a [.int c.r, .int c.b, .ref g] ∧ Sq2 K H g vs ∧ vs.length = c.ls.length ∧ ∀ (i : Nat) u, vs[i]? = some u → ∃ l t, c.ls[i]? = some l ∧ u = .ref t ∧ Sq2 K H t (endsV l)
theorem ends_of {H : Hp} {v : V} {l : Lk} (h : Dp K H v (lkD l)) : ∃ a, v = .ref a ∧ SqT K H a (endsV l) := by
  cases h with
  | tup hs ha =>
    cases ha with
    | cons p1 ha => cases p1; cases ha with
      | cons p2 ha => cases p2; cases ha with
        | cons p3 ha => cases p3; cases ha with
          | cons p4 ha => cases p4; cases ha; exact ⟨_, rfl, hs⟩
theorem ends_of' {H : Hp} {v : V} {l : Lk} (h : Dp K H v (lstD (lkD l))) : ∃ a, v = .ref a ∧ SqL K H a (endsV l) := by
  have e : lstD (lkD l) = .list [.int l.1, .int l.2.1, .int l.2.2.1, .int l.2.2.2] := rfl
  rw [e] at h
  cases h with
  | lst hs ha =>
    cases ha with
    | cons p1 ha => cases p1; cases ha with
      | cons p2 ha => cases p2; cases ha with
        | cons p3 ha => cases p3; cases ha with
          | cons p4 ha => cases p4; cases ha; exact ⟨_, rfl, hs⟩
theorem cn_of {H : Hp} {v : V} {c : Cn} (h : Dp K H v (cnD c)) : ∃ a g vs, v = .ref a ∧ SqT K H a [.int c.r, .int c.b, .ref g] ∧ SqT K H g vs ∧ DpAll K H vs (c.ls.map lkD) := by
  cases h with
  | tup hs ha =>
    cases ha with
    | cons p1 ha => cases p1; cases ha with
      | cons p2 ha => cases p2; cases ha with
        | cons p3 ha =>
          cases ha
          cases p3 with
          | tup hg hl => exact ⟨_, _, _, rfl, hs, hg, hl⟩
theorem cnAny_t {H : Hp} {v : V} {c : Cn} (h : Dp K H v (cnD c)) : CnAny K H v c := by
  obtain ⟨a, g, vs, e, ha, hg, hl⟩ := cn_of h
  refine ⟨a, g, vs, e, .inr ha, .inr hg, by rw [DpAll.length hl, List.length_map], fun i u hu => ?_⟩
  obtain ⟨d, ed, pd⟩ := DpAll.get hl hu
  rw [List.getElem?_map] at ed
  cases el : c.ls[i]? with
  | none => rw [el] at ed; cases ed
  | some l =>
    rw [el] at ed
    cases ed
    obtain ⟨t, et, ht⟩ := ends_of pd
    exact ⟨l, t, rfl, et, .inr ht⟩
theorem cnAny_l {H : Hp} {v : V} {c : Cn} (h : Dp K H v (lstD (cnD c))) : CnAny K H v c := by
  have e : lstD (cnD c) = .list [.int c.r, .int c.b, .list ((c.ls.map lkD).map lstD)] := by
    show PyData.list [.int c.r, .int c.b, .list (lstDs (c.ls.map lkD))] = _
    rw [lstDs_eq]
  rw [e] at h
  cases h with
  | lst hs ha =>
    cases ha with
    | cons p1 ha => cases p1; cases ha with
      | cons p2 ha => cases p2; cases ha with
        | cons p3 ha =>
          cases ha
          cases p3 with
          | lst hg hl =>
            refine ⟨_, _, _, rfl, .inl hs, .inl hg, by rw [DpAll.length hl, List.length_map, List.length_map], fun i u hu => ?_⟩
            obtain ⟨d, ed, pd⟩ := DpAll.get hl hu
            rw [List.map_map, List.getElem?_map] at ed
            cases el : c.ls[i]? with
            | none => rw [el] at ed; cases ed
            | some l =>
              rw [el] at ed
              cases ed
              obtain ⟨t, et, ht⟩ := ends_of' pd
              exact ⟨l, t, rfl, et, .inl ht⟩
theorem CnAny.same {H H' : Hp} {v : V} {c : Cn} (h : CnAny K H v c) (s : Same H H') : CnAny K H' v c := by
  obtain ⟨a, g, vs, e, ha, hg, hl, hv⟩ := h.ex
  refine ⟨a, g, vs, e, Same.sq2 s ha, Same.sq2 s hg, hl, fun i u hu => ?_⟩
  obtain ⟨l, t, h1, h2, h3⟩ := hv i u hu
  exact ⟨l, t, h1, h2, Same.sq2 s h3⟩
/-! ### waters, basins, ends -/
def isRed (w : Str) : Bool := decide (V.str w = V.str "red")
def basW (r : Bool) (c : Cn) : Int := if r = true then c.r else c.b
def endW (r : Bool) (l : Lk) : Int × Int := if r = true then (l.1, l.2.1) else (l.2.2.1, l.2.2.2)
def wS (r : Bool) : Str := if r = true then "red" else "blue"
theorem isRed_wS (r : Bool) : isRed (wS r) = r := by cases r <;> decide +kernel
end
end XL
namespace XL
open PySem PySem.Spec PyProof.Rows L2
/-! ### a row of statements parted: what holds behind the first few, and what follows from it -/
section
variable {A1 A2 A3 A4 A5 A6 R : TS} {D : Ends} {σ : L2.St} {H : Hp}
theorem seq1 (Mid : L2.St → Hp → Prop) (h1 : ∀ N : L2.St → Hp → Prop, (∀ σ G, Mid σ G → N σ G) → A1 { D with nx := N } σ H) (h2 : ∀ σ G, Mid σ G → R D σ G) : tSeq A1 R D σ H := h1 (R D) h2
theorem seq2 (Mid : L2.St → Hp → Prop) (h1 : ∀ N : L2.St → Hp → Prop, (∀ σ G, Mid σ G → N σ G) → tSeq A1 A2 { D with nx := N } σ H) (h2 : ∀ σ G, Mid σ G → R D σ G) : tSeq A1 (tSeq A2 R) D σ H := h1 (R D) h2
theorem seq3 (Mid : L2.St → Hp → Prop) (h1 : ∀ N : L2.St → Hp → Prop, (∀ σ G, Mid σ G → N σ G) → tSeq A1 (tSeq A2 A3) { D with nx := N } σ H) (h2 : ∀ σ G, Mid σ G → R D σ G) : tSeq A1 (tSeq A2 (tSeq A3 R)) D σ H := h1 (R D) h2
theorem seq4 (Mid : L2.St → Hp → Prop) (h1 : ∀ N : L2.St → Hp → Prop, (∀ σ G, Mid σ G → N σ G) → tSeq A1 (tSeq A2 (tSeq A3 A4)) { D with nx := N } σ H) (h2 : ∀ σ G, Mid σ G → R D σ G) : tSeq A1 (tSeq A2 (tSeq A3 (tSeq A4 R))) D σ H := h1 (R D) h2
theorem seq5 (Mid : L2.St → Hp → Prop) (h1 : ∀ N : L2.St → Hp → Prop, (∀ σ G, Mid σ G → N σ G) → tSeq A1 (tSeq A2 (tSeq A3 (tSeq A4 A5))) { D with nx := N } σ H) (h2 : ∀ σ G, Mid σ G → R D σ G) : tSeq A1 (tSeq A2 (tSeq A3 (tSeq A4 (tSeq A5 R)))) D σ H := h1 (R D) h2
theorem seq6 (Mid : L2.St → Hp → Prop) (h1 : ∀ N : L2.St → Hp → Prop, (∀ σ G, Mid σ G → N σ G) → tSeq A1 (tSeq A2 (tSeq A3 (tSeq A4 (tSeq A5 A6)))) { D with nx := N } σ H) (h2 : ∀ σ G, Mid σ G → R D σ G) : tSeq A1 (tSeq A2 (tSeq A3 (tSeq A4 (tSeq A5 (tSeq A6 R))))) D σ H := h1 (R D) h2
end
end XL
namespace PySem
namespace XE
open Builtin Builtin.ObjectAttr
/-! ### own exceptions as values: made by place or with keywords -/
section
variable {prog : Program} {w : World} {M : Model} {A : Around} {E : Value → Shared → Prop} {R : Result → Shared → Prop} {h : Heap} {g : Array GenState} {d : Drawn} {t : Nat} {os : OsState}
variable {nm q : Str} {C N : Addr} {bs bm : List Value} {hdct : Bool} {sn : List Str} {sub : List Value} {ab : Bool} {col : Option Bool} {dd : Option Addr} {k0 k1 k2 k3 k5 : Option Value} {B newId initId : String}
theorem newK_check (F : ExcBaseFacts B newId initId bm) {rest : List Value} {kw : List (Str × Value)} {Q : Unit → Shared → Prop}
    (hC : h.get? C = some (excClassObj nm q C N bs bm hdct sn sub ab col dd k0 k1 k2 k3 k5 newId)) (hq : Q () ⟨h, g, d, t, os⟩) : wpAny M A (checkBuiltinCall newId ⟨.ref C :: rest, kw⟩) Q E ⟨h, g, d, t, os⟩ := by
  have hcont : (Value.ref C :: bm).contains (.type B) = true := by rw [List.contains_cons, F.hasB, Bool.or_true]
  have hstar := F.noStar; simp only [checkBuiltinCall, F.newKind, F.newSplit, F.newRow]
  repeat (first | refine wpAny_loadPart_at hC ?_ | (refine wpAny_isSubtype_exc hC ?_; rw [hcont]) | refine wpAny_staticBase_exc hC ?_ | refine wpAny_madeBy_exc hC ?_ | simp only [bne_self_eq_false, Bool.false_eq_true, if_false] | wp_step)
  exact hq
theorem newK_run (F : ExcBaseFacts B newId initId bm) {rest : List Value} {kw : List (Str × Value)}
    (hC : h.get? C = some (excClassObj nm q C N bs bm hdct sn sub ab col dd k0 k1 k2 k3 k5 newId))
    (hq : R (.ok (.ret (.ref (h.objs.size + 1)))) ⟨(h.push (W.kdv_tup rest)).push (HandSPX.excO C h.objs.size), g, d, t, os⟩) (hrest : rest.length ≤ sizeLine) :
    codeAny (model prog w) A (.builtin newId ⟨.ref C :: rest, kw⟩) R ⟨h, g, d, t, os⟩ := by
  have hends := F.ends; have hcB : (Value.ref C :: bm).contains (.type B) = true := by rw [List.contains_cons, F.hasB, Bool.or_true]
  have hcA : (Value.ref C :: bm).contains (.type "AttributeError") = false := by rw [List.contains_cons, F.noAttr]; rfl
  have hcN : (Value.ref C :: bm).contains (.type "NameError") = false := by rw [List.contains_cons, F.noName]; rfl
  refine codeAny_builtinAt F.entry ?_; unfold Builtin.«BaseException.__new__»; refine wpAt_bind ?_
  show wpAt _ _ _ (stack >>= _) _ _ _
  refine wpAt_bind (wpAt_stack fun p below => wpAt_of_wpAny ?_); wp_walk; refine wpAt_of_wpAny ?_; rw [F.owner]
  repeat (first | with_reducible refine wpAny_madeHere_exc F.canon hC ?_ | with_reducible refine wpAny_loadPart_at hC ?_ | (with_reducible refine wpAny_isSubtype_exc hC ?_; first | rw [hcB] | rw [hcA] | rw [hcN]) | wp_step)
  show R _ _
  rw [Heap.size_push]; exact hq
theorem typeK_check {rest : List Value} {kw : List (Str × Value)} {Q : Unit → Shared → Prop} (hC : h.get? C = some (excClassObj nm q C N bs bm hdct sn sub ab col dd k0 k1 k2 k3 k5 newId))
    (hq : Q () ⟨h, g, d, t, os⟩) : wpAny M A (checkBuiltinCall "type.__call__" ⟨.ref C :: rest, kw⟩) Q E ⟨h, g, d, t, os⟩ := by
  have f3 := tc_sub; have hT : (⟨h, g, d, t, os⟩ : Shared).TypeIs (.ref C) "type" := ⟨_, hC, rfl⟩
  simp only [checkBuiltinCall, tc_kind, tc_split]
  repeat (any_goals (first | assumption | with_reducible refine wpAny_loadPart_at hC ?_ | with_reducible refine wpAny_onRaise ?_ | with_reducible refine wpAny_map ?_ | wp_step))
theorem typeK_call (F : ExcBaseFacts B newId initId bm) {rest : List Value} {kw : List (Str × Value)} {fI : Addr} {Q : Fin → Shared → Prop}
    (hC : h.get? C = some (excClassObj nm q C N bs bm hdct sn sub ab col dd k0 k1 k2 k3 k5 newId))
    (hi : W.Looks (model prog w) h (typeLookup (.ref C) "__init__") (some (.ref fI))) (hb : ∀ self, W.Looks (model prog w) h (bindSpecial (.ref fI) self) (.ref fI, [self])) (hrest : rest.length ≤ sizeLine)
    (hq : codeAny (model prog w) A (.call (.ref fI) ⟨.ref (h.objs.size + 1) :: rest, kw⟩)
      (fun r s' => match r with | .ok (.ret v) => v = .none ∧ Q (.done (.ret (.ref (h.objs.size + 1)))) s' | .ok _ => False | .error e => E e s') ⟨(h.push (W.kdv_tup rest)).push (HandSPX.excO C h.objs.size), g, d, t, os⟩) :
    wpAny (model prog w) A (Builtin.«type.__call__» ⟨.ref C :: rest, kw⟩) Q E ⟨h, g, d, t, os⟩ := by
  repeat (first | with_reducible refine wpAny_loadPart_at hC ?_ | with_reducible refine wpAny_madeBy_exc hC ?_ | wp_step)
  refine codeAny_call_builtin_code (Code.quiet_builtin _ F.quiet) (newK_check F hC ?_)
  refine newK_run F hC ?_ hrest
  show wpAny _ _ _ _ _ _
  have k : ∀ b o, h.get? b = some o → ((h.push (W.kdv_tup rest)).push (HandSPX.excO C h.objs.size)).get? b = some o := fun b o e => Heap.get?_push_of_some _ (Heap.get?_push_of_some _ e)
  have hC₁ := k _ _ hC
  have hget : ((h.push (W.kdv_tup rest)).push (HandSPX.excO C h.objs.size)).get? (h.objs.size + 1) = some (HandSPX.excO C h.objs.size) := by heap_get
  have hcC : (Value.ref C :: bm).contains (.ref C) = true := by simp
  have i1 := hi.keeps k; have b1 := (hb (.ref (h.objs.size + 1))).keeps k
  unfold isInstance
  repeat (first | with_reducible refine wpAny_loadPart_at hget ?_ | (with_reducible refine wpAny_isSubtype_exc hC₁ ?_; rw [hcC]) | wp_step)
  show wpAny _ _ (typeLookup (.ref C) _) _ _ _
  refine i1.at ?_
  refine wpAny_holding (wpAny_bind (b1.at ?_))
  refine wpAny_bind (wpAny_call (codeAny_mono hq fun r s' z => ?_))
  rcases r with e | (v | _ | _ | _) <;> first | exact z | exact z.elim | skip
  obtain ⟨rfl, z⟩ := z
  first | exact wpAny_pure (wpAny_pure z) | (wp_walk; exact z)
theorem callK (F : ExcBaseFacts B newId initId bm) {rest : List Value} {kw : List (Str × Value)} {fI : Addr}
    (hC : h.get? C = some (excClassObj nm q C N bs bm hdct sn sub ab col dd k0 k1 k2 k3 k5 newId))
    (hi : W.Looks (model prog w) h (typeLookup (.ref C) "__init__") (some (.ref fI))) (hb : ∀ self, W.Looks (model prog w) h (bindSpecial (.ref fI) self) (.ref fI, [self])) (hrest : rest.length ≤ sizeLine)
    (hq : codeAny (model prog w) (A.under (.builtin "type.__call__" ⟨.ref C :: rest, kw⟩)) (.call (.ref fI) ⟨.ref (h.objs.size + 1) :: rest, kw⟩) (W.InitBack (h.objs.size + 1) R)
      ⟨(h.push (W.kdv_tup rest)).push (HandSPX.excO C h.objs.size), g, d, t, os⟩) : codeAny (model prog w) A (.call (.ref C) ⟨rest, kw⟩) R ⟨h, g, d, t, os⟩ := by
  have f1 := tc_lookup; have f2 := tc_bind (.ref C); have hTy : (⟨h, g, d, t, os⟩ : Shared).TypeIs (.ref C) "type" := ⟨_, hC, rfl⟩
  refine codeAny_of_tree ?_
  show wpAny _ _ (callAny (.ref C) _) _ _ _
  repeat (any_goals (first | assumption | with_reducible refine wpAny_loadPart_at hC ?_ | wp_step))
  refine ⟨rfl, ?_⟩
  refine codeAny_call_builtin_at (Code.quiet_builtin _ (by decide +kernel)) entry_typeCall (typeK_check hC (typeK_call F hC hi hb hrest ?_))
  refine codeAny_mono hq fun r s' z => ?_
  rcases r with e | (v | _ | _ | _) <;> exact z
end
/-! ### self.name = v -/
section
variable {prog : Program} {w : World} {A : Around} {E : Value → Shared → Prop} {R : Result → Shared → Prop} {hp : Heap} {g : Array GenState} {d : Drawn} {t : Nat} {os : OsState}
theorem osaG {K : W.Frag} {name : Str} {tk : Tok} {v : Value} {x C : Addr} {fv : Array Value} {cd : ClassData}
    (X : K.In hp) (hx : hp.get? x = some { cls := .ref C, data := .fields fv }) (hcd : W.clsIn K C = some cd) (ne : cd.mro.isEmpty = false) (hob : cd.mro.contains (.type "object") = true) (hpass : ∀ self, refuseLoop self "__setattr__" cd.mro = pure ())
    (hh : cd.hasDict = true) (ha : W.findIn K (.ref C) name = some none)
    (hq : ∀ h' tk' dx, (∀ b o, b ≠ x → hp.get? b = some o → h'.get? b = some o) → hp.objs.size ≤ dx → dx ≠ x → h'.get? x = some { cls := .ref C, dict := some dx, data := .fields fv } → h'.Ns1 dx (fun y => if y = name then some v else none) →
      R (.ok (.ret .none)) ⟨h', g, d, tk', os⟩) :
    codeAny (model prog w) A (.call (.builtin "object.__setattr__") ⟨[.ref x, .str name tk, v], []⟩) R ⟨hp, g, d, t, os⟩ := by
  have I : W.InstAt hp x { cls := .ref C, data := .fields fv } C none := ⟨hx, rfl, rfl, trivial⟩
  have SF := F.store_object; have hxs : x ≠ hp.objs.size := Nat.ne_of_lt (Heap.lt_size hx)
  have sub : W.Looks (model prog w) hp (isInstance (.ref x) (.type "object")) true := I.type.andThen (W.looks_mroIn X (by unfold W.mroIn; rw [hcd, Option.bind_some, if_neg (by rw [ne]; decide), hob]))
  refine codeAny_call_builtin SF.slot.plain SF.entry (@W.check_slot (model prog w) _ _ ⟨hp, g, d, t, os⟩ "object.__setattr__" "object" "__setattr__" (.ref x) [.str name tk, v] [] _ SF.kind SF.split sub (SF.args (.ref x) (.str name tk) v) ?_)
  have hmr : W.Looks (model prog w) hp (mroOf (.ref C)) cd.mro := (W.looks_clsIn X hcd).andThen .now
  have L3 : W.Looks (model prog w) hp (storeTaker? none) none := .now; have hcls : W.Looks (model prog w) hp (classData C) cd := W.looks_clsIn X hcd
  rw [W.osa_eq, refuse_eq]
  refine wpAny_bind (wpAny_bind (I.type.at (wpAny_bind (hmr.at ?_))))
  rw [hpass]
  refine wpAny_pure (wpAny_bind (I.type.at (wpAny_bind ((W.looks_findIn X ha).at (wpAny_bind (L3.at ?_))))))
  show wpAny _ _ (storeInOwnDict (.ref x) (.ref C) (.str name tk) name v false) _ _ _
  obtain ⟨nm, bs, mro, ns, qn, hd, sn, sb, ab, col, del⟩ := cd
  dsimp only at hh
  subst hh
  unfold storeInOwnDict ownDictForStores
  repeat (first | with_reducible refine HandSPX.store_in_new ?_ ?_ | with_reducible refine wpAny_loadPart_at hx ?_ | with_reducible refine hcls.at ?_ | wp_step)
  · exact ⟨_, #[], _, (Heap.get?_update_ne _ _ _ _ hxs.symm).trans (Heap.get?_push_at rfl rfl), rfl, fun e he => absurd he (by simp), fun _ => rfl⟩
  · intro h' tk' hn' hs
    have hx₁ : (hp.push { cls := .type "dict", data := .dict #[] }).get? x = some { cls := .ref C, data := .fields fv } := Heap.get?_push_of_some _ hx
    refine hq h' tk' hp.objs.size (fun b o hb ho => ?_) (Nat.le_refl _) hxs.symm ?_ hn'
    · exact (hs.2 b (Nat.ne_of_lt (Heap.lt_size ho))).trans ((Heap.get?_update_ne _ _ _ _ hb).trans (Heap.get?_push_of_some _ ho))
    · exact (hs.2 x hxs).trans (Heap.get?_update_self _ hx₁ rfl)
end
end XE
end PySem
namespace XL
open PySem PySem.Spec PyProof.Rows L2
/-- what the written part says of an own exception class straight over B -/
structure ExF (K : PySem.W.Frag) (C : Addr) (B newId initId : String) (bm : List Value) : Prop where
  base : ExcBaseFacts B newId initId bm
  pass : ∀ self, refuseLoop self "__setattr__" (.ref C :: bm) = pure ()
  obj : bm.contains (.type "object") = true
  cls : ∃ nm q N bs sn sub ab col dd k0 k1 k2 k3 k5, K.lookup C = some (excClassObj nm q C N bs bm true sn sub ab col dd k0 k1 k2 k3 k5 newId)
  sa : PySem.W.findIn K (.ref C) "__setattr__" = some (some (.builtin "object.__setattr__"))
  ga : PySem.W.findIn K (.ref C) "__getattribute__" = some (some (.builtin "BaseException.__getattribute__"))
  gt : PySem.W.findIn K (.ref C) "__getattr__" = some none
  exC : PySem.W.subIn K (.ref C) (.type "BaseException") = some true
  kC : PySem.W.keepIn K (.ref C) = true
  hd : PySem.W.hasDictIn K C = true
  ca : PySem.W.findIn K (.ref C) "__class__" = some (some (.builtin "object.__class__"))
  cn : PySem.W.specialIn K (.builtin "object.__class__") "__get__" = some (some (.builtin "getset_descriptor.__get__"))
  ct : PySem.W.takesIn K (.builtin "object.__class__") = some true
  mo : PySem.W.mroIn K C (.type "object") = some true
section
variable {X : Cx} {pins : List (Addr × Obj)} {σ : L2.St} {H : Hp} {s : Shared} {a C dx : Addr} {f : Str} {y : V} {u : Value} {fs : List (Str × V)} {E : Value → Shared → Prop} {A : Around} {B newId initId : String} {bm : List Value}
theorem ost_newG {Q : Unit → Shared → Prop} (T : ExF X.K C B newId initId bm) (I : Inv X pins σ H s) (e : H a = some (exo a C none)) (hno : PySem.W.findIn X.K (.ref C) f = some none) (ry : RelV y u)
    (h : ∀ dx s', H dx = none → dx ≠ a → Inv X pins σ (upd (upd H dx (exd dx [(f, y)])) a (exo a C (some dx))) s' → Q () s') : wpAny (model X.prog X.w) A (setAttr (.ref a) f u) Q E s := by
  obtain ⟨nm, q, N, bs, sn, sub, ab, col, dd, k0, k1, k2, k3, k5, hC⟩ := T.cls
  have hcl : PySem.W.clsIn X.K C = some { name := nm, bases := bs, mro := .ref C :: bm, ns := N, qualname := q, hasDict := true, slotNames := sn, subclasses := sub, abstract := ab, collection := col, hasDel := false } := by unfold PySem.W.clsIn; rw [hC] <;> rfl
  obtain ⟨t1, ho⟩ := exo_at I.hok e
  obtain ⟨hp, g, d, t, os⟩ := s
  refine PySem.W.set_plain I.kIn (ox := { cls := .ref C, dict := none, data := .fields #[.ref t1, .none, .none, .none, .bool false, .none] }) (od := none) ⟨ho, rfl, rfl, trivial⟩ T.sa ?_
  refine PySem.XE.osaG I.kIn ho hcl rfl (by show (Value.ref C :: bm).contains (.type "object") = true; rw [List.contains_cons, T.obj, Bool.or_true]) T.pass rfl hno (fun h' tk' dx k dn dne hx hn => ?_)
  have hnd : H dx = none := I.hok.fresh dn
  have nd : ∀ {b : Addr} {o : Obj}, hp.get? b = some o → b ≠ dx := fun {b o} q => Nat.ne_of_lt (Nat.lt_of_lt_of_le (Heap.lt_size q) dn)
  have na : ∀ {b : Addr}, H b = none → b ≠ a := fun {b} n z => by rw [z, e] at n; cases n
  have Un1 : Un X.fs [] H (upd (upd H dx (exd dx [(f, y)])) a (exo a C (some dx))) hp h' := {
    keep := fun b o q n _ _ => k b o (na n) q
    slot := fun b o q n _ _ => ⟨o.slots, k b o (na n) q⟩
    free := fun b o q n _ => by rw [upd_ne (na n), upd_ne (nd q)]; exact n
    there := fun b o q _ => by
      by_cases hb : b = a
      · exact ⟨_, by rw [hb]; exact hx⟩
      · exact ⟨o, k b o hb q⟩
    tups := fun b xs q => by rw [upd_ne (at_ne e q exo_tup), upd_ne (ne_of_none q hnd)]; exact q
    frzs := fun b o v q => by rw [upd_ne (at_ne e q exo_frz), upd_ne (ne_of_none q hnd)]; exact q
    tbls := fun b ps q => ⟨#[], by rw [upd_ne (at_ne e q exo_tbl), upd_ne (ne_of_none q hnd), q]; simp⟩ }
  refine h dx _ hnd dne (I.un (t' := tk') Un1 fun b o q => ?_)
  by_cases hb : b = a
  · subst hb; rw [upd_same] at q; cases q; exact exo_ok hx
  · rw [upd_ne hb] at q
    by_cases hd : b = dx
    · subst hd; rw [upd_same] at q; cases q
      exact exd_ok hn (relO_put (fs := []) ry fun g => True.intro)
    · rw [upd_ne hd] at q
      refine (I.hok b o q).stay (fun c v hc z => k c v ?_ z) (fun c hc => ?_) fun c xs hc => ?_
      · rcases hc with hc | hc
        · rw [hc]; exact hb
        · exact at_ne e hc exo_own
      · rw [upd_ne (at_ne e hc exo_own), upd_ne (ne_of_none hc hnd)]; exact hc
      · rw [upd_ne (at_ne e hc exo_tup), upd_ne (ne_of_none hc hnd)]; exact hc
theorem initG {us : List Value} {Q : Value → Shared → Prop} (T : ExF X.K C B newId initId bm) (I : Inv X pins σ H s) (e : H a = some (exo a C none)) (hl : us.length ≤ sizeLine) (h : ∀ s', Inv X pins σ H s' → Q .none s') :
    wpAny (model X.prog X.w) A (call (.builtin initId) (.ref a :: us)) Q E s := by
  obtain ⟨nm, q, N, bs, sn, sub, ab, col, dd, k0, k1, k2, k3, k5, hC⟩ := T.cls
  obtain ⟨t1, ho⟩ := exo_at I.hok e
  obtain ⟨hp, g, d, t, os⟩ := s
  refine wpAny_call (PySem.HandSPX.init_base T.base (fun Y => rfl) (I.kIn _ _ hC) ho hl fun h' t2 k hx => ?_)
  have J := I.write (t' := t) (x := a) (e := a) (o := exo a C none) (by rw [e]; exact True.intro) (.inl rfl) k ⟨_, hx⟩ (exo_ok hx)
  have eu : upd H a (exo a C none) = H := by
    funext b
    by_cases hb : b = a
    · rw [hb, upd_same, e]
    · rw [upd_ne hb]
  rw [eu] at J
  exact h _ J
end
theorem inst_of {X : Cx} {pins : List (Addr × Obj)} {σ : L2.St} {H : Hp} {s : Shared} {a C : Addr} {d : Option Addr} (I : Inv X pins σ H s) (ea : H a = some (exo a C d)) (hd : ∀ dd, d = some dd → ∃ fs, H dd = some (exd dd fs)) :
    ∃ (t1 : Addr) , ∃ od, PySem.W.InstAt s.heap a ({ cls := .ref C, dict := d, data := .fields #[.ref t1, .none, .none, .none, .bool false, .none] } : Obj) C od := by
  obtain ⟨t1, ho⟩ := exo_at I.hok ea
  cases d with
  | none => exact ⟨t1, none, ho, rfl, rfl, trivial⟩
  | some dd =>
    obtain ⟨fs, ed⟩ := hd dd rfl
    obtain ⟨mA, hns, hr⟩ := exd_at I.hok ed
    obtain ⟨od, hod, hl⟩ := lookIn_ns hns
    exact ⟨t1, some od, ho, rfl, rfl, hod⟩
/-- B.__init__(self, ..) -/
def tBi (K : PySem.W.Frag) (B newId initId : String) (bm : List Value) (ta : TA) : TE := fun σ H Q => ta σ H fun vs H1 => ∃ (a C : Addr) (ws : List V), vs = .ref a :: ws ∧ ws.length ≤ 1000 ∧ ExF K C B newId initId bm ∧ H1 a = some (exo a C none) ∧ Q .non H1
/-- self.f = e, the first one -/
def tOs1 (K : PySem.W.Frag) (B newId initId : String) (bm : List Value) (f : Str) (to te : TE) : TS := fun D σ H => te σ H fun y H1 => to σ H1 fun x H2 => ∃ a C : Addr, x = .ref a ∧ ExF K C B newId initId bm ∧ PySem.W.findIn K (.ref C) f = some none ∧
  H2 a = some (exo a C none) ∧ ∀ dx, H2 dx = none → dx ≠ a → D.nx σ (upd (upd H2 dx (exd dx [(f, y)])) a (exo a C (some dx)))
section
variable {X : Cx} {o e : Expr} {es : List Expr} {to te : TE} {ta : TA} {f : Str} {p p' p1 p2 pos : Pos} {B newId initId : String} {bm : List Value}
theorem pe_binit {bn : Str} {pl : Sem Bool} (hg : Gl X bn) (hm : X.mg bn = none) (hboot : bootBuiltins bn = some (.type B)) (hty : typeOf (.type B) = pure (.type "type")) (vV : PySem.W.findCls X.K (.type B) (.type "type") "__init__" = some (.val (.builtin initId))) (ha : PA X (e :: es) ta)
    (h1 : bn ≠ "__name__") (h2 : (bn == ("__debug__" : Str)) = false) (hst : Manifest.isStub B = false) (hhd : PySem.W.handedIn (.builtin initId) = true)
    (hc : eval (.Call (.Attribute (.Name bn p1) "__init__" p2) (e :: es) [] pos) X.env = (do
      let ov ← eval (.Name bn p1) X.env
      standAt p2.atName
      let (f, first) ← holding [ov] (getMethod ov "__init__" pl)
      callWith pos f first (backTo pos (starEach (e :: es) X.env)) (backToKw pos (keywordEach [] X.env))) := by rfl)
    (he : starEach (e :: es) X.env = (false, eval e X.env) :: starEach es X.env := by rfl) (hpl : (backTo pos (starEach es X.env)).any (·.1) = false := by rfl) :
    PE X (.Call (.Attribute (.Name bn p1) "__init__" p2) (e :: es) [] pos) (tBi X.K B newId initId bm ta) := by
  refine ⟨fun pins s σ H Q I h => ?_⟩
  refine PySem.W.methodCall_KW (ld_blt I hg hm hboot ?_ h1 h2) hc
  obtain ⟨m, fr⟩ := I.fr
  refine PySem.W.method_type fr I.ok.mod.kin hty hst vV hhd ?_
  show wpAny _ _ (callWith pos (Value.builtin initId) [] (backTo pos (starEach (e :: es) X.env)) []) _ _ _
  refine PyProof.Rows.callWith_method1 (thn (ha.run pos pins _ σ H _ (I.tok _) h) fun us s1 ⟨vs, H1, I1, r1, a, C, ws, ev, hl, T, ea, q⟩ => ?_) he hpl
  subst ev
  cases r1 with
  | @cons _ u0 _ ur ra rw' =>
    obtain rfl : u0 = Value.ref a := ra
    have hlen : ur.length ≤ sizeLine := by rw [← Paired.length rw', sizeLine_eq]; omega
    exact initG T I1 ea hlen fun s' J => ⟨.non, H1, J, rfl, q⟩
theorem ps_os1 (ho : PE X o to) (he : PE X e te) (hs : swapsWith e (some (.Attribute o f p')) pos.line X.env = pure false := by rfl) : PS X (.Assign [.Attribute o f p'] e pos) (tOs1 X.K B newId initId bm f to te) := by
  refine ⟨fun pins s σ H D I h => ?_⟩
  refine plainObj_wpAny_Assign_Attribute (thn (he.run pins s σ H _ I h) fun v s1 ⟨y, H1, I1, r1, q1⟩ => thn (ho.run pins s1 σ H1 _ I1 q1) fun u s2 ⟨x, H2, I2, r2, a, C, ex, T, hno, ea, q⟩ => ?_) hs
  subst ex
  obtain rfl : u = Value.ref a := r2
  exact ost_newG T I2 ea hno r1 fun dx s' n ne J => ⟨σ, _, J, q dx n ne⟩
/-- C(..): a new exception, its own __init__ keeping sp -/
theorem run_exmk {pins : List (Addr × Obj)} {σ : L2.St} {H1 : Hp} {s1 : Shared} {C fI : Addr} {k : Nat} {fd : FuncData} {ps : List Str} {sp : Sp} {us zs : List Value} {kw : List (Str × Value)} {vs : List V} {Q : VK} (T : ExF X.K C B newId initId bm)
    (iC : PySem.W.findIn X.K (.ref C) "__init__" = some (some (.ref fI))) (tI : PySem.W.typeIn X.K (.ref fI) = some (.type "function")) (F1 : FnOk X.prog X.w X.K X.mg X.base CX0 k fI fd ps sp) (hr : Room (k + 1) X.A) (I1 : Inv X pins σ H1 s1) (hz : us.length ≤ 1000)
    (hb : ∀ (s : Shared) (a : Addr), X.K.In s.heap → (Value.ref a :: zs).length = ps.length → BindsTo s fd ⟨.ref a :: us, kw⟩ (ps.zip (.ref a :: zs))) (r : Vals vs zs)
    (h : ∀ a, H1 a = none → sp (.ref a :: vs) (upd H1 a (exo a C none)) (fun v H2 => v = .non ∧ Q (.ref a) H2) E0) : wpAny (model X.prog X.w) X.A (call (.ref C) us kw) (EP X pins σ Q) X.xe s1 := by
  obtain ⟨nm, q, N, bs, sn, sub, ab, col, dd, k0, k1, k2, k3, k5, hC⟩ := T.cls
  obtain ⟨hp, g, dr, tk, os⟩ := s1
  have hsz : hp.objs.size ≤ hp.objs.size + 1 := Nat.le_succ _
  have hn : H1 (hp.objs.size + 1) = none := I1.hok.fresh hsz
  have hq := h (hp.objs.size + 1) hn
  have kk : ∀ b o, hp.get? b = some o → ((hp.push (PySem.W.kdv_tup us)).push (PySem.HandSPX.excO C hp.objs.size)).get? b = some o := fun b o e => Heap.get?_push_of_some _ (Heap.get?_push_of_some _ e)
  have hget : ((hp.push (PySem.W.kdv_tup us)).push (PySem.HandSPX.excO C hp.objs.size)).get? (hp.objs.size + 1) = some (PySem.HandSPX.excO C hp.objs.size) := by heap_get
  have I2 : Inv X pins σ (upd H1 (hp.objs.size + 1) (exo (hp.objs.size + 1) C none)) ⟨(hp.push (PySem.W.kdv_tup us)).push (PySem.HandSPX.excO C hp.objs.size), g, dr, tk, os⟩ := I1.laid (t' := tk) kk hsz (exo_ok hget)
  have r2 : Vals (V.ref (hp.objs.size + 1) :: vs) (Value.ref (hp.objs.size + 1) :: zs) := .cons rfl r
  have hl : (Value.ref (hp.objs.size + 1) :: zs).length = ps.length := by rw [← r2.length]; exact F1.len _ _ _ _ hq
  have hus : us.length ≤ sizeLine := by rw [sizeLine_eq]; omega
  have e0 : Env0 X.prog X.w X.K X.mg X.base (X.A.under (.builtin "type.__call__" ⟨.ref C :: us, kw⟩)) X.stack _ _ := I2.env0.make C us kw
  refine wpAny_call (PySem.XE.callK T.base (I1.kIn _ _ hC) (PySem.W.looks_findIn I1.kIn iC) (fun self => PySem.W.bind_fn I1.kIn self tI) hus
    (codeAny_mono (F1.run _ X.stack _ _ ⟨Value.ref (hp.objs.size + 1) :: us, kw⟩ (Value.ref (hp.objs.size + 1) :: zs) _ _ E0 (hr.make C us kw) e0 (hb _ _ I2.kIn hl) r2 hq) fun r s' hq' => ?_))
  cases r with
  | error er => exact False.elim hq'
  | ok fl =>
    cases fl with
    | ret u =>
      obtain ⟨v, H2, J, rv, ev, q2⟩ := I2.after hq'
      subst ev
      exact ⟨rv, .ref (hp.objs.size + 1), H2, J, rfl, q2⟩
    | next => exact False.elim hq'
    | brk => exact False.elim hq'
    | cont => exact False.elim hq'
variable {x : Str} {C fI : Addr} {k : Nat} {fd : FuncData} {ps ks : List Str} {sp : Sp} {kws : List Keyword} {tk : TA} {g : List Value → List Value → List Value} {gV : List V → List V → List V}
theorem pe_exmk (T : ExF X.K C B newId initId bm) (iC : PySem.W.findIn X.K (.ref C) "__init__" = some (some (.ref fI))) (tI : PySem.W.typeIn X.K (.ref fI) = some (.type "function")) (F1 : FnOk X.prog X.w X.K X.mg X.base CX0 k fI fd ps sp) (hr : Room (k + 1) X.A) (hb : Binds X.K fd ps [])
    (hg : Gl X x) (hm : X.mg x = some (.ref C)) (ha : PA X (e :: es) ta) (hdb : (x == ("__debug__" : Str)) = false := by decide) (he : starEach (e :: es) X.env = (false, eval e X.env) :: starEach es X.env := by rfl) (hpl : (backTo pos (starEach es X.env)).any (·.1) = false := by rfl) :
    PE X (.Call (.Name x p) (e :: es) [] pos) (fun σ H Q => ta σ H fun vs H1 => vs.length ≤ 1000 ∧ ∀ a, H1 a = none → sp (.ref a :: vs) (upd H1 a (exo a C none)) (fun v H2 => v = .non ∧ Q (.ref a) H2) E0) := by
  refine ⟨fun pins s σ H Q I h => wpAny_Call_Name_kw (ld_glob I hg hm ?_ hdb)⟩
  refine PySem.W.callWith_K (h₀ := X.base) I.ok.mod.kin T.kC (thn (ha.run pos pins s σ H _ I h) fun us s1 ⟨vs, H1, I1, r1, hz, q1⟩ => ⟨I1.kIn, ?_⟩) he hpl
  refine run_exmk (us := us) T iC tI F1 hr I1 (by rw [← r1.length]; exact hz) (fun s a hk hl => ?_) r1 q1
  have b2 := hb s (.ref a :: us) hk (by rw [List.append_nil]; exact hl)
  rwa [List.append_nil] at b2
theorem pe_exmk0 (T : ExF X.K C B newId initId bm) (iC : PySem.W.findIn X.K (.ref C) "__init__" = some (some (.ref fI))) (tI : PySem.W.typeIn X.K (.ref fI) = some (.type "function")) (F1 : FnOk X.prog X.w X.K X.mg X.base CX0 k fI fd ps sp) (hr : Room (k + 1) X.A) (hb : Binds X.K fd ps [])
    (hg : Gl X x) (hm : X.mg x = some (.ref C)) (hdb : (x == ("__debug__" : Str)) = false := by decide) :
    PE X (.Call (.Name x p) [] [] pos) (fun σ H Q => ∀ a, H a = none → sp [.ref a] (upd H a (exo a C none)) (fun v H2 => v = .non ∧ Q (.ref a) H2) E0) := by
  refine ⟨fun pins s σ H Q I h => wpAny_Call_Name_kw (ld_glob I hg hm ?_ hdb)⟩
  refine PySem.W.callWith_K0 I.kIn T.kC (run_exmk (us := []) (kw := []) (zs := []) (vs := []) T iC tI F1 hr I (Nat.zero_le _) (fun s a hk hl => ?_) .nil h)
  have b2 := hb s [.ref a] hk (by rw [List.append_nil]; exact hl)
  rwa [List.append_nil] at b2
/-- C(k = v), one keyword -/
theorem pe_exmkK {kn : Str} (T : ExF X.K C B newId initId bm) (iC : PySem.W.findIn X.K (.ref C) "__init__" = some (some (.ref fI))) (tI : PySem.W.typeIn X.K (.ref fI) = some (.type "function")) (F1 : FnOk X.prog X.w X.K X.mg X.base CX0 k fI fd ps sp) (hr : Room (k + 1) X.A)
    (hb : ∀ (s : Shared) (a : Addr) (z : Value), X.K.In s.heap → (2 : Nat) = ps.length → BindsTo s fd ⟨[.ref a], [(kn, z)]⟩ (ps.zip [.ref a, z])) (hg : Gl X x) (hm : X.mg x = some (.ref C)) (hkw : PK X kws tk)
    (hall : (backToKw pos (keywordEach kws X.env)).all (·.1.isSome) = true := by rfl) (hks : (backToKw pos (keywordEach kws X.env)).filterMap (·.1) = [kn] := by rfl) (hdb : (x == ("__debug__" : Str)) = false := by decide)
    (hpl : ((backTo pos (starEach [] X.env)).any (·.1) || (backToKw pos (keywordEach kws X.env)).any (·.1.isNone)) = false := by rfl) :
    PE X (.Call (.Name x p) [] kws pos) (fun σ H Q => tk σ H fun zs H1 => zs.length = 1 ∧ ∀ a, H1 a = none → sp (.ref a :: zs) (upd H1 a (exo a C none)) (fun v H2 => v = .non ∧ Q (.ref a) H2) E0) := by
  refine ⟨fun pins s σ H Q I h => wpAny_Call_Name_kw (ld_glob I hg hm ?_ hdb)⟩
  refine PySem.W.callWith_KW0 (h₀ := X.base) I.ok.mod.kin T.kC hall (thn (hkw.run pos pins s σ H _ I h) fun ws s2 ⟨zs, H2, I2, rz, hz1, q2⟩ => ⟨I2.kIn, ?_⟩) hpl
  rw [hks]
  have hw : ws.length = 1 := by rw [← rz.length]; exact hz1
  match ws, hw, rz with
  | [z], _, rz => exact run_exmk (us := []) T iC tI F1 hr I2 (Nat.zero_le _) (fun s a hk hl => hb s a z hk hl) rz q2
/-- e.f of such an exception -/
theorem pe_exget {n : Str} (T : ExF X.K C B newId initId bm) (hno : PySem.W.findIn X.K (.ref C) n = some none) (he : PE X e te) (hb : attributeBase e n X.env (eval e X.env) = eval e X.env := by rfl) :
    PE X (.Attribute e n pos) (fun σ H Q => te σ H fun x H1 => ∃ a dd fs v, x = .ref a ∧ H1 a = some (exo a C (some dd)) ∧ H1 dd = some (exd dd fs) ∧ fs.lookup n = some v ∧ Q v H1) := by
  refine ⟨fun pins s σ H Q I h => attr_of hb (thn (he.run pins s σ H _ I h) fun u s1 hh => ?_)⟩
  obtain ⟨x, H1, I1, rx, a, dd, fs, v, ex, ea, ed, l, q⟩ := hh
  subst ex
  obtain rfl : u = Value.ref a := rx
  obtain ⟨t1, ho⟩ := exo_at I1.hok ea
  obtain ⟨mA, hns, hr⟩ := exd_at I1.hok ed
  obtain ⟨od, hod, hl⟩ := lookIn_ns hns
  obtain ⟨u, hu, ru⟩ := RelO.some_of (v := v) (o := mA n) (by rw [← l]; exact hr n)
  have J : PySem.W.InstAt s1.heap a { cls := .ref C, dict := some dd, data := .fields #[.ref t1, .none, .none, .none, .bool false, .none] } C (some od) := ⟨ho, rfl, rfl, hod⟩
  exact HandSPX.exc_get I1.kIn J T.ga T.gt T.exC (PySem.W.findObj_own T.hd hno rfl (by rw [hl, hu])) (handed_of ru) ⟨v, H1, I1.tok _, ru, q⟩
/-- isinstance(e, c) -/
theorem call_isiX : CallR X (.builtin "isinstance") (fun xs H Q => ∃ (a C : Addr) (d : Option Addr) (c : V) (u : Value) (b : Bool) (B newId initId : String) (bm : List Value), xs = [.ref a, c] ∧ ExF X.K C B newId initId bm ∧ H a = some (exo a C d) ∧ (∀ dd, d = some dd → ∃ fs, H dd = some (exd dd fs)) ∧ ClsV c u ∧ PySem.W.kitOne X.K (.ref C) u = some b ∧ Q (.bl b) H) := by
  intro pins s σ H xs us Q I r h
  obtain ⟨a, C, d, c, u, b, B, newId, initId, bm, rfl, T, ea, hd, k, e, q⟩ := h
  obtain ⟨u1, u2, rfl, r1, r2⟩ := vals2 r
  have e2 := k.eq r2
  subst e2
  obtain rfl : u1 = Value.ref a := r1
  obtain ⟨t1, od, J⟩ := inst_of I ea hd
  obtain ⟨nm, q0, N, bs, sn, sub, ab, col, dd, k0, k1, k2, k3, k5, hC⟩ := T.cls
  have hcl : (PySem.W.clsIn X.K C).isSome = true := by unfold PySem.W.clsIn; rw [hC]; rfl
  exact PySem.W.kia_one (PySem.W.kitx_exc hcl T.ga T.gt T.exC T.ca T.cn T.ct T.mo) I.kIn J e (fun z => nomatch z) fun tk => ⟨.bl b, H, I.tok tk, rfl, q⟩
theorem call_isiXT : CallR X (.builtin "isinstance") (fun xs H Q => ∃ (a C tp : Addr) (d : Option Addr) (cs : List V) (ws : List Value) (b : Bool) (B newId initId : String) (bm : List Value), xs = [.ref a, .ref tp] ∧ ExF X.K C B newId initId bm ∧ H a = some (exo a C d) ∧ (∀ dd, d = some dd → ∃ fs, H dd = some (exd dd fs)) ∧ H tp = some (.tup cs) ∧ Paired ClsV cs ws ∧ PySem.W.kitAny X.K (.ref C) ws = some b ∧ Q (.bl b) H) := by
  intro pins s σ H xs us Q I r h
  obtain ⟨a, C, tp, d, cs, ws, b, B, newId, initId, bm, rfl, T, ea, hd, hT, k, e, q⟩ := h
  obtain ⟨u1, u2, rfl, r1, r2⟩ := vals2 r
  obtain rfl : u1 = Value.ref a := r1
  cases (show u2 = Value.ref tp from r2)
  obtain ⟨t1, od, J⟩ := inst_of I ea hd
  obtain ⟨nm, q0, N, bs, sn, sub, ab, col, dd, k0, k1, k2, k3, k5, hC⟩ := T.cls
  have hcl : (PySem.W.clsIn X.K C).isSome = true := by unfold PySem.W.clsIn; rw [hC]; rfl
  obtain ⟨_, its, rv, o, h1, h2, n, h3⟩ := (show ObjOk X.prog X.w H s.heap tp (.tup cs) from I.hok tp _ hT)
  have e3 := ClsV.all k rv
  subst e3
  obtain ⟨oc, od', dt, sl⟩ := o
  simp only at h2 h3
  subst h2 h3
  exact PySem.W.kia_tup (PySem.W.kitx_exc hcl T.ga T.gt T.exC T.ca T.cn T.ct T.mo) I.kIn J h1 e (fun z => nomatch z) fun tk => ⟨.bl b, H, I.tok tk, rfl, q⟩
end
end XL
namespace XL
open PySem PySem.Spec PyProof.Rows L2
/-! ### a caught exception that is kept: its class and its dict are known -/
def exk (a : Addr) (cls : Value) (d : Option Addr) : HO := .ext fun h => ∃ (oe : Obj) (vs : Array Value), h.get? a = some oe ∧ oe.cls = cls ∧ oe.dict = d ∧ oe.data = .fields vs
theorem exk_ok {P : Program} {w : World} {H : Hp} {h : Heap} {a : Addr} {cls : Value} {d : Option Addr} {oe : Obj} {vs : Array Value} (he : h.get? a = some oe) (hc : oe.cls = cls) (hd : oe.dict = d) (hf : oe.data = .fields vs) : ObjOk P w H h a (exk a cls d) :=
  ⟨⟨oe, vs, he, hc, hd, hf⟩, ⟨_, he⟩, fun h1 h2 z k => by
    obtain ⟨o, v, q, r⟩ := z
    exact ⟨o, v, k _ q, r⟩⟩
theorem exk_at {P : Program} {w : World} {H : Hp} {h : Heap} {a : Addr} {cls : Value} {d : Option Addr} (hok : HOk P w H h) (he : H a = some (exk a cls d)) : ∃ (oe : Obj) (vs : Array Value), h.get? a = some oe ∧ oe.cls = cls ∧ oe.dict = d ∧ oe.data = .fields vs := by
  have x : ObjOk P w H h a (.ext fun h => ∃ (oe : Obj) (vs : Array Value), h.get? a = some oe ∧ oe.cls = cls ∧ oe.dict = d ∧ oe.data = .fields vs) := hok a _ he
  exact x.1
theorem flying_keep {B h h' : Heap} {l : List Env} {a : Addr} {Z : Obj → Prop} (x : HandSPX.FlyingZ B l a Z h) (k : ∀ b o, h.get? b = some o → h'.get? b = some o) : HandSPX.FlyingZ B l a Z h' := by
  obtain ⟨x1, x2, x3, oe, vs, T, oT, ts, e1, e2, e3, e4, e5, e6, e7, e8, e9⟩ := x
  exact ⟨fun b o e => k b o (x1 b o e), x2, x3.of_keeps fun b o e _ => ⟨o, k b o e, rfl⟩, oe, vs, T, oT, ts, k _ _ e1, e2, e3, e4, e5, e6, k _ _ e7, e8, e9⟩
section
variable {X : Cx} {pins : List (Addr × Obj)} {σ : L2.St} {H : Hp} {s : Shared} {a : Addr} {oe : Obj} {vs : Array Value} {cls : Value} {d : Option Addr}
theorem Inv.caught (S : Inv (X.suite a ((a, oe) :: (X.pn ++ pins))) [] σ H s) (ok : X.Ok) (n0 : X.s_0.heap.get? a = none) (np : ∀ p ∈ X.pn ++ pins, p.1 ≠ a) (hz : Zc cls d oe) (hd : oe.data = .fields vs) :
    Inv X pins σ (upd H a (exk a cls d)) s := by
  have U := S.unsuite ok
  obtain ⟨ea, na, nL, nF, nc⟩ := S.pin (a, oe) (by rw [List.append_nil]; exact List.mem_cons_self ..)
  have na' : H a = none := na
  have ne : ∀ {b : Addr} {o : HO}, H b = some o → b ≠ a := fun {b o} e z => by rw [z, na'] at e; cases e
  refine ⟨ok, U.os, U.bare, ⟨U.base.keep, U.base.slot, fun b o e n hx => ?_, U.base.there, fun b ys e => ?_, fun b o u e => ?_, fun b ps e => ?_⟩, U.loc, U.cell, ?_, fun x c e => ?_, fun p hp => ?_, fun b o e => ?_, U.len⟩
  · rw [upd_ne (fun z => by rw [z, n0] at e; cases e)]; exact U.base.free b o e n hx
  · have q := U.base.tups b ys e
    rw [upd_ne (ne q)]; exact q
  · have q := U.base.frzs b o u e
    rw [upd_ne (ne q)]; exact q
  · obtain ⟨m, q⟩ := U.base.tbls b ps e
    exact ⟨m, by rw [upd_ne (ne q)]; exact q⟩
  · rw [upd_ne (fun z => nL z.symm)]; exact U.free
  · have hc : c ≠ a := fun z => by
      obtain ⟨w', o, ho, hdat⟩ := U.cell x c e
      rw [z] at ho
      have e2 : some o = some oe := ho.symm.trans ea
      cases e2
      exact nc w' hdat
    rw [upd_ne hc]; exact U.freeC x c e
  · obtain ⟨a1, a2, a3⟩ := U.pin p hp
    exact ⟨a1, by rw [upd_ne (np p hp)]; exact a2, a3⟩
  · by_cases hb : b = a
    · subst hb
      rw [upd_same] at e
      cases e
      exact exk_ok ea hz.1 hz.2 hd
    · rw [upd_ne hb] at e
      refine (U.hok b o e).stay (fun c v _ q => q) (fun c q => ?_) fun c ys q => ?_
      · rw [upd_ne (ne q)]; exact q
      · rw [upd_ne (ne q)]; exact q
end
/-- names of classes, read in an except clause -/
def EvAll (X : Cx) (es : List Expr) (cs : List Value) : Prop := ∀ (a : Addr) (pn pins : List (Addr × Obj)) (σ : L2.St) (H : Hp) (s : Shared) (pos : Pos) (Q : List Value → Shared → Prop) (E : Value → Shared → Prop), Inv (X.suite a pn) pins σ H s → Q cs s →
  wpAny (model X.prog X.w) (X.A.mark (some (.ref a))) (spliced (backTo pos (starEach es X.env))) Q E s
theorem ev_nil {X : Cx} : EvAll X [] [] := fun a pn pins σ H s pos Q E I q => args_nil q
theorem ev_cons {X : Cx} {x : Str} {p : Pos} {es : List Expr} {c : Value} {cs : List Value} (hg : Gl X x) (hm : X.mg x = some c) (r : EvAll X es cs) (hdb : (x == ("__debug__" : Str)) = false := by decide)
    (he : starEach (.Name x p :: es) X.env = (false, eval (.Name x p) X.env) :: starEach es X.env := by rfl) : EvAll X (.Name x p :: es) (c :: cs) := fun a pn pins σ H s pos Q E I q =>
  args_cons (ld_glob (X := X.suite a pn) I hg hm (r a pn pins σ H s pos _ E I q) hdb) he
/-- a tuple of such classes, against an exception -/
def ExTup (cs : List Value) : Prop := ∀ (M : Model) (K : PySem.W.Frag) (h : Heap) (cls : Value) (tp e : Addr) (b : Bool), K.In h → PySem.W.Looks M h (typeOf (.ref e)) cls → h.get? tp = some { cls := .type "tuple", data := .seq cs.toArray } → PySem.W.exmAny K cls cs = some b → PySem.W.Looks M h (excMatches (.ref e) (.ref tp)) b
theorem ext2 (c1 c2 : Value) : ExTup [c1, c2] := fun M K h cls tp e b k l p x => PySem.W.exm_tup2 k l p x
theorem ext3 (c1 c2 c3 : Value) : ExTup [c1, c2, c3] := fun M K h cls tp e b k l p x => PySem.W.exm_tup3 k l p x
theorem ext4 (c1 c2 c3 c4 : Value) : ExTup [c1, c2, c3, c4] := fun M K h cls tp e b k l p x => PySem.W.exm_tup4 k l p x
/-- what 'except (x, ..) as n' wishes of what the body raises; all is caught -/
def wCt (K : PySem.W.Frag) (cs : List Value) (i : Nat) (ts : Addr → Value → Option Addr → TS) (D : Ends) : WX := fun cls d σ H => PySem.W.exmAny K cls cs = some true ∧ ∀ a, H a = none →
  ts a cls d { nx := fun σ' H' => D.nx (σ'.set i none) (upd H' a (exk a cls d)), rt := fun v H' => D.rt v (upd H' a (exk a cls d)), bk := fun σ' H' => D.bk (σ'.set i none) (upd H' a (exk a cls d)), ct := fun σ' H' => D.ct (σ'.set i none) (upd H' a (exk a cls d)) } (σ.set i (some (.ref a))) H
section
variable {X : Cx} {n : Str} {es : List Expr} {cs : List Value} {i kk : Nat} {body suite : List Stmt} {b₀ : Stmt} {tp pos pos' : Pos} {tb : WX → TS} {ts : Addr → Value → Option Addr → TS}
theorem ps_try_ct (hs : X.stack = X.env :: X.outer) (hf : X.env.frame = some X.env.locals) (hN : X.N.Nodup) (hi : X.N[i]? = some n) (hln : X.env.kindOf n = some .local) (ev : EvAll X es cs) (hx : ExTup cs) (hex : X.ex = []) (hcs : cs.length ≤ 1000)
    (hb : ∀ (W : WX) (pn : List (Addr × Obj)) (xe : Value → Shared → Prop), Takes (X.tr pn xe) W → PassesOwn (model X.prog X.w) X.A X.env xe → PSs (X.tr pn xe) body (tb W))
    (hsu : ∀ (a : Addr) (oe : Obj) (cls : Value) (d : Option Addr) (pn : List (Addr × Obj)), Zc cls d oe → (∃ vs, oe.data = .fields vs) → PSs (X.suite a ((a, oe) :: pn)) (b₀ :: suite) (ts a cls d)) :
    PS X (.Try body [.ExceptHandler (some (.Tuple es kk tp)) (some n) (b₀ :: suite) pos'] [] [] pos) (fun D σ H => tb (wCt X.K cs i ts D) D σ H) := by
  refine ⟨fun pins s σ H D I h => ?_⟩
  have ok := I.ok
  have hfr : X.A.frames = some (X.env :: X.outer) := by rw [ok.frames, hs]
  have hloc : Loc X.env.scope n := .inl hln
  refine wpAny_Try_except ?_
  refine wpAny_mono ((hb (wCt X.K cs i ts D) (X.pn ++ pins) (fun e s₁ => wpAny (model X.prog X.w) X.A (noteFrame e X.env) (fun _ s₂ => wpAny (model X.prog X.w) X.A (setFlight e none) (fun _ s₃ =>
    wpAny (model X.prog X.w) X.A (handleBy e X.env [.ExceptHandler (some (.Tuple es kk tp)) (some n) (b₀ :: suite) pos']) (SP X pins D) X.xe s₃) X.xe s₂) X.xe s₁) (fun u s' xx => ?_) PassesOwn.looking).run [] s σ H D (I.toTry _) h) (fun f s1 hsp => ?_) (fun e s1 he => he)
  · obtain ⟨a, B, sI, pins', σ', H', cls, d, rfl, J', nb, up, sky, na, os, ag, hb1, hyes⟩ := xx
    have J : Inv X pins σ' H' sI := J'.ofTry ok
    have sky' : Sky B (X.env :: X.outer) a (Zc cls d) X.env.locals s'.heap := by rw [← hs]; exact sky
    have nB : B.get? a = none := by
      rcases sky with z | z | z
      · exact z.2.1
      · exact z.2.1
      · exact z.2.1
    refine Sky.land Zc.steady hfr hf sky' fun h3 fl3 up3 => ?_
    obtain ⟨oe3, vs3, he3, hz3, hd3⟩ := fl3.there
    have notFr : ∀ {h : Heap} {o : Obj} {vs : Array Value}, h.FunFrames B (X.env :: X.outer) → h.get? a = some o → o.data = .fields vs → a ∉ frs (X.env :: X.outer) := fun {h o vs} ff e dd hm => by
      obtain ⟨_, o', e', hnf⟩ := ff.mem hm
      rw [e] at e'
      cases e'
      exact hnf _ dd
    have nfr := notFr fl3.2.2.1 he3 hd3
    have nL : a ≠ X.env.locals := fun z => nfr (List.mem_filterMap.mpr ⟨X.env, List.mem_cons_self, by rw [hf, z]⟩)
    have nF : a ∉ X.fs := fun hm => by
      obtain ⟨e, he, q⟩ := List.mem_filterMap.mp hm
      exact nfr (List.mem_filterMap.mpr ⟨e, List.mem_cons_of_mem _ he, q⟩)
    have nI : sI.heap.get? a = none := by
      cases q : sI.heap.get? a with
      | none => rfl
      | some o =>
        have := nb a o q (by rw [hs]; exact nfr)
        rw [nB] at this; cases this
    have n0 : X.s_0.heap.get? a = none := by
      cases q : X.s_0.heap.get? a with
      | none => rfl
      | some o =>
        obtain ⟨o', e⟩ := J.base.there a o q (by rw [hex]; simp)
        rw [nI] at e; cases e
    have np : ∀ p ∈ X.pn ++ pins, p.1 ≠ a := fun p hp z => by
      obtain ⟨e, _⟩ := J.pin p hp
      rw [z, nI] at e; cases e
    have J3 : Inv X pins σ' H' { s' with heap := h3 } := J.landed nb fl3.1 (up.trans up3) os ag
    have S3 := J3.suite he3 hd3 na nL nF
    refine wpAny_handleBy_cons (codeAny_handlers_test ?_) (by intro q; cases q)
    refine Tuple_ (ev a _ [] σ' H' _ _ _ _ S3 (wpAny_newTuple ?_ (by rw [sizeLine_eq]; omega)))
    have k3 : ∀ b o, h3.get? b = some o → (h3.push { cls := .type "tuple", data := .seq cs.toArray }).get? b = some o := fun b o e => Heap.get?_push_of_some _ e
    have fl3' := flying_keep fl3 k3
    have J3' : Inv X pins σ' H' { s' with heap := h3.push { cls := .type "tuple", data := .seq cs.toArray } } := J3.kept (t' := s'.toks) k3
    have LT : PySem.W.Looks (model X.prog X.w) (h3.push { cls := .type "tuple", data := .seq cs.toArray }) (typeOf (.ref a)) cls := fun A Q E s k q => wpAny_typeOf_ref (k _ _ (k3 _ _ he3)) (by rw [hz3.1]; exact q)
    refine (hx (model X.prog X.w) X.K _ cls _ a true J3'.kIn LT (Heap.get?_push_size _ rfl) hb1).here ?_
    refine codeAny_handlers_suite_as ?_
    refine HandSPX.lands_againZ fl3' fun h4 fl4 up4 => ?_
    have up34 : h3.UpToSlots h4 := fun b o e hn => up4 b o (k3 b o e) hn
    have J4 : Inv X pins σ' H' { s' with heap := h4 } := J.landed nb fl4.1 ((up.trans up3).trans up34) os ag
    obtain ⟨oe4, vs4, he4, hz4, hd4⟩ := fl4.there
    have S4 := J4.suite he4 hd4 na nL nF
    refine store_ok (X := X.suite a ((a, oe4) :: (X.pn ++ pins))) (v := .ref a) S4 hN hi hloc rfl (fun s5 S5 => ?_) (.inr hln)
    refine wpAny_mono ((hsu a oe4 cls d (X.pn ++ pins) hz4 ⟨_, hd4⟩).run [] s5 _ H' _ S5 (hyes a na)) (fun f s6 hsp => ?_) (fun _ _ z => False.elim z)
    have fin : ∀ {σ6 : L2.St} {H6 : Hp} {Q : Shared → Prop}, Inv (X.suite a ((a, oe4) :: (X.pn ++ pins))) [] σ6 H6 s6 → (∀ s7, Inv X pins (σ6.set i none) (upd H6 a (exk a cls d)) s7 → Q s7) →
        wpAny (model X.prog X.w) X.A (do bindName X.env n .none; unbindBehindTheSuite X.env n pos') (fun _ s7 => Q s7) X.xe s6 := fun {σ6 H6 Q} S6 hq =>
      gone_ok (X := X.suite a ((a, oe4) :: (X.pn ++ pins))) S6 hN hi hln fun s7 S7 => hq s7 (Inv.caught S7 ok n0 np hz4 hd4)
    cases f with
    | next =>
      obtain ⟨σ6, H6, S6, q6⟩ := hsp
      exact fin S6 fun s7 J7 => ⟨_, _, J7, q6⟩
    | brk =>
      obtain ⟨σ6, H6, S6, q6⟩ := hsp
      exact fin S6 fun s7 J7 => ⟨_, _, J7, q6⟩
    | cont =>
      obtain ⟨σ6, H6, S6, q6⟩ := hsp
      exact fin S6 fun s7 J7 => ⟨_, _, J7, q6⟩
    | ret u =>
      obtain ⟨v6, σ6, H6, S6, r6, q6⟩ := hsp
      exact fin S6 fun s7 J7 => ⟨_, _, _, J7, r6, q6⟩
  · cases f with
    | next =>
      obtain ⟨σ', H', J', q⟩ := hsp
      exact wpAny_execs_nil ⟨σ', H', J'.ofTry ok, q⟩
    | brk =>
      obtain ⟨σ', H', J', q⟩ := hsp
      exact ⟨σ', H', J'.ofTry ok, q⟩
    | cont =>
      obtain ⟨σ', H', J', q⟩ := hsp
      exact ⟨σ', H', J'.ofTry ok, q⟩
    | ret u =>
      obtain ⟨v, σ', H', J', r, q⟩ := hsp
      exact ⟨v, σ', H', J'.ofTry ok, r, q⟩
end
end XL
namespace XL
open PySem PySem.Spec PyProof.Rows L2
section
variable {X : Cx} {e : Expr} {es : List Expr} {te : TE} {ta : TA} {p pos : Pos} {B newId initId : String} {bm : List Value} {x : Str} {C fI : Addr} {k : Nat} {fd : FuncData} {ps : List Str} {sp : Sp}
/-- raise x(e, ..): an own exception with its own __init__ that stores fields -/
theorem pmk_ex (T : ExF X.K C B newId initId bm) (tyC : PySem.W.typeIn X.K (.ref C) = some (.type "type")) (iC : PySem.W.findIn X.K (.ref C) "__init__" = some (some (.ref fI))) (tI : PySem.W.typeIn X.K (.ref fI) = some (.type "function")) (F1 : FnOk X.prog X.w X.K X.mg X.base CX0 k fI fd ps sp) (hr : Room (k + 1) X.A) (hb : Binds X.K fd ps [])
    (hg : Gl X x) (hm : X.mg x = some (.ref C)) (ha : PA X (e :: es) ta) (hdb : (x == ("__debug__" : Str)) = false := by decide) (he : starEach (e :: es) X.env = (false, eval e X.env) :: starEach es X.env := by rfl) (hpl : (backTo pos (starEach es X.env)).any (·.1) = false := by rfl) :
    PMk X (.Call (.Name x p) (e :: es) [] pos) (fun σ H Q => ta σ H fun vs H1 => vs.length ≤ 1000 ∧ ∀ a, H1 a = none → sp (.ref a :: vs) (upd H1 a (exo a C none)) (fun v H2 => v = .non ∧ ∃ d fs, H2 a = some (exo a C (some d)) ∧ H2 d = some (exd d fs) ∧ H1 d = none ∧ Q (.ref C) (some d) (upd (del H2 a) d (.xd fs))) E0) := by
  intro pins s σ H Q I h
  obtain ⟨nm, q, N, bs, sn, sub, ab, col, dd, k0, k1, k2, k3, k5, hC⟩ := T.cls
  refine wpAny_Call_Name_kw (ld_glob I hg hm ?_ hdb)
  refine PySem.W.callWith_K (h₀ := X.base) I.ok.mod.kin T.kC (thn (ha.run pos pins s σ H _ I h) fun us s1 ⟨vs, H1, I1, r1, hz, q1⟩ => ⟨I1.kIn, ?_⟩) he hpl
  show wpAny _ _ (call (.ref C) us) _ _ _
  obtain ⟨hp, g, dr, tk, os⟩ := s1
  have hsz : hp.objs.size ≤ hp.objs.size + 1 := Nat.le_succ _
  have hq := q1 (hp.objs.size + 1) (I1.hok.fresh hsz)
  have kk : ∀ b o, hp.get? b = some o → ((hp.push (PySem.W.kdv_tup us)).push (PySem.HandSPX.excO C hp.objs.size)).get? b = some o := fun b o e => Heap.get?_push_of_some _ (Heap.get?_push_of_some _ e)
  have hget : ((hp.push (PySem.W.kdv_tup us)).push (PySem.HandSPX.excO C hp.objs.size)).get? (hp.objs.size + 1) = some (PySem.HandSPX.excO C hp.objs.size) := by heap_get
  have I2 : Inv X pins σ (upd H1 (hp.objs.size + 1) (exo (hp.objs.size + 1) C none)) ⟨(hp.push (PySem.W.kdv_tup us)).push (PySem.HandSPX.excO C hp.objs.size), g, dr, tk, os⟩ := I1.laid (t' := tk) kk hsz (exo_ok hget)
  have r2 : Vals (V.ref (hp.objs.size + 1) :: vs) (Value.ref (hp.objs.size + 1) :: us) := .cons rfl r1
  have hl : (Value.ref (hp.objs.size + 1) :: us).length = ps.length := by rw [← r2.length]; exact F1.len _ _ _ _ hq
  have hus : us.length ≤ sizeLine := by rw [← r1.length, sizeLine_eq]; omega
  have e0 : Env0 X.prog X.w X.K X.mg X.base (X.A.under (.builtin "type.__call__" ⟨.ref C :: us, []⟩)) X.stack _ _ := I2.env0.make C us []
  have hb2 : ∀ s : Shared, X.K.In s.heap → BindsTo s fd ⟨.ref (hp.objs.size + 1) :: us, []⟩ (ps.zip (.ref (hp.objs.size + 1) :: us)) := fun s hk => by
    have b2 := hb s (.ref (hp.objs.size + 1) :: us) hk (by rw [List.append_nil]; exact hl)
    rwa [List.append_nil] at b2
  refine wpAny_call (PySem.XE.callK T.base (I1.kIn _ _ hC) (PySem.W.looks_findIn I1.kIn iC) (fun self => PySem.W.bind_fn I1.kIn self tI) hus
    (codeAny_mono (F1.run _ X.stack _ _ ⟨Value.ref (hp.objs.size + 1) :: us, []⟩ (Value.ref (hp.objs.size + 1) :: us) _ _ E0 (hr.make C us []) e0 (hb2 _ I2.kIn) r2 hq) fun r s' hq' => ?_))
  cases r with
  | error er => exact False.elim hq'
  | ok fl =>
    cases fl with
    | ret u =>
      obtain ⟨v, H2, os2, bare2, un2, hok2, rv, ev, d, fs, ea, ed, hd1, q2⟩ := hq'
      subst ev
      obtain ⟨h2, g2, d2, t2, os'⟩ := s'
      exact ⟨rv, mk_end (raises_own T.exC tyC) I1 hsz kk un2 hok2 os2 bare2 ea ed hd1 q2⟩
    | next => exact False.elim hq'
    | brk => exact False.elim hq'
    | cont => exact False.elim hq'
/-! ### the kept one: isinstance, fields -/
theorem inst_k {pins : List (Addr × Obj)} {σ : L2.St} {H : Hp} {s : Shared} {a C : Addr} {d : Option Addr} (I : Inv X pins σ H s) (ea : H a = some (exk a (.ref C) d)) (hd : ∀ dd, d = some dd → ∃ fs, H dd = some (.xd fs)) : ∃ oe od, PySem.W.InstAt s.heap a oe C od := by
  obtain ⟨oe, vs, ho, hc, hdd, hf⟩ := exk_at I.hok ea
  cases d with
  | none => exact ⟨oe, none, ho, hc, by unfold PySem.W.notCls; rw [hf], by rw [hdd]; trivial⟩
  | some dd =>
    obtain ⟨fs, ed⟩ := hd dd rfl
    obtain ⟨mA, hns, hr⟩ := (show ObjOk X.prog X.w H s.heap dd (.xd fs) from I.hok dd _ ed)
    obtain ⟨od, hod, hl⟩ := lookIn_ns hns
    exact ⟨oe, some od, ho, hc, by unfold PySem.W.notCls; rw [hf], by rw [hdd]; exact hod⟩
def rIsK (K : PySem.W.Frag) : List V → Hp → VK → Prop := fun xs H Q => ∃ (a C : Addr) (d : Option Addr) (c : V) (u : Value) (b : Bool) (B newId initId : String) (bm : List Value), xs = [.ref a, c] ∧ ExF K C B newId initId bm ∧ H a = some (exk a (.ref C) d) ∧ (∀ dd, d = some dd → ∃ fs, H dd = some (.xd fs)) ∧ ClsV c u ∧ PySem.W.kitOne K (.ref C) u = some b ∧ Q (.bl b) H
theorem call_isK : CallR X (.builtin "isinstance") (rIsK X.K) := by
  intro pins s σ H xs us Q I r h
  obtain ⟨a, C, d, c, u, b, B, newId, initId, bm, rfl, T, ea, hd, k, e, q⟩ := h
  obtain ⟨u1, u2, rfl, r1, r2⟩ := vals2 r
  have e2 := k.eq r2
  subst e2
  obtain rfl : u1 = Value.ref a := r1
  obtain ⟨oe, od, J⟩ := inst_k I ea hd
  obtain ⟨nm, q0, N, bs, sn, sub, ab, col, dd, k0, k1, k2, k3, k5, hC⟩ := T.cls
  have hcl : (PySem.W.clsIn X.K C).isSome = true := by unfold PySem.W.clsIn; rw [hC]; rfl
  exact PySem.W.kia_one (PySem.W.kitx_exc hcl T.ga T.gt T.exC T.ca T.cn T.ct T.mo) I.kIn J e (fun z => nomatch z) fun tk => ⟨.bl b, H, I.tok tk, rfl, q⟩
def rIsKT (K : PySem.W.Frag) : List V → Hp → VK → Prop := fun xs H Q => ∃ (a C tp : Addr) (d : Option Addr) (cs : List V) (ws : List Value) (b : Bool) (B newId initId : String) (bm : List Value), xs = [.ref a, .ref tp] ∧ ExF K C B newId initId bm ∧ H a = some (exk a (.ref C) d) ∧ (∀ dd, d = some dd → ∃ fs, H dd = some (.xd fs)) ∧ H tp = some (.tup cs) ∧ Paired ClsV cs ws ∧ PySem.W.kitAny K (.ref C) ws = some b ∧ Q (.bl b) H
theorem call_isKT : CallR X (.builtin "isinstance") (rIsKT X.K) := by
  intro pins s σ H xs us Q I r h
  obtain ⟨a, C, tp, d, cs, ws, b, B, newId, initId, bm, rfl, T, ea, hd, hT, k, e, q⟩ := h
  obtain ⟨u1, u2, rfl, r1, r2⟩ := vals2 r
  obtain rfl : u1 = Value.ref a := r1
  cases (show u2 = Value.ref tp from r2)
  obtain ⟨oe, od, J⟩ := inst_k I ea hd
  obtain ⟨nm, q0, N, bs, sn, sub, ab, col, dd, k0, k1, k2, k3, k5, hC⟩ := T.cls
  have hcl : (PySem.W.clsIn X.K C).isSome = true := by unfold PySem.W.clsIn; rw [hC]; rfl
  obtain ⟨_, its, rv, o, h1, h2, n, h3⟩ := (show ObjOk X.prog X.w H s.heap tp (.tup cs) from I.hok tp _ hT)
  have e3 := ClsV.all k rv
  subst e3
  obtain ⟨oc, od', dt, sl⟩ := o
  simp only at h2 h3
  subst h2 h3
  exact PySem.W.kia_tup (PySem.W.kitx_exc hcl T.ga T.gt T.exC T.ca T.cn T.ct T.mo) I.kIn J h1 e (fun z => nomatch z) fun tk => ⟨.bl b, H, I.tok tk, rfl, q⟩
theorem pe_kget {n : Str} (T : ExF X.K C B newId initId bm) (hno : PySem.W.findIn X.K (.ref C) n = some none) (he : PE X e te) (hb : attributeBase e n X.env (eval e X.env) = eval e X.env := by rfl) :
    PE X (.Attribute e n pos) (fun σ H Q => te σ H fun x H1 => ∃ a dd fs v, x = .ref a ∧ H1 a = some (exk a (.ref C) (some dd)) ∧ H1 dd = some (.xd fs) ∧ fs.lookup n = some v ∧ Q v H1) := by
  refine ⟨fun pins s σ H Q I h => attr_of hb (thn (he.run pins s σ H _ I h) fun u s1 hh => ?_)⟩
  obtain ⟨x, H1, I1, rx, a, dd, fs, v, ex, ea, ed, l, q⟩ := hh
  subst ex
  obtain rfl : u = Value.ref a := rx
  obtain ⟨oe, vs, ho, hc, hdd, hf⟩ := exk_at I1.hok ea
  obtain ⟨mA, hns, hr⟩ := (show ObjOk X.prog X.w H1 s1.heap dd (.xd fs) from I1.hok dd _ ed)
  obtain ⟨od, hod, hl⟩ := lookIn_ns hns
  obtain ⟨u, hu, ru⟩ := RelO.some_of (v := v) (o := mA n) (by rw [← l]; exact hr n)
  have J : PySem.W.InstAt s1.heap a oe C (some od) := ⟨ho, hc, by unfold PySem.W.notCls; rw [hf], by rw [hdd]; exact hod⟩
  exact HandSPX.exc_get I1.kIn J T.ga T.gt T.exC (PySem.W.findObj_own T.hd hno rfl (by rw [hl, hu])) (handed_of ru) ⟨v, H1, I1.tok _, ru, q⟩
end
end XL
namespace XL
open PySem PySem.Spec PyProof.Rows L2
/-! ### own exceptions straight over one of four of Python's own -/
def bN : Nat → String
  | 0 => "ValueError" | 1 => "LookupError" | 2 => "RuntimeError" | _ => "OverflowError"
def bW : Nat → String
  | 0 => "ValueError.__new__" | 1 => "LookupError.__new__" | 2 => "RuntimeError.__new__" | _ => "OverflowError.__new__"
def bI : Nat → String
  | 0 => "ValueError.__init__" | 1 => "LookupError.__init__" | 2 => "RuntimeError.__init__" | _ => "OverflowError.__init__"
def bM : Nat → List Value
  | 0 => [.type "ValueError", .type "Exception", .type "BaseException", .type "object"]
  | 1 => [.type "LookupError", .type "Exception", .type "BaseException", .type "object"]
  | 2 => [.type "RuntimeError", .type "Exception", .type "BaseException", .type "object"]
  | _ => [.type "OverflowError", .type "ArithmeticError", .type "Exception", .type "BaseException", .type "object"]
abbrev ExK (K : PySem.W.Frag) (C : Addr) (b : Nat) : Prop := ExF K C (bN b) (bW b) (bI b) (bM b)
theorem PE.imp {X : Cx} {e : Expr} {t t' : TE} (h : PE X e t) (i : ∀ σ H Q, t' σ H Q → t σ H Q) : PE X e t' := ⟨fun pins s σ H Q I q => h.run pins s σ H Q I (i σ H Q q)⟩
def spI (c : Addr) (f : Str) : Sp := fun vs H Q _ => ∃ (a : Addr) (y : V), vs = [.ref a, y] ∧ H a = some (exo a c none) ∧ ∀ dx, H dx = none → dx ≠ a → Q .non (upd (upd H dx (exd dx [(f, y)])) a (exo a c (some dx)))
def spI0 (c : Addr) : Sp := fun vs H Q _ => ∃ a : Addr, vs = [.ref a] ∧ H a = some (exo a c none) ∧ Q .non H
section
variable {K : PySem.W.Frag}
theorem boot_ValueError : bootBuiltins "ValueError" = some (.type "ValueError") := by decide +kernel
theorem tyf_ValueError : typeOf (.type "ValueError") = pure (.type "type") := PySem.W.kitMeta_of (by decide +kernel)
theorem fnd_ValueError : PySem.W.findCls K (.type "ValueError") (.type "type") "__init__" = some (.val (.builtin "ValueError.__init__")) := by rfl
theorem stb_ValueError : Manifest.isStub "ValueError" = false := by decide +kernel
theorem hnd_ValueError : PySem.W.handedIn (.builtin "ValueError.__init__") = true := by decide +kernel
theorem boot_LookupError : bootBuiltins "LookupError" = some (.type "LookupError") := by decide +kernel
theorem tyf_LookupError : typeOf (.type "LookupError") = pure (.type "type") := PySem.W.kitMeta_of (by decide +kernel)
theorem fnd_LookupError : PySem.W.findCls K (.type "LookupError") (.type "type") "__init__" = some (.val (.builtin "LookupError.__init__")) := by rfl
theorem stb_LookupError : Manifest.isStub "LookupError" = false := by decide +kernel
theorem hnd_LookupError : PySem.W.handedIn (.builtin "LookupError.__init__") = true := by decide +kernel
theorem boot_RuntimeError : bootBuiltins "RuntimeError" = some (.type "RuntimeError") := by decide +kernel
theorem tyf_RuntimeError : typeOf (.type "RuntimeError") = pure (.type "type") := PySem.W.kitMeta_of (by decide +kernel)
theorem fnd_RuntimeError : PySem.W.findCls K (.type "RuntimeError") (.type "type") "__init__" = some (.val (.builtin "RuntimeError.__init__")) := by rfl
theorem stb_RuntimeError : Manifest.isStub "RuntimeError" = false := by decide +kernel
theorem hnd_RuntimeError : PySem.W.handedIn (.builtin "RuntimeError.__init__") = true := by decide +kernel
theorem boot_OverflowError : bootBuiltins "OverflowError" = some (.type "OverflowError") := by decide +kernel
theorem tyf_OverflowError : typeOf (.type "OverflowError") = pure (.type "type") := PySem.W.kitMeta_of (by decide +kernel)
theorem fnd_OverflowError : PySem.W.findCls K (.type "OverflowError") (.type "type") "__init__" = some (.val (.builtin "OverflowError.__init__")) := by rfl
theorem stb_OverflowError : Manifest.isStub "OverflowError" = false := by decide +kernel
theorem hnd_OverflowError : PySem.W.handedIn (.builtin "OverflowError.__init__") = true := by decide +kernel
end
/-- an own exception straight over the b-th of the four -/
theorem exk_mk {K : PySem.W.Frag} {C : Addr} {b : Nat} {nm q : Str} {N : Addr} {bs : List Value} {sn : List Str} {sub : List Value} {ab : Bool} {col : Option Bool} {dd : Option Addr} {k0 k1 k2 k3 k5 : Option Value} (base : ExcBaseFacts (bN b) (bW b) (bI b) (bM b)) (pass : ∀ self, refuseLoop self "__setattr__" (bM b) = pure ())
    (obj : (bM b).contains (.type "object") = true) (bas : (bM b).contains (.type "BaseException") = true) (hC : K.lookup C = some (excClassObj nm q C N bs (bM b) true sn sub ab col dd k0 k1 k2 k3 k5 (bW b))) (sa : PySem.W.findIn K (.ref C) "__setattr__" = some (some (.builtin "object.__setattr__"))) (ga : PySem.W.findIn K (.ref C) "__getattribute__" = some (some (.builtin "BaseException.__getattribute__"))) (gt : PySem.W.findIn K (.ref C) "__getattr__" = some none)
    (kC : PySem.W.keepIn K (.ref C) = true) (ca : PySem.W.findIn K (.ref C) "__class__" = some (some (.builtin "object.__class__"))) (hd : PySem.W.hasDictIn K C = true) (sg : PySem.W.specialIn K (.builtin "object.__class__") "__get__" = some (some (.builtin "getset_descriptor.__get__"))) (st : PySem.W.takesIn K (.builtin "object.__class__") = some true) : ExK K C b := by
  have hcl : PySem.W.clsIn K C = some { name := nm, bases := bs, mro := .ref C :: bM b, ns := N, qualname := q, hasDict := true, slotNames := sn, subclasses := sub, abstract := ab, collection := col, hasDel := false } := by unfold PySem.W.clsIn; rw [hC] <;> rfl
  have mo : ∀ v, (bM b).contains v = true → PySem.W.mroIn K C v = some true := fun v hv => by
    unfold PySem.W.mroIn
    rw [hcl]
    show some ((Value.ref C :: bM b).contains v) = some true
    rw [List.contains_cons, hv, Bool.or_true]
  exact ⟨base, fun self => by rw [refuseLoop_ref]; exact pass self, obj, ⟨nm, q, N, bs, sn, sub, ab, col, dd, k0, k1, k2, k3, k5, hC⟩, sa, ga, gt, mo _ bas, kC, hd, ca, sg, st, mo _ obj⟩
theorem fn_up {P : Program} {w : World} {K : PySem.W.Frag} {mg : Str → Option Value} {base : Heap} {k n : Nat} {f : Addr} {fd : FuncData} {ps : List Str} {sp : Sp} (h : k ≤ n) (F : FnOk P w K mg base CX0 k f fd ps sp) : FnOk P w K mg base CX0 n f fd ps sp :=
  ⟨F.len, fun A outer s H args us vs Q E hr e0 hb r q => F.run A outer s H args us vs Q E (hr.mono h) e0 hb r q⟩
/-- an own exception class, its __init__, its name -/
structure Er (P : Program) (w : World) (K : PySem.W.Frag) (mg : Str → Option Value) (base : Heap) (nm : Str) (b : Nat) (C fI : Addr) (fd : FuncData) (ps : List Str) (sp : Sp) : Prop where
  ex : ExK K C b
  ty : PySem.W.typeIn K (.ref C) = some (.type "type")
  ini : PySem.W.findIn K (.ref C) "__init__" = some (some (.ref fI))
  tI : PySem.W.typeIn K (.ref fI) = some (.type "function")
  g : mg nm = some (.ref C)
  ok : FnOk P w K mg base CX0 1 fI fd ps sp
  bi : Binds K fd ps []
/-- the heap behind a raise: the new dict alone -/
theorem del_upd' {H : Hp} {a d : Addr} {o o' o2 u : HO} (h : H a = none) (n : d ≠ a) : upd (del (upd (upd (upd H a o) d o') a o2) a) d u = upd H d u := by
  funext b
  by_cases hd : b = d
  · rw [hd, upd_same, upd_same]
  · rw [upd_ne hd, upd_ne hd]
    by_cases ha : b = a
    · rw [ha, del_same, h]
    · rw [del_ne ha, upd_ne ha, upd_ne hd, upd_ne ha]
theorem bM_ref (b : Nat) (D : Addr) : (bM b).contains (.ref D) = false := by
  unfold bM
  split <;> rfl
theorem cls_mro {K : PySem.W.Frag} {C : Addr} {B newId initId : String} {bm : List Value} (T : ExF K C B newId initId bm) (v : Value) : (PySem.W.clsIn K C).isSome = true ∧ PySem.W.mroIn K C v = some ((Value.ref C :: bm).contains v) := by
  obtain ⟨nm, q, N, bs, sn, sub, ab, col, dd, k0, k1, k2, k3, k5, hC⟩ := T.cls
  have hcl : PySem.W.clsIn K C = some { name := nm, bases := bs, mro := .ref C :: bm, ns := N, qualname := q, hasDict := true, slotNames := sn, subclasses := sub, abstract := ab, collection := col, hasDel := false } := by unfold PySem.W.clsIn; rw [hC] <;> rfl
  refine ⟨by rw [hcl]; rfl, ?_⟩
  unfold PySem.W.mroIn
  rw [hcl]
  rfl
/-! ### which class is under which -/
structure Cl (K : PySem.W.Frag) (D : Addr) : Prop where
  cls : ∃ nm q N bs bm sn sub ab col dd k0 k1 k2 k3 k5 newId, K.lookup D = some (excClassObj nm q D N bs bm true sn sub ab col dd k0 k1 k2 k3 k5 newId)
  ty : PySem.W.typeIn K (.ref D) = some (.type "type")
  bas : PySem.W.subIn K (.ref D) (.type "BaseException") = some true
  hd : PySem.W.hasDictIn K D = true
theorem kit_self {K : PySem.W.Frag} {C : Addr} : PySem.W.kitOne K (.ref C) (.ref C) = some true := by
  unfold PySem.W.kitOne
  rw [if_pos (beq_self_eq_true _)]
theorem kit_ne {K : PySem.W.Frag} {C D : Addr} {b : Nat} (T : ExK K C b) (hD : Cl K D) (ne : D ≠ C) : PySem.W.kitOne K (.ref C) (.ref D) = some false := by
  unfold PySem.W.kitOne
  have hn : (Value.ref C == Value.ref D) = false := by
    rw [beq_eq_false_iff_ne]
    exact fun z => ne (Value.ref.inj z).symm
  obtain ⟨nm, q, N, bs, bm, sn, sub, ab, col, dd, k0, k1, k2, k3, k5, newId, hC⟩ := hD.cls
  have hs : (PySem.W.clsIn K D).isSome = true := by unfold PySem.W.clsIn; rw [hC]; rfl
  rw [hn, if_neg Bool.false_ne_true]
  show (if ((PySem.W.clsIn K D).isSome && PySem.W.typeIn K (.ref D) == some (.type "type")) = true then PySem.W.mroIn K C (.ref D) else none) = some false
  have hn2 : (Value.ref D == Value.ref C) = false := by
    rw [beq_eq_false_iff_ne]
    exact fun z => ne (Value.ref.inj z)
  rw [hs, hD.ty, (cls_mro T (.ref D)).2, List.contains_cons, bM_ref, hn2]
  rfl
theorem kit_py {K : PySem.W.Frag} {C : Addr} {b : Nat} {t : String} {r : Bool} (T : ExK K C b) (hm : PySem.W.kitMeta t = true) (hc : (bM b).contains (.type t) = r) : PySem.W.kitOne K (.ref C) (.type t) = some r := by
  unfold PySem.W.kitOne
  have hn : (Value.ref C == Value.type t) = false := by
    rw [beq_eq_false_iff_ne]
    exact fun z => nomatch z
  rw [hn, if_neg Bool.false_ne_true]
  show (if PySem.W.kitMeta t = true then PySem.W.mroIn K C (.type t) else none) = some r
  have hn2 : (Value.type t == Value.ref C) = false := by
    rw [beq_eq_false_iff_ne]
    exact fun z => nomatch z
  rw [if_pos hm, (cls_mro T (.type t)).2, List.contains_cons, hc, hn2, Bool.false_or]
theorem kit_nil {K : PySem.W.Frag} {v : Value} : PySem.W.kitAny K v [] = some false := rfl
theorem kit_cons {K : PySem.W.Frag} {v c : Value} {cs : List Value} {a : Bool} (h : PySem.W.kitOne K v c = some false) (r : PySem.W.kitAny K v cs = some a) : PySem.W.kitAny K v (c :: cs) = some a :=
  kitAny_cons h (fun _ => r) (fun e => nomatch e)
theorem exm_of_sub {K : PySem.W.Frag} {C D : Addr} {r : Bool} (hD : Cl K D) (h : PySem.W.subIn K (.ref C) (.ref D) = some r) : PySem.W.exmOne K (.ref C) (.ref D) = some r := PySem.W.exm_ref hD.bas hD.hd hD.ty h
theorem exm_cons {K : PySem.W.Frag} {v c : Value} {cs : List Value} {a b : Bool} (h : PySem.W.exmOne K v c = some a) (r : PySem.W.exmAny K v cs = some b) : PySem.W.exmAny K v (c :: cs) = some (a || b) := by
  unfold PySem.W.exmAny
  rw [h, r]
end XL
namespace XL
open PySem PySem.Spec PyProof.Rows L2
/-- what 'except x as n' wishes of what the body raises; all is caught -/
def wC1 (K : PySem.W.Frag) (c : Value) (i : Nat) (ts : Addr → Value → Option Addr → TS) (D : Ends) : WX := fun cls d σ H => PySem.W.exmOne K cls c = some true ∧ ∀ a, H a = none →
  ts a cls d { nx := fun σ' H' => D.nx (σ'.set i none) (upd H' a (exk a cls d)), rt := fun v H' => D.rt v (upd H' a (exk a cls d)), bk := fun σ' H' => D.bk (σ'.set i none) (upd H' a (exk a cls d)), ct := fun σ' H' => D.ct (σ'.set i none) (upd H' a (exk a cls d)) } (σ.set i (some (.ref a))) H
section
variable {X : Cx} {n : Str} {x : Str} {c : Value} {i : Nat} {body suite : List Stmt} {b₀ : Stmt} {tp pos pos' : Pos} {tb : WX → TS} {ts : Addr → Value → Option Addr → TS}
theorem ps_try_c1 (hs : X.stack = X.env :: X.outer) (hf : X.env.frame = some X.env.locals) (hN : X.N.Nodup) (hi : X.N[i]? = some n) (hln : X.env.kindOf n = some .local) (hgl : Gl X x) (hmg : X.mg x = some c) (hex : X.ex = [])
    (hb : ∀ (W : WX) (pn : List (Addr × Obj)) (xe : Value → Shared → Prop), Takes (X.tr pn xe) W → PassesOwn (model X.prog X.w) X.A X.env xe → PSs (X.tr pn xe) body (tb W))
    (hsu : ∀ (a : Addr) (oe : Obj) (cls : Value) (d : Option Addr) (pn : List (Addr × Obj)), Zc cls d oe → (∃ vs, oe.data = .fields vs) → PSs (X.suite a ((a, oe) :: pn)) (b₀ :: suite) (ts a cls d)) (hdb : (x == ("__debug__" : Str)) = false := by decide) :
    PS X (.Try body [.ExceptHandler (some (.Name x tp)) (some n) (b₀ :: suite) pos'] [] [] pos) (fun D σ H => tb (wC1 X.K c i ts D) D σ H) := by
  refine ⟨fun pins s σ H D I h => ?_⟩
  have ok := I.ok
  have hfr : X.A.frames = some (X.env :: X.outer) := by rw [ok.frames, hs]
  have hloc : Loc X.env.scope n := .inl hln
  refine wpAny_Try_except ?_
  refine wpAny_mono ((hb (wC1 X.K c i ts D) (X.pn ++ pins) (fun e s₁ => wpAny (model X.prog X.w) X.A (noteFrame e X.env) (fun _ s₂ => wpAny (model X.prog X.w) X.A (setFlight e none) (fun _ s₃ =>
    wpAny (model X.prog X.w) X.A (handleBy e X.env [.ExceptHandler (some (.Name x tp)) (some n) (b₀ :: suite) pos']) (SP X pins D) X.xe s₃) X.xe s₂) X.xe s₁) (fun u s' xx => ?_) PassesOwn.looking).run [] s σ H D (I.toTry _) h) (fun f s1 hsp => ?_) (fun e s1 he => he)
  · obtain ⟨a, B, sI, pins', σ', H', cls, d, rfl, J', nb, up, sky, na, os, ag, hb1, hyes⟩ := xx
    have J : Inv X pins σ' H' sI := J'.ofTry ok
    have sky' : Sky B (X.env :: X.outer) a (Zc cls d) X.env.locals s'.heap := by rw [← hs]; exact sky
    have nB : B.get? a = none := by
      rcases sky with z | z | z
      · exact z.2.1
      · exact z.2.1
      · exact z.2.1
    refine Sky.land Zc.steady hfr hf sky' fun h3 fl3 up3 => ?_
    obtain ⟨oe3, vs3, he3, hz3, hd3⟩ := fl3.there
    have notFr : ∀ {h : Heap} {o : Obj} {vs : Array Value}, h.FunFrames B (X.env :: X.outer) → h.get? a = some o → o.data = .fields vs → a ∉ frs (X.env :: X.outer) := fun {h o vs} ff e dd hm => by
      obtain ⟨_, o', e', hnf⟩ := ff.mem hm
      rw [e] at e'
      cases e'
      exact hnf _ dd
    have nfr := notFr fl3.2.2.1 he3 hd3
    have nL : a ≠ X.env.locals := fun z => nfr (List.mem_filterMap.mpr ⟨X.env, List.mem_cons_self, by rw [hf, z]⟩)
    have nF : a ∉ X.fs := fun hm => by
      obtain ⟨e, he, q⟩ := List.mem_filterMap.mp hm
      exact nfr (List.mem_filterMap.mpr ⟨e, List.mem_cons_of_mem _ he, q⟩)
    have nI : sI.heap.get? a = none := by
      cases q : sI.heap.get? a with
      | none => rfl
      | some o =>
        have := nb a o q (by rw [hs]; exact nfr)
        rw [nB] at this; cases this
    have n0 : X.s_0.heap.get? a = none := by
      cases q : X.s_0.heap.get? a with
      | none => rfl
      | some o =>
        obtain ⟨o', e⟩ := J.base.there a o q (by rw [hex]; simp)
        rw [nI] at e; cases e
    have np : ∀ p ∈ X.pn ++ pins, p.1 ≠ a := fun p hp z => by
      obtain ⟨e, _⟩ := J.pin p hp
      rw [z, nI] at e; cases e
    have J3 : Inv X pins σ' H' { s' with heap := h3 } := J.landed nb fl3.1 (up.trans up3) os ag
    have S3 := J3.suite he3 hd3 na nL nF
    refine wpAny_handleBy_cons (codeAny_handlers_test ?_) (by intro q; cases q)
    refine ld_glob (X := X.suite a ((a, oe3) :: (X.pn ++ pins))) S3 hgl hmg ?_ hdb
    have LT : PySem.W.Looks (model X.prog X.w) h3 (typeOf (.ref a)) cls := fun A Q E s k q => wpAny_typeOf_ref (k _ _ he3) (by rw [hz3.1]; exact q)
    refine (PySem.W.exm_one J3.kIn LT hb1).here ?_
    refine codeAny_handlers_suite_as ?_
    refine HandSPX.lands_againZ fl3 fun h4 fl4 up4 => ?_
    have J4 : Inv X pins σ' H' { s' with heap := h4 } := J.landed nb fl4.1 ((up.trans up3).trans up4) os ag
    obtain ⟨oe4, vs4, he4, hz4, hd4⟩ := fl4.there
    have S4 := J4.suite he4 hd4 na nL nF
    refine store_ok (X := X.suite a ((a, oe4) :: (X.pn ++ pins))) (v := .ref a) S4 hN hi hloc rfl (fun s5 S5 => ?_) (.inr hln)
    refine wpAny_mono ((hsu a oe4 cls d (X.pn ++ pins) hz4 ⟨_, hd4⟩).run [] s5 _ H' _ S5 (hyes a na)) (fun f s6 hsp => ?_) (fun _ _ z => False.elim z)
    have fin : ∀ {σ6 : L2.St} {H6 : Hp} {Q : Shared → Prop}, Inv (X.suite a ((a, oe4) :: (X.pn ++ pins))) [] σ6 H6 s6 → (∀ s7, Inv X pins (σ6.set i none) (upd H6 a (exk a cls d)) s7 → Q s7) →
        wpAny (model X.prog X.w) X.A (do bindName X.env n .none; unbindBehindTheSuite X.env n pos') (fun _ s7 => Q s7) X.xe s6 := fun {σ6 H6 Q} S6 hq =>
      gone_ok (X := X.suite a ((a, oe4) :: (X.pn ++ pins))) S6 hN hi hln fun s7 S7 => hq s7 (Inv.caught S7 ok n0 np hz4 hd4)
    cases f with
    | next =>
      obtain ⟨σ6, H6, S6, q6⟩ := hsp
      exact fin S6 fun s7 J7 => ⟨_, _, J7, q6⟩
    | brk =>
      obtain ⟨σ6, H6, S6, q6⟩ := hsp
      exact fin S6 fun s7 J7 => ⟨_, _, J7, q6⟩
    | cont =>
      obtain ⟨σ6, H6, S6, q6⟩ := hsp
      exact fin S6 fun s7 J7 => ⟨_, _, J7, q6⟩
    | ret u =>
      obtain ⟨v6, σ6, H6, S6, r6, q6⟩ := hsp
      exact fin S6 fun s7 J7 => ⟨_, _, _, J7, r6, q6⟩
  · cases f with
    | next =>
      obtain ⟨σ', H', J', q⟩ := hsp
      exact wpAny_execs_nil ⟨σ', H', J'.ofTry ok, q⟩
    | brk =>
      obtain ⟨σ', H', J', q⟩ := hsp
      exact ⟨σ', H', J'.ofTry ok, q⟩
    | cont =>
      obtain ⟨σ', H', J', q⟩ := hsp
      exact ⟨σ', H', J'.ofTry ok, q⟩
    | ret u =>
      obtain ⟨v, σ', H', J', r, q⟩ := hsp
      exact ⟨v, σ', H', J'.ofTry ok, r, q⟩
end
end XL
namespace XL
open PySem PySem.Spec PyProof.Rows L2
abbrev sRn : Stmt := topS 17
abbrev sIR : Stmt := inClass (topS 7) 0
/-- a row read: its word, so many numbers -/
def wordsOf (line : Option (List Nat)) : List (List Nat) := match line with
  | none => []
  | some l => TL.spl [32] 0 [] l
def rowIn (line : Option (List Nat)) (w : List Nat) (many : Nat) : Option (List Nat) :=
  if (wordsOf line).take 1 = [w] ∧ ((wordsOf line).drop 1).length = many then numsIn ((wordsOf line).drop 1) else none
theorem dec_int' (m n : Nat) : decide (V.int (m : Nat) = V.int (n : Nat)) = decide (m = n) := by
  by_cases h : m = n
  · rw [decide_eq_true h, h]; exact decide_eq_true rfl
  · rw [decide_eq_false h]; exact decide_eq_false fun z => h (by injection z with z; exact Int.ofNat.inj z)
theorem cut_from1 (xs : List V) : cutV xs (some 1) none = xs.drop 1 := by
  unfold cutV
  have e1 : HT.sIx xs.length 0 (some 1) = min 1 xs.length := HT.sIx_nat _ _ 1
  have e2 : HT.sIx xs.length xs.length none = xs.length := rfl
  rw [e1, e2]
  cases xs with
  | nil => rfl
  | cons x xs => rw [List.length_cons, Nat.min_eq_left (by omega), List.take_of_length_le (by simp)]
theorem cut_to1 (xs : List V) : cutV xs none (some 1) = xs.take 1 := by
  unfold cutV
  have e1 : HT.sIx xs.length xs.length (some 1) = min 1 xs.length := HT.sIx_nat _ _ 1
  have e2 : HT.sIx xs.length 0 none = 0 := rfl
  rw [e1, e2, List.drop_zero, Nat.sub_zero]
  cases xs with
  | nil => rfl
  | cons x xs => rw [List.length_cons, Nat.min_eq_left (by omega)]
theorem strs_dp {K : PySem.W.Frag} {H : Hp} : ∀ ys : List Str, DpAll K H (ys.map V.str) (ys.map PyData.str)
  | [] => .nil
  | y :: ys => .cons (.str y) (strs_dp ys)
/-- plain signs only -/
def Asc (x : Str) : Prop := ∀ c ∈ TL.tl x, c < 128
theorem asc_ok {x : Str} (h : Asc x) : PyData.canLay0 (.str x) = true := by
  show x.cps.all (fun c => decide (c < 0x110000)) = true
  rw [← Array.all_toList, List.all_eq_true]
  intro c hc
  have := h c hc
  exact decide_eq_true (by omega)
theorem spl_sub (S : List Nat) : ∀ (l : List Nat) (k : Nat) (acc : List Nat), ∀ p ∈ TL.spl S k acc l, ∀ c ∈ p, c ∈ acc ∨ c ∈ l
  | [], k, acc, p, hp, c, hc => by
    rw [TL.spl_nil] at hp
    obtain rfl := List.mem_singleton.mp hp
    exact .inl hc
  | a :: l, k + 1, acc, p, hp, c, hc => by
    rw [TL.spl_pass, List.drop_succ_cons] at hp
    rw [← TL.spl_pass] at hp
    rcases spl_sub S l k acc p hp c hc with h | h
    · exact .inl h
    · exact .inr (List.mem_cons_of_mem _ h)
  | a :: l, 0, acc, p, hp, c, hc => by
    cases h : TL.pre S (a :: l) with
    | true =>
      rw [TL.spl_hit h] at hp
      rcases List.mem_cons.mp hp with rfl | hp
      · exact .inl hc
      · rcases spl_sub S l _ [] p hp c hc with h | h
        · cases h
        · exact .inr (List.mem_cons_of_mem _ h)
    | false =>
      rw [TL.spl_miss h] at hp
      rcases spl_sub S l 0 _ p hp c hc with h | h
      · rcases List.mem_append.mp h with h | h
        · exact .inl h
        · exact .inr (by rw [List.mem_singleton.mp h]; exact List.mem_cons_self ..)
      · exact .inr (List.mem_cons_of_mem _ h)
theorem strs_lay : ∀ ys : List Str, (∀ y ∈ ys, Asc y) → PyData.canLayAll0 (ys.map PyData.str) = true
  | [], _ => rfl
  | y :: ys, h => by
    show (PyData.canLay0 (.str y) && PyData.canLayAll0 (ys.map PyData.str)) = true
    rw [strs_lay ys fun z hz => h z (List.mem_cons_of_mem _ hz), asc_ok (h y (List.mem_cons_self ..))]; rfl
theorem strs_deep : ∀ ys : List Str, PyData.depthAll (ys.map PyData.str) = 0
  | [] => rfl
  | y :: ys => by show max (PyData.depth (.str y)) (PyData.depthAll (ys.map PyData.str)) = 0; rw [strs_deep ys]; rfl
theorem strs_shaped {ys : List Str} (h : ∀ y ∈ ys, Asc y) : SeqAt.shaped (.list (ys.map PyData.str)) = true := by
  show (PyData.canLay0 (.list (ys.map PyData.str)) && decide (PyData.depth (.list (ys.map PyData.str)) ≤ 64)) = true
  rw [Bool.and_eq_true]
  refine ⟨by simp only [PyData.canLay0]; exact strs_lay ys h, decide_eq_true ?_⟩
  simp only [PyData.depth, strs_deep]; omega
theorem split_sp (x : Str) : (Txt.split x (Str.ofString " ")).map TL.tl = TL.spl [32] 0 [] (TL.tl x) := by
  have e : TL.tl (Str.ofString " ") = [32] := by decide +kernel
  have := TL.split_spl x (Str.ofString " ") (by rw [e]; simp) (TL.kind_ok (by decide +kernel))
  rw [e] at this
  exact this
theorem strs_eqv : ∀ xs ys : List Str, PyData.eqvAll (xs.map PyData.str) (ys.map PyData.str) = decide (xs.map TL.tl = ys.map TL.tl)
  | [], [] => by simp [PyData.eqvAll]
  | [], y :: ys => by simp [PyData.eqvAll]
  | x :: xs, [] => by simp [PyData.eqvAll]
  | x :: xs, y :: ys => by
    rw [List.map_cons, List.map_cons, PySem.W.eqv_all_cons, strs_eqv xs ys]
    have e : PyData.eqv (.str x) (.str y) = decide (TL.tl x = TL.tl y) := by
      show (x == y) = _
      by_cases h : TL.tl x = TL.tl y
      · rw [decide_eq_true h, beq_iff_eq]; exact TL.ext_tl h
      · rw [decide_eq_false h, beq_eq_false_iff_ne]; exact fun z => h (by rw [z])
    rw [e]
    by_cases h1 : TL.tl x = TL.tl y <;> by_cases h2 : xs.map TL.tl = ys.map TL.tl <;> simp [h1, h2]
section
variable {P : Program} {w : World} {K : PySem.W.Frag} {mg : Str → Option Value} {base : Heap}
theorem scIR : FnScope ["self", "at"] ["self", "at"] (defScope sIR) := ⟨rfl, rfl, rfl, by decide +kernel, rfl, by decide +kernel, by decide +kernel⟩
theorem ok_IR {f c : Addr} {fd : FuncData} (F : Fun K "__init__" "BadRow.__init__" sIR f fd) (T : ExK K c 0) (no : PySem.W.findIn K (.ref c) "at" = some none) (mB : mg "ValueError" = none) : FnOk P w K mg base CX0 1 f fd ["self", "at"] (spI c "at") := by
  refine F.ok scIR (fun vs H Q E h => ?_) (fun cdv A outer s H vs Q E hr h => ?_)
  · obtain ⟨a, y, rfl, _⟩ := h
    rfl
  obtain ⟨a, y, rfl, ea, q⟩ := h
  refine ⟨_, pss_cons (ps_expr (pe_binit (B := "ValueError") (newId := bW 0) (initId := "ValueError.__init__") (bm := bM 0) rfl mB boot_ValueError tyf_ValueError fnd_ValueError (pa_cons (pv 0) (pa_cons pe_str pa_nil)) (by decide) (by decide) stb_ValueError hnd_ValueError))
    (pss_one (ps_os1 (B := "ValueError") (newId := bW 0) (initId := "ValueError.__init__") (bm := bM 0) (pv 0) (pv 1))), ?_⟩
  refine ⟨_, rfl, a, c, _, rfl, (by show 1 ≤ 1000; decide), T, ea, ?_⟩
  exact ⟨_, rfl, _, rfl, a, c, rfl, T, no, ea, fun dx n ne => q dx n ne⟩
/-- a def that may raise, and how it is called -/
structure FnX (P : Program) (w : World) (K : PySem.W.Frag) (mg : Str → Option Value) (base : Heap) (n : Nat) (name : Str) (ps : List Str) (sp : Sp) (f : Addr) (fd : FuncData) : Prop where
  ok : FnOk P w K mg base (L2.CX P w) n f fd ps sp
  g : mg name = some (.ref f)
  k : PySem.W.keepIn K (.ref f) = true
  b : Binds K fd ps []
abbrev nRn : List Str := ["rows", "at", "word", "many", "words", "numbers", "each"]
theorem scRn : FnScope nRn ["rows", "at", "word", "many"] (defScope sRn) := ⟨rfl, rfl, rfl, by decide +kernel, rfl, by decide +kernel, by decide +kernel⟩
def spRn (K : PySem.W.Frag) (CR : Addr) : Sp := fun vs H Q E => ∃ (a : Addr) (ys : List Str) (at_ many : Nat) (word : Str), vs = [.ref a, .int (at_ : Nat), .str word, .int (many : Nat)] ∧ SqL K H a (ys.map V.str) ∧ (∀ y ∈ ys, y.length ≤ 100000 ∧ Asc y) ∧ ys.length ≤ 100000 ∧ Asc word ∧
  (∀ (dd : Addr) (H' : Hp), rowIn ((ys[at_]?).map TL.tl) (TL.tl word) many = none → Same H H' → H' dd = some (.xd [("at", .int (at_ : Nat))]) → E (.ref CR) (some dd) H') ∧
  (∀ (ns : List Nat) (p : Addr) (H' : Hp), rowIn ((ys[at_]?).map TL.tl) (TL.tl word) many = some ns → Same H H' → H p = none → H' p = some (.tup (ns.map fun n => V.int (n : Nat))) → Q (.ref p) H')
theorem ok_rn {f fn fR CR : Addr} {fd fdn fdR : FuncData} {k : Nat} (F : Fun K "row_numbers" "row_numbers" sRn f fd) (Ni : Fns P w K mg base (k + 2) "number_in" ["word"] spNi fn fdn) (TR : Er P w K mg base "BadRow" 0 CR fR fdR ["self", "at"] (spI CR "at")) (m_len : mg "len" = none) (m_tuple : mg "tuple" = none) : FnOk P w K mg base (L2.CX P w) (k + 2 + 1) f fd ["rows", "at", "word", "many"] (spRn K CR) := by
  refine F.okX scRn (fun vs H Q E h => ?_) (fun cdv A outer s0 H vs Q E hr h => ?_)
  · obtain ⟨a, ys, at_, many, word, rfl, _⟩ := h
    rfl
  obtain ⟨a, ys, at_, many, word, rfl, ha, hy, hn, hw, qe, qs⟩ := h
  have hrB : Room (1 + 1) _ := hr.mono (by omega)
  have FR := TR.ok
  have bR := TR.bi
  refine ⟨_, (pss_cons (ps_set (i := 4) scRn.nd rfl (.inl rfl) (pe_ifExp (pt_cmpR op_lt (pv 1) (pe_callB (r := rLenA K) call_lenA rfl m_len PySem.boot_len (pa_cons (pv 0) pa_nil)) (nomark _)) (pe_split (pe_ix (r := rIxA K) ix_any (pv 0) (pv 1) (fun _ _ => rfl)) pe_str) (pe_lst pa_nil)))
    (pss_cons (ps_setLc (i := 5) (own := [("each", 6)]) (g := gName 6) (tt := tYes) rfl scRn.nd rfl rfl (sw_true rfl rfl rfl (by decide +kernel)) (pi_seq (pe_slice sl_list (pv 4) (po_some pe_int) po_none)) (blkOk_by (own := [("each", 6)]) (N := nRn) (sc := defScope sRn) (by decide +kernel)) (fun _ _ _ _ _ => (pg_name (i := 6) scRn.nd rfl (.inl rfl))) (fun _ _ _ _ _ => pts_nil) (fun _ _ _ _ _ => pe_hide (pe_fn Ni hr rfl (pa_cons (pv 6) pa_nil))))
    (pss_cons (ps_if (PW.pt (pw_or (pt_cmpR (op_neD hr.units) (pe_slice sl_list (pv 4) po_none (po_some pe_int)) (pe_lst (pa_cons (pv 2) pa_nil)) (nomark _)) (pw_or (pt_cmpR op_ne (pe_callB (r := rLenA K) call_lenA rfl m_len PySem.boot_len (pa_cons (pv 5) pa_nil)) (pv 3) (nomark _)) (pw_or1 (pt_cmpR op_in_seq pe_non (pv 5) (by rfl)))))) (pss_one (ps_raise rfl (takes_of rfl rfl rfl rfl) (pmk_ex TR.ex TR.ty TR.ini TR.tI FR hrB bR rfl TR.g (pa_cons (pv 1) pa_nil)))) pss_nil)
    (pss_one (ps_ret (pe_callTy (r := rTupA K) call_tupleA rfl m_tuple boot_tuple (pa_cons (pv 5) pa_nil))))))), ?_⟩
  have esp : ((Str.ofString " ").length == 0) = false := by decide +kernel
  dsimp only
  refine seq1 (fun σ G => ∃ (L : Addr) (ws : List Str), σ = [some (.ref a), some (.int (at_ : Nat)), some (.str word), some (.int (many : Nat)), some (.ref L), none, none] ∧ Same H G ∧ G L = some (.lst (ws.map V.str)) ∧ ws.map TL.tl = wordsOf ((ys[at_]?).map TL.tl) ∧ (∀ x ∈ ws, x.length ≤ 100000 ∧ Asc x) ∧ ws.length ≤ 100002) (fun N hN => ?_) (fun σ G h => ?_)
  · refine ⟨_, rfl, _, rfl, a, _, rfl, .inl ha, ?_⟩
    refine ⟨_, _, rfl, rfl, _, rfl, ?_⟩
    rw [List.length_map]
    by_cases hat : at_ < ys.length
    · rw [decide_eq_true (show ((at_ : Nat) : Int) < ((ys.length : Nat) : Int) by omega)]
      obtain ⟨y, ey⟩ : ∃ y, ys[at_]? = some y := ⟨_, List.getElem?_eq_getElem hat⟩
      obtain ⟨yl, yA⟩ := hy y (List.mem_of_getElem? ey)
      refine iteT ⟨_, rfl, _, rfl, a, _, _, .str y, rfl, rfl, .inl ha, atI_int (by omega) (by rw [Int.toNat_natCast, List.getElem?_map, ey]; rfl), ⟨y, rfl⟩, y, _, rfl, rfl, esp, by rw [sizeLine_eq]; omega, fun p np => ?_⟩
      refine at_g (σ' := [some (.ref a), some (.int (at_ : Nat)), some (.str word), some (.int (many : Nat)), some (.ref p), none, none]) rfl ?_
      refine hN _ _ ⟨p, _, rfl, same_new np, upd_same, by rw [split_sp, ey]; rfl, fun x hx => ?_, ?_⟩
      · refine ⟨Nat.le_trans (part_short hx) yl, fun c hc => ?_⟩
        have hm : TL.tl x ∈ TL.spl [32] 0 [] (TL.tl y) := by rw [← split_sp]; exact List.mem_map.mpr ⟨x, hx, rfl⟩
        rcases spl_sub _ _ _ _ _ hm c hc with h | h
        · cases h
        · exact yA c h
      · have := split_le y (Str.ofString " ")
        omega
    · rw [decide_eq_false (show ¬ ((at_ : Nat) : Int) < ((ys.length : Nat) : Int) by omega)]
      refine iteF ⟨(by show 0 ≤ sizeLine; decide), fun p np => ?_⟩
      refine at_g (σ' := [some (.ref a), some (.int (at_ : Nat)), some (.str word), some (.int (many : Nat)), some (.ref p), none, none]) rfl ?_
      exact hN _ _ ⟨p, [], rfl, same_new np, upd_same, by rw [List.getElem?_eq_none (by omega)]; rfl, fun x hx => by simp at hx, by simp⟩
  obtain ⟨L, ws, rfl, sG, eL, ew, hwl, hwn⟩ := h
  refine seq1 (fun σ G => ∃ (M : Addr), σ = [some (.ref a), some (.int (at_ : Nat)), some (.str word), some (.int (many : Nat)), some (.ref L), some (.ref M), none] ∧ Same H G ∧ H M = none ∧ G L = some (.lst (ws.map V.str)) ∧ G M = some (.lst (((ws.drop 1).map TL.tl).map fun w => optV (numIn w)))) (fun N hN => ?_) (fun σ G h => ?_)
  · refine ⟨_, rfl, 1, rfl, L, _, rfl, SqL.of eL, fun p np => ?_⟩
    rw [cut_from1, ← List.map_drop]
    have s1 := same_new np (o := .lst ((ws.drop 1).map V.str))
    have e1 : (upd G p (.lst ((ws.drop 1).map V.str))) p = some (.lst ((ws.drop 1).map V.str)) := upd_same
    have eL1 := s1 _ _ eL
    have sH1 := sG.trans s1
    generalize upd G p (.lst ((ws.drop 1).map V.str)) = G1 at s1 e1 eL1 sH1
    have ln : (ws.drop 1).length ≤ 100002 := by rw [List.length_drop]; omega
    refine ⟨p, _, rfl, .inl (SqL.of e1), fun J wk => lc_map wk Same (fun a b => a.trans b) (fun i z F => ∃ y, (ws.drop 1)[i]? = some y ∧ z = optV (numIn (TL.tl y))) (fun i y A B _ h => h) (by rw [List.length_map]; exact Nat.lt_of_le_of_lt ln (by rw [sizeLine_eq]; decide)) (Same.refl _) (fun F D acc sF nF => sq_keep (sF.trans (same_new nF))) (fun j z D acc F H' hj nD sF nF hy2 B hB => ?_) (fun D zs F nD sF nF hl hR => ?_)⟩
    · obtain ⟨rfl, hz⟩ := hy2
      rw [List.getElem?_map] at hz
      obtain ⟨y, h1, rfl⟩ := Option.map_eq_some_iff.mp hz
      refine hB _ F rfl nF fun Qt hq => ?_
      have yl := (hwl y (List.mem_of_mem_drop (List.mem_of_getElem? h1))).1
      exact ⟨_, rfl, nil_go ⟨y, rfl, by rw [sizeLine_eq]; omega, fun H1 s1 => hq _ _ s1 ⟨y, h1, rfl⟩⟩⟩
    · rw [List.length_map] at hl
      have ez := opt_of (F := F) hl hR
      refine at_g (σ' := [some (.ref a), some (.int (at_ : Nat)), some (.str word), some (.int (many : Nat)), some (.ref L), some (.ref D), none]) rfl ?_
      exact hN _ _ ⟨D, rfl, (sH1.trans sF).trans (same_new nF), sH1.free nD, same_new nF _ _ (sF _ _ eL1), by rw [ez]; exact upd_same⟩
  obtain ⟨M, rfl, sM, nM, eL2, eM⟩ := h
  have ed : (ws.drop 1).map TL.tl = (wordsOf ((ys[at_]?).map TL.tl)).drop 1 := by rw [List.map_drop, ew]
  have etk : (ws.take 1).map TL.tl = (wordsOf ((ys[at_]?).map TL.tl)).take 1 := by rw [List.map_take, ew]
  rw [ed] at eM
  have eml : ((wordsOf ((ys[at_]?).map TL.tl)).drop 1).length = (ws.drop 1).length := by rw [← ed, List.length_map]
  unfold rowIn at qe qs
  generalize (wordsOf ((ys[at_]?).map TL.tl)).drop 1 = ds at *
  generalize (wordsOf ((ys[at_]?).map TL.tl)).take 1 = tk at *
  have bad : ∀ G2 : Hp, Same H G2 → (if tk = [TL.tl word] ∧ ds.length = many then numsIn ds else none) = none →
      tCons (tVar 1) tNil [some (V.ref a), some (V.int (at_ : Nat)), some (V.str word), some (V.int (many : Nat)), some (V.ref L), some (V.ref M), none] G2 (fun vs H1 => vs.length ≤ 1000 ∧ ∀ (a : Addr), H1 a = none →
        spI CR (Str.ofString "at") (V.ref a :: vs) (upd H1 a (exo a CR none)) (fun v H2 => v = V.non ∧ ∃ d fs, H2 a = some (exo a CR (some d)) ∧ H2 d = some (exd d fs) ∧ H1 d = none ∧ E (Value.ref CR) (some d) (upd (del H2 a) d (HO.xd fs))) E0) := fun G2 s2 hn => by
    refine ⟨_, rfl, nil_go ⟨(by show 1 ≤ 1000; decide), fun a na => ?_⟩⟩
    refine ⟨a, .int (at_ : Nat), rfl, upd_same, fun dx nx nxa => ⟨rfl, dx, [("at", .int (at_ : Nat))], upd_same, by rw [upd_ne nxa, upd_same], by rw [upd_ne nxa] at nx; exact nx, ?_⟩⟩
    have nx' : G2 dx = none := by rw [upd_ne nxa] at nx; exact nx
    rw [del_upd' na nxa]
    exact qe dx _ hn (s2.trans (same_new nx')) upd_same
  refine ⟨_, rfl, 1, rfl, L, _, rfl, SqL.of eL2, fun p np => ?_⟩
  rw [cut_to1, ← List.map_take]
  have s1 := same_new np (o := .lst ((ws.take 1).map V.str))
  have e1 : (upd G p (.lst ((ws.take 1).map V.str))) p = some (.lst ((ws.take 1).map V.str)) := upd_same
  have eM1 := s1 _ _ eM
  have sH1 := sM.trans s1
  generalize upd G p (.lst ((ws.take 1).map V.str)) = G1 at s1 e1 eM1 sH1
  refine ⟨_, rfl, (by show 1 ≤ sizeLine; decide), fun p2 np2 => ?_⟩
  have s2 := same_new np2 (o := .lst [.str word])
  have e2 : (upd G1 p2 (.lst [.str word])) p2 = some (.lst [.str word]) := upd_same
  have e12 := s2 _ _ e1
  have eM2 := s2 _ _ eM1
  have sH2 := sH1.trans s2
  generalize upd G1 p2 (.lst [.str word]) = G2 at e2 e12 eM2 sH2
  refine ⟨.list ((ws.take 1).map PyData.str), .list ([word].map PyData.str), .lst (SqL.of e12) (strs_dp _), .lst (SqL.of e2) (.cons (.str _) .nil), strs_shaped fun y hy => (hwl y (List.mem_of_mem_take hy)).2, strs_shaped fun y hy => by rw [List.mem_singleton.mp hy]; exact hw, _, rfl, ?_⟩
  have ev : PyData.eqv (.list ((ws.take 1).map PyData.str)) (.list ([word].map PyData.str)) = decide (tk = [TL.tl word]) := by
    rw [← etk]
    have := strs_eqv (ws.take 1) [word]
    simpa [PyData.eqv] using this
  rw [ev]
  by_cases h1 : tk = [TL.tl word]
  · rw [decide_eq_true h1]
    refine iteF ⟨_, rfl, nil_go ⟨M, _, rfl, .inl (SqL.of eM2), _, rfl, rfl, _, rfl, ?_⟩⟩
    rw [List.length_map, dec_int']
    by_cases h2 : ds.length = many
    · rw [decide_eq_true h2]
      refine iteF ⟨_, rfl, M, _, rfl, .inl (SqL.of eM2), rfl, flat_opt _, _, rfl, ?_⟩
      show (if inV .non _ = true then _ else _)
      rw [in_non]
      rw [if_pos ⟨h1, h2⟩] at qe qs bad
      cases e : numsIn ds with
      | none => exact iteT (bad G2 sH2 e)
      | some ns =>
        refine iteF ⟨_, rfl, nil_go ⟨M, _, rfl, .inl ⟨SqL.of eM2, fun l nl => ?_⟩⟩⟩
        exact qs ns l _ e (sH2.trans (same_new nl)) (sH2.free nl) (by rw [nums_some e]; exact upd_same)
    · rw [decide_eq_false h2]
      exact iteT (iteT (bad G2 sH2 (if_neg fun z => h2 z.2)))
  · rw [decide_eq_false h1]
    exact iteT (iteT (bad G2 sH2 (if_neg fun z => h1 z.1)))
end
end XL
namespace XL
open PySem PySem.Spec PyProof.Rows L2
theorem split_nl (x : Str) : (Txt.split x (Str.ofString "\n")).map TL.tl = TL.spl [10] 0 [] (TL.tl x) := by
  have e : TL.tl (Str.ofString "\n") = [10] := by decide +kernel
  have := TL.split_spl x (Str.ofString "\n") (by rw [e]; simp) (TL.kind_ok (by decide +kernel))
  rw [e] at this
  exact this
theorem lines_ok {x : Str} (hx : x.length ≤ 90000) (hA : Asc x) : (∀ y ∈ Txt.split x (Str.ofString "\n"), y.length ≤ 100000 ∧ Asc y) ∧ (Txt.split x (Str.ofString "\n")).length ≤ 100000 := by
  refine ⟨fun y hy => ⟨Nat.le_trans (part_short hy) (by omega), fun c hc => ?_⟩, Nat.le_trans (split_le x _) (by omega)⟩
  have hm : TL.tl y ∈ TL.spl [10] 0 [] (TL.tl x) := by rw [← split_nl]; exact List.mem_map.mpr ⟨y, hy, rfl⟩
  rcases spl_sub _ _ _ _ _ hm c hc with h | h
  · cases h
  · exact hA c h
end XL
namespace XL
open PySem PySem.Spec PyProof.Rows L2 LamX
/-! ### a law's call where lambdas are made (tables of code grow) and reprs are asked -/
/-- what is tracked at first: the tables, and the script unless it is written -/
structure First (K : PySem.W.Frag) (H : Hp) (tb : List Addr) (a : Addr) (u : HO) : Prop where
  t : ∀ b ∈ tb, H b = some (.tbl #[])
  o : ∀ b v, H b = some v → (b ∈ tb ∧ v = .tbl #[]) ∨ (b = a ∧ v = u ∧ K.lookup a = none)
theorem law_callTG {P : Program} {w : World} {K : PySem.W.Frag} {mg mb : Str → Option Value} {k : Nat} {fa a : Addr} {cs : List (Addr × Addr)} {fd : FuncData} {x : Str} {sp : Sp} {s₁ : Shared} {vs : List Value} {ns : List Int}
    (KX : K.In s₁.heap) (hns : s₁.heap.Ns mainGlobals mg) (hb : s₁.heap.Ns builtinsNs mb) (hbb : ∀ x : Str, x ≠ "__name__" → mb x = bootBuiltins x) (hlim : s₁.heap.NoLimit) (hg : s₁.gens = #[])
    (bmain : ∃ bm ob, mg "__builtins__" = some (.ref bm) ∧ bm ≠ builtinsNs ∧ s₁.heap.get? bm = some ob ∧ ob.cls = .type "module" ∧ ob.dict = some builtinsNs ∧ ob.data = .plain)
    (hT : ∀ p ∈ cs, PySem.W.CodeHd s₁.heap p.1 p.2 ∧ s₁.heap.get? p.2 = some (PySem.W.tabObj #[])) (nT : ∀ p ∈ cs, K.lookup p.2 = none)
    (ha : s₁.heap.get? a = some { cls := .type "list", data := .seq vs.toArray }) (hi : IntsAre vs ns) (hl : ns.length ≤ sizeLine) (hr : Room k callerA)
    (F : ∀ base : Heap, K.In base → base.Ns mainGlobals mg → (∀ p ∈ cs, TabB base mg p.1 p.2) → FnG P w K mg base k fa fd [x] sp) (hbind : ∀ (s : Shared) (u : Value), BindsTo s fd ⟨[u], []⟩ [(x, u)])
    (hsp : ∀ H : Hp, (∀ p ∈ cs, H p.2 = some (.tbl #[])) → SqL K H a (ns.map V.int) → sp [.ref a] H (fun v _ => v = .bl true) fun _ _ _ => False) :
    codeAny (model P w) callerA (.call (.ref fa) ⟨[.ref a], []⟩) (fun r s' => r = .ok (.ret (.bool true)) ∧ OldK s₁.heap s'.heap ∧ s'.os = s₁.os ∧ AllBare s'.gens) s₁ := by
  have rv := vals_ints hi
  have lenV := hi.length
  obtain ⟨u, hu⟩ : ∃ u : HO, u = .frz { cls := .type "list", data := .seq vs.toArray } (.lst (ns.map V.int)) := ⟨_, rfl⟩
  obtain ⟨tb, htb⟩ : ∃ tb, tb = cs.map (·.2) := ⟨_, rfl⟩
  have tab : ∀ b ∈ tb, s₁.heap.get? b = some (PySem.W.tabObj #[]) := fun b h => by
    rw [htb] at h
    obtain ⟨p, hp, rfl⟩ := List.mem_map.mp h
    exact (hT p hp).2
  have noK : ∀ b ∈ tb, K.lookup b = none := fun b h => by
    rw [htb] at h
    obtain ⟨p, hp, rfl⟩ := List.mem_map.mp h
    exact nT p hp
  have into : ∀ p ∈ cs, p.2 ∈ tb := fun p hp => by rw [htb]; exact List.mem_map.mpr ⟨p, hp, rfl⟩
  have naT : a ∉ tb := fun h => by
    have e := tab a h
    rw [ha] at e
    have := congrArg Obj.data (Option.some.inj e)
    exact absurd this (by simp [PySem.W.tabObj])
  have core : ∀ H : Hp, First K H tb a u → SqL K H a (ns.map V.int) → codeAny (model P w) callerA (.call (.ref fa) ⟨[.ref a], []⟩)
      (fun r s' => r = .ok (.ret (.bool true)) ∧ OldK s₁.heap s'.heap ∧ s'.os = s₁.os ∧ AllBare s'.gens) s₁ := by
    intro H I hS
    have hok : HOk P w H s₁.heap := fun b v e => by
      rcases I.o b v e with ⟨h1, rfl⟩ | ⟨rfl, rfl, _⟩
      · exact tab b h1
      · rw [hu]; exact ⟨ha, by rw [List.length_map]; exact hl, vs, _, rv, ha⟩
    have plain : ∀ {b : Addr} {o : Obj}, s₁.heap.get? b = some o → (∀ vs n, o.data ≠ .seq vs n) → o.data ≠ .fields #[] → H b = none := by
      intro b o e n1 n2
      cases q : H b with
      | none => rfl
      | some v =>
        rcases I.o b v q with ⟨h1, _⟩ | ⟨rfl, _⟩
        · rw [tab b h1] at e; cases e; exact absurd rfl n2
        · rw [ha] at e; cases e; exact absurd rfl (n1 _ _)
    have nsK : ∀ {b : Addr} {m : Str → Option Value}, s₁.heap.Ns b m → (hidT s₁.heap H).Ns b m := by
      intro b m hm
      obtain ⟨o, es, ep, e, d, r⟩ := hm
      exact ⟨o, es, ep, hidT_get e (plain e (by rw [d]; intro _ _ z; cases z) (by rw [d]; intro z; cases z)), d, r⟩
    have hKb : K.In (hidT s₁.heap H) := by
      intro b o e
      refine hidT_get (KX b o e) ?_
      cases q : H b with
      | none => rfl
      | some v =>
        rcases I.o b v q with ⟨h1, _⟩ | ⟨rfl, _, h2⟩
        · rw [noK b h1] at e; cases e
        · rw [h2] at e; cases e
    have hM : Mod K mg (hidT s₁.heap H) := by
      obtain ⟨mc, c1, c2⟩ := hlim
      exact ⟨hKb, nsK hns, ⟨mb, nsK hb, hbb⟩, ⟨mc, nsK c1, c2⟩⟩
    have TB : ∀ p ∈ cs, TabB (hidT s₁.heap H) mg p.1 p.2 := fun p hp => by
      obtain ⟨C, eT⟩ := hT p hp
      have gne : mainGlobals ≠ p.2 := fun z => by
        obtain ⟨o, es, ep, e, d, _⟩ := hns
        rw [z, eT] at e; cases e; cases d
      refine ⟨?_, ?_, gne⟩
      · obtain ⟨o, us, file, tf, flags, tg, inF, text, tt, e1, r1, r2, r3, r⟩ := C
        refine ⟨o, us, file, tf, flags, tg, inF, text, tt, hidT_get e1 (plain e1 (by rw [r2]; intro _ _ z; cases z) (by rw [r2]; intro z; cases z; simp at r3)), r1, r2, r3, r⟩
      · obtain ⟨bm, ob, b1, b2, b3, b4, b5, b6⟩ := bmain
        refine ⟨bm, ob, b1, b2, fun z => ?_, fun z => ?_, hidT_get b3 (plain b3 (by rw [b6]; intro _ _ z; cases z) (by rw [b6]; intro z; cases z)), b4, b5, b6⟩
        · obtain ⟨o, es, ep, e, d, _⟩ := hns
          rw [z, e] at b3; cases b3; rw [d] at b6; cases b6
        · rw [z, eT] at b3; cases b3; cases b6
    have e0 : Env0 P w K mg (hidT s₁.heap H) callerA [] s₁ H := by
      refine ⟨rfl, hM, fun b o e => of_hidT e, Nat.le_of_eq (hidT_size _ _), trivial, fun b hb => ?_, hok, .of_eq hg⟩
      exact absurd (show b ∈ ([] : List Addr) from hb) (by simp)
    refine codeAny_mono ((F _ hKb (nsK hns) TB).run callerA [] s₁ H ⟨[.ref a], []⟩ [.ref a] [.ref a] _ _ rfl hr e0 (hbind s₁ (.ref a)) (.cons rfl .nil) (hsp H (fun p hp => I.t _ (into p hp)) hS)) fun r s' h => ?_
    cases r with
    | error e => exact False.elim h
    | ok fl =>
      cases fl with
      | next => exact False.elim h
      | brk => exact False.elim h
      | cont => exact False.elim h
      | ret v' =>
        obtain ⟨v, H', os, bare, un, hok', r', q⟩ := h
        have q' : v = .bl true := q
        subst q'
        obtain rfl : v' = Value.bool true := r'
        have stay : ∀ b o, b ∉ tb → s₁.heap.get? b = some o → s'.heap.get? b = some o := fun b o nb e => by
          cases q : H b with
          | none => exact un.keep b o e q (by intro z; exact absurd (show b ∈ ([] : List Addr) from z) (by simp)) (by simp)
          | some z =>
            rcases I.o b z q with ⟨h1, _⟩ | ⟨_, rfl, _⟩
            · exact absurd h1 nb
            · rw [hu] at q
              have z2 := un.frzs b _ _ q
              obtain ⟨e1, _⟩ := hok b _ q
              obtain ⟨e2, _⟩ := hok' b _ z2
              rw [e] at e1; cases e1; exact e2
        have grow : ∀ b ∈ tb, ∃ more : Array Value, s'.heap.get? b = some (PySem.W.tabObj more) := fun b hb => by
          obtain ⟨more, z⟩ := un.tbls b #[] (I.t b hb)
          exact ⟨_, hok' b _ z⟩
        refine ⟨rfl, ⟨fun b o e => ?_, fun b o e => ?_⟩, os, bare⟩
        · by_cases hb : b ∈ tb
          · obtain ⟨more, hm⟩ := grow b hb
            rw [tab b hb] at e
            obtain rfl := Option.some.inj e
            rw [htb] at hb
            obtain ⟨p, hp, rfl⟩ := List.mem_map.mp hb
            exact .inr (.inl ⟨((hT p hp).1.tab (hT p hp).2).isCodeTable, rfl, #[], more, rfl, by rw [Array.empty_append]; exact hm⟩)
          · exact .inl (stay b o hb e)
        · by_cases hb : b ∈ tb
          · obtain ⟨more, hm⟩ := grow b hb
            exact ⟨_, hm⟩
          · exact ⟨o, stay b o hb e⟩
  cases hk : K.lookup a with
  | some o =>
    have e := KX a o hk
    rw [ha] at e; cases e
    refine core (fun b => if b ∈ tb then some (.tbl #[]) else none) ⟨fun b hb => if_pos hb, fun b v e => ?_⟩ (.inr ⟨_, vs.toArray, _, hk, rfl, rfl, rfl, by rw [List.size_toArray, lenV]; exact hl, by simpa using rv⟩)
    by_cases hb : b ∈ tb
    · rw [if_pos hb] at e
      exact .inl ⟨hb, (Option.some.inj e).symm⟩
    · rw [if_neg hb] at e; cases e
  | none =>
    refine core (fun b => if b = a then some u else if b ∈ tb then some (.tbl #[]) else none) ⟨fun b hb => ?_, fun b v e => ?_⟩ (.inl (.inr ⟨_, (by show (if a = a then some u else _) = _; rw [if_pos rfl, hu])⟩))
    · rw [if_neg (fun z => naT (by rw [← z]; exact hb)), if_pos hb]
    · by_cases q : b = a
      · rw [if_pos q] at e
        exact .inr ⟨q, (Option.some.inj e).symm, hk⟩
      · rw [if_neg q] at e
        by_cases hb : b ∈ tb
        · rw [if_pos hb] at e
          exact .inl ⟨hb, (Option.some.inj e).symm⟩
        · rw [if_neg hb] at e; cases e
/-- the same by what a walk tells: sp may speak of the tables -/
def LawT (P : Program) (w : World) (K : PySem.W.Frag) (k n : Nat) (x : Str) (mg : Str → Option Value) (fa : Addr) (h : Heap) : Prop :=
  ∃ (fd : FuncData) (cs : List (Addr × Addr)) (sp : Sp), (∀ p ∈ cs, PySem.W.CodeHd h p.1 p.2 ∧ h.get? p.2 = some (PySem.W.tabObj #[])) ∧ (∀ p ∈ cs, K.lookup p.2 = none) ∧ (∀ (s : Shared) (u : Value), BindsTo s fd ⟨[u], []⟩ [(x, u)]) ∧
    (∀ (H : Hp) (a : Addr) (ns : List Int), ns.length ≤ n → (∀ p ∈ cs, H p.2 = some (.tbl #[])) → SqL K H a (ns.map V.int) → sp [.ref a] H (fun v _ => v = .bl true) fun _ _ _ => False) ∧
    ∀ base : Heap, K.In base → base.Ns mainGlobals mg → (∀ p ∈ cs, TabB base mg p.1 p.2) → FnG P w K mg base k fa fd [x] sp
theorem walkTG {l : PySem.W.OpenLaw} {n k : Nat} {q : Program} {loose : List Str} {XP : (Str → Option Value) → Heap → Prop} {YP : World → Heap → Prop} {d : DefRec} {K : Params → PySem.W.Frag} {x : Str}
    (hn : l.most = some n) (hn2 : n ≤ sizeLine) (hdf : d.params.defaults = []) (hr : Room k callerA) (hY : ∀ (w : World) (h : Heap), YP w h → (K w.params).In h)
    (F : ∀ (w : World) (mean : ExcName → Option Value) (mg mb : Str → Option Value) (fa : Addr) (h : Heap), (K w.params).In h → Top q (PySem.W.looseW q loose) mean mg mb h → mg d.name = some (.ref fa) → LawT l.prog w (K w.params) k n x mg fa h) :
    PySem.W.WalkO q loose XP YP l.row.toRowW d [] (fun f vs => PySem.call f vs) := by
  refine Att.attach_call hn hdf fun w s₀ s₁ mg mb fa o pm cd doc a vs ns G Y ho hd hcd hmg hobj hints hlen hg => ?_
  have KX := hY w _ Y
  obtain ⟨fd, cs, sp, h1, h2, hb, hsp, hF⟩ := F w _ mg mb fa _ KX G.T hmg
  exact law_callTG KX G.T.g G.T.b G.T.builtins G.T.nolimit hg G.T.bmain h1 h2 hobj hints (Nat.le_trans hlen hn2) hr hF hb fun H hT hS => hsp H a ns hlen hT hS
end XL
namespace XL
open PySem PySem.Spec PyProof.Rows L2 LamX
section
variable {X : Cx} {pins : List (Addr × Obj)} {σ : L2.St} {H : Hp} {s : Shared} {W : WX}
/-- of the names nothing is said any more -/
theorem Inv.blank {n : Nat} (hn : X.N.length = n) (I : Inv X pins σ H s) : Inv X pins (List.replicate n none) H s := by
  obtain ⟨ok, os, bare, base, ⟨m, hm, _⟩, cell, free, freeC, pin, hok, len⟩ := I
  refine ⟨ok, os, bare, base, ⟨m, hm, fun i x v _ e _ => ?_⟩, cell, free, freeC, pin, hok, by rw [List.length_replicate, hn]⟩
  rw [List.getElem?_replicate] at e
  split at e
  · cases e
  · cases e
theorem Takes.blank {n : Nat} (t : Takes X W) (hn : X.N.length = n) : Takes X (fun cls d _ H => W cls d (List.replicate n none) H) := fun u s' ⟨a, B, sI, pins, σ, H, cls, d, e, I, nb, up, sky, na, os, ag, hw⟩ =>
  t u s' ⟨a, B, sI, pins, _, H, cls, d, e, Inv.blank hn I, nb, up, sky, na, os, ag, hw⟩
/-- what is asked of the answer may be less -/
theorem PE.less {e : Expr} {t : TE} (h : PE X e t) : PE X e (fun σ H Q => ∃ Q0 : VK, (∀ v H', Q0 v H' → Q v H') ∧ t σ H Q0) := ⟨fun pins s σ H Q I ⟨Q0, m, q⟩ => thn (h.run pins s σ H Q0 I q) fun _ _ ⟨v, H', I', r, z⟩ => ⟨v, H', I', r, m v H' z⟩⟩
theorem PE.some {α : Sort _} {e : Expr} {t : α → TE} (h : ∀ a, PE X e (t a)) : PE X e (fun σ H Q => ∃ a, t a σ H Q) := ⟨fun pins s σ H Q I ⟨a, q⟩ => (h a).run pins s σ H Q I q⟩
theorem PE.if {p : Prop} {e : Expr} {t : TE} (h : p → PE X e t) : PE X e (fun σ H Q => p ∧ t σ H Q) := ⟨fun pins s σ H Q I ⟨a, q⟩ => (h a).run pins s σ H Q I q⟩
end
/-! ### heaps where the box is drawn from and the tables grow -/
theorem codeO_lst {c : Addr} {q : Str} (xs : List V) : CodeO c q ≠ .lst xs := fun z => by
  unfold CodeO at z
  cases z
end XL
namespace XL
open PySem PySem.Spec PySem.Calls PyProof.Rows PyProof.V L2 PySem.W
set_option maxHeartbeats 2000000 in
/-- five classes in an except -/
theorem ext5 (c1 c2 c3 c4 c5 : Value) : ExTup [c1, c2, c3, c4, c5] := by
  intro M K h cls tp e b X LT hp hx A Q E s k0 q
  obtain ⟨hh, g, dr, tk, os⟩ := s
  have up : ∀ a o, h.get? a = some o → hh.get? a = some o := k0
  have T1 : Looks M h (isInstance (.ref tp) (.type "tuple")) true :=
    ((Looks.ld hp).andThen .now).andThen (Looks.of_pure isSubtype_tuple_tuple)
  have T0 := T1.keeps up
  obtain ⟨b1, d1, x1, hx, z1⟩ := exmAny_cons hx
  obtain ⟨b2, d2, x2, hx, z2⟩ := exmAny_cons hx
  obtain ⟨b3, d3, x3, hx, z3⟩ := exmAny_cons hx
  obtain ⟨b4, d4, x4, hx, z4⟩ := exmAny_cons hx
  obtain ⟨b5, d5, x5, hx, z5⟩ := exmAny_cons hx
  have e1 := (exm_cls (M := M) X x1).1.keeps up
  have S1 := (exm_cls (M := M) X x1).2.keeps up
  have e2 := (exm_cls (M := M) X x2).1.keeps up
  have S2 := (exm_cls (M := M) X x2).2.keeps up
  have e3 := (exm_cls (M := M) X x3).1.keeps up
  have S3 := (exm_cls (M := M) X x3).2.keeps up
  have e4 := (exm_cls (M := M) X x4).1.keeps up
  have S4 := (exm_cls (M := M) X x4).2.keeps up
  have e5 := (exm_cls (M := M) X x5).1.keeps up
  have S5 := (exm_cls (M := M) X x5).2.keeps up
  cases (show some false = some d5 from hx)
  have LT := LT.keeps up
  have hq := up _ _ hp
  subst z1 z2 z3 z4 z5
  unfold excMatches
  refine wpAny_bind (T0.at ?_)
  dsimp only
  rw [if_pos rfl]
  first
    | refine wpAny_bind (wpAny_seqItems hq rfl ?_)
    | refine wpAny_bind (wpAny_bind (wpAny_seqItems hq rfl (wpAny_pure ?_)))
  dsimp only [Option.getD_some, Option.getD]
  cases b1
  · (repeat (first | simp only [List.forIn_cons, List.forIn_nil, Bool.not_true, Bool.false_eq_true, if_false, if_true] | lk)); cases b2
    · (repeat (first | simp only [List.forIn_cons, List.forIn_nil, Bool.not_true, Bool.false_eq_true, if_false, if_true] | lk)); cases b3
      · (repeat (first | simp only [List.forIn_cons, List.forIn_nil, Bool.not_true, Bool.false_eq_true, if_false, if_true] | lk)); cases b4
        · (repeat (first | simp only [List.forIn_cons, List.forIn_nil, Bool.not_true, Bool.false_eq_true, if_false, if_true] | lk)); cases b5 <;> ((repeat (first | simp only [List.forIn_cons, List.forIn_nil, Bool.not_true, Bool.false_eq_true, if_false, if_true] | lk)); exact q)
        · (repeat (first | simp only [List.forIn_cons, List.forIn_nil, Bool.not_true, Bool.false_eq_true, if_false, if_true] | lk)); exact q
      · (repeat (first | simp only [List.forIn_cons, List.forIn_nil, Bool.not_true, Bool.false_eq_true, if_false, if_true] | lk)); exact q
    · (repeat (first | simp only [List.forIn_cons, List.forIn_nil, Bool.not_true, Bool.false_eq_true, if_false, if_true] | lk)); exact q
  · (repeat (first | simp only [List.forIn_cons, List.forIn_nil, Bool.not_true, Bool.false_eq_true, if_false, if_true] | lk)); exact q
end XL
namespace XL
open PySem PySem.Spec PyProof.Rows L2 LamX
abbrev sTd : Stmt := topS 35
section
variable {P : Program} {w : World} {K : PySem.W.Frag} {mg : Str → Option Value} {base : Heap}
/-- what tells BadRow from the four others -/
structure Tell (K : PySem.W.Frag) (mg : Str → Option Value) (CR CL CS CK CO : Addr) : Prop where
  r : mg "BadRow" = some (.ref CR)
  l : mg "Loose" = some (.ref CL)
  s : mg "NoBasin" = some (.ref CS)
  k : mg "NoLock" = some (.ref CK)
  o : mg "Others" = some (.ref CO)
  ex : ExK K CR 0
  xm : PySem.W.exmAny K (.ref CR) [.ref CR, .ref CL, .ref CS, .ref CK, .ref CO] = some true
  k1 : PySem.W.kitOne K (.ref CR) (.ref CR) = some true
  k2 : PySem.W.kitAny K (.ref CR) [.ref CL, .ref CS, .ref CK, .ref CO] = some false
  k3 : PySem.W.kitOne K (.ref CR) (.type "ValueError") = some true
  no : PySem.W.findIn K (.ref CR) "at" = some none
abbrev nTd : List Str := ["_law_ask", "_law_found", "_law_caught", "error", "_law_fine"]
theorem scTd : FnScope nTd ["_law_ask"] (defScope sTd) := ⟨rfl, rfl, rfl, by decide +kernel, rfl, by decide +kernel, by decide +kernel⟩
/-- what is told of what was asked -/
def TTm (CR : Addr) : (XK → Hp → VK → Prop) → Hp → VK → Prop := fun tl H Q => ∀ H1, Same H H1 → tl (fun cls d H2 => cls = .ref CR ∧ ∃ (dd : Addr) (i : Nat), d = some dd ∧ H2 dd = some (.xd [("at", .int (i : Nat))]) ∧ ∀ H3 : Hp, Same H2 H3 → Q (.int (i : Nat)) H3) H1 Q
theorem told_gv {X : Cx} {CR CL CS CK CO g : Addr} {cdg : Value} {q : Str} (TT : Tell X.K X.mg CR CL CS CK CO) (m_isinstance : X.mg "isinstance" = none) (m_ValueError : X.mg "ValueError" = none) : GivesTo X nTd "_law_told" (defScope sTd) g cdg (defBody sTd) "_law_ask" q (TTm CR) := by
  intro f c' s H Q tl act hc h
  have gR := TT.r
  have gL := TT.l
  have gS := TT.s
  have gK := TT.k
  have gO := TT.o
  have TX := TT.ex
  have noM := TT.no
  refine ⟨_, (pss_cons (ps_asg (pe_tup (pa_cons pe_non (pa_cons pe_non pa_nil))) (pg_any rfl (pgs_cons (pg_name (i := 1) scTd.nd rfl (.inl rfl)) (pgs_cons (pg_name (i := 2) scTd.nd rfl (.inl rfl)) pgs_nil))))
    (pss_cons (ps_try_ct (i := 3) (cs := [.ref CR, .ref CL, .ref CS, .ref CK, .ref CO]) (tb := fun W => tAsg (fun σZ HZ Q => ∃ Q0 : VK, (∀ v H', Q0 v H' → Q v H') ∧ ∃ Ech : XK, (∀ cls d H', Ech cls d H' → W cls d [none, none, none, none, none] H') ∧ σZ[0]? = some (some (.ref f)) ∧ HZ c' = some (CodeO c' q) ∧ tl Ech HZ Q0) (gName 1)) (ts := fun _ _ _ => tAsg (tVar 3) (gName 2)) rfl rfl scTd.nd rfl rfl (ev_cons rfl gR (ev_cons rfl gL (ev_cons rfl gS (ev_cons rfl gK (ev_cons rfl gO ev_nil))))) (ext5 _ _ _ _ _) rfl (by show 5 ≤ 1000; decide)
      (fun W pn xe tk _ => pss_one (ps_set (i := 1) scTd.nd rfl (.inl rfl) (PE.less (PE.some fun Ech => PE.if fun hE => act (fun cls d _ H' => W cls d [none, none, none, none, none] H') pn xe Ech _ _ (Takes.blank (n := 5) tk rfl) (fun cls d _ H' h => hE cls d H' h)))))
      (fun a oe cls d pn hz hf => pss_one (ps_set (i := 2) scTd.nd rfl (.inl rfl) (pv 3))))
    (pss_cons (ps_if (pt_cmpR op_isN (pv 2) pe_non (nomark _)) (pss_one (ps_ret (pv 1))) pss_nil)
    (pss_cons (ps_set (i := 4) scTd.nd rfl (.inl rfl) (pe_and (pe_callB call_isK rfl m_isinstance boot_isinstance (pa_cons (pv 2) (pa_cons (pe_glob (v := .ref CR) rfl gR rfl) pa_nil))) (pe_one (pe_callB call_isK rfl m_isinstance boot_isinstance (pa_cons (pv 2) (pa_cons (pe_bltn (v := .ty "ValueError") rfl m_ValueError boot_ValueError rfl) pa_nil))))))
    (pss_one (ps_ret (pe_ifExp (PW.pt (pw_and (pt_val (pv 4)) (pw_and1 (pt_not (pt_val (pe_callB call_isKT rfl m_isinstance boot_isinstance (pa_cons (pv 2) (pa_cons (pe_tup (pa_cons (pe_glob (v := .ref CL) rfl gL rfl) (pa_cons (pe_glob (v := .ref CS) rfl gS rfl) (pa_cons (pe_glob (v := .ref CK) rfl gK rfl) (pa_cons (pe_glob (v := .ref CO) rfl gO rfl) pa_nil))))) pa_nil)))))))) (pe_kget TX noM (pv 2)) pe_str))))))), ?_⟩
  refine ⟨(by show 2 ≤ sizeLine; decide), fun tp ntp => ?_⟩
  have t0 := same_new ntp (o := .tup [.non, .non])
  have e0 : (upd H tp (.tup [.non, .non])) tp = some (.tup [.non, .non]) := upd_same
  generalize upd H tp (.tup [.non, .non]) = H1 at t0 e0
  refine ⟨tp, _, rfl, .inr (.inl (.inl e0)), rfl, _, _, rfl, _, _, rfl, rfl, ?_⟩
  refine at_g (σ' := [some (.ref f), some .non, some .non, none, none]) rfl ?_
  refine ⟨Q, fun v H2 qv => ?_, _, ?_, rfl, t0 _ _ hc, h H1 t0⟩
  · refine at_g (σ' := [some (.ref f), some v, some .non, none, none]) rfl ?_
    exact ⟨_, rfl, rfl, _, rfl, iteT ⟨_, rfl, qv⟩⟩
  · rintro cls d H2 ⟨rfl, dd, ii, rfl, ed, qe⟩
    refine ⟨TT.xm, fun a na => ?_⟩
    have sa : Same H2 (upd H2 a (exk a (.ref CR) (some dd))) := same_new na
    refine ⟨_, rfl, ?_⟩
    have ed' := sa _ _ ed
    have ea : (upd H2 a (exk a (.ref CR) (some dd))) a = some (exk a (.ref CR) (some dd)) := upd_same
    refine at_g (σ' := [none, none, some (.ref a), some (.ref a), none]) rfl ?_
    dsimp only
    refine at_s (σ' := [none, none, some (.ref a), none, none]) rfl ?_
    generalize upd H2 a (exk a (.ref CR) (some dd)) = H3 at ed' ea sa
    refine ⟨_, rfl, rfl, _, rfl, iteF ?_⟩
    have hx : ∀ {G : Hp}, Same H3 G → ∀ d', (some dd : Option Addr) = some d' → ∃ fs, G d' = some (.xd fs) := fun {G} sG d' e => by cases e; exact ⟨_, sG _ _ ed'⟩
    refine ⟨_, rfl, a, CR, some dd, .ref CR, .ref CR, true, _, _, _, _, rfl, TX, ea, hx (Same.refl _), .own _, TT.k1, ?_⟩
    refine ⟨true, rfl, iteT ?_⟩
    refine ⟨_, rfl, a, CR, some dd, _, _, true, _, _, _, _, rfl, TX, ea, hx (Same.refl _), .ty _, TT.k3, ?_⟩
    refine at_g (σ' := [none, none, some (.ref a), none, some (.bl true)]) rfl ?_
    refine ⟨_, rfl, true, rfl, iteT ?_⟩
    refine ⟨_, rfl, (by show 4 ≤ sizeLine; decide), fun cp ncp => ?_⟩
    have sc := same_new ncp (o := .tup [.ref CL, .ref CS, .ref CK, .ref CO])
    have ec : (upd H3 cp (.tup [.ref CL, .ref CS, .ref CK, .ref CO])) cp = some (.tup [.ref CL, .ref CS, .ref CK, .ref CO]) := upd_same
    have ea4 := sc _ _ ea
    have ed4 := sc _ _ ed'
    generalize upd H3 cp (.tup [.ref CL, .ref CS, .ref CK, .ref CO]) = H4 at sc ec ea4 ed4
    refine nil_go ⟨a, CR, cp, some dd, _, _, false, _, _, _, _, rfl, TX, ea4, hx sc, ec, .cons (.own _) (.cons (.own _) (.cons (.own _) (.cons (.own _) .nil))), TT.k2, ?_⟩
    refine ⟨false, rfl, iteT ?_⟩
    exact ⟨_, rfl, a, dd, _, _, rfl, ea4, ed4, rfl, qe _ (sa.trans sc)⟩
end
end XL
namespace XL
open PySem PySem.Spec PyProof.Rows L2
/-! ### text[::-1] -/
def tRevS (te : TE) : TE := fun σ H Q => te σ H fun x H1 => ∃ z : Str, x = .str z ∧ z.length ≤ sizeLine ∧ ∀ y : Str, y.length = z.length → (∀ c ∈ TL.tl y, c ∈ TL.tl z) → Q (.str y) H1
theorem pe_revS {X : Cx} {e : Expr} {te : TE} {k : Nat} {p1 p2 p3 pos : Pos} (he : PE X e te) : PE X (.Subscript e (.Slice none none (some (.UnaryOp .USub (.Constant (.int 1) k p1) p2)) p3) pos) (tRevS te) := by
  refine ⟨fun pins s σ H Q I h => ?_⟩
  refine Subscript_ (thn (he.run pins s σ H _ I h) fun v s1 ⟨x, H1, I1, r1, q1⟩ => ?_)
  obtain ⟨z, ex, hz, q⟩ := q1
  subst ex
  obtain ⟨t, rfl⟩ := r1
  have hst : PO X (some (.UnaryOp .USub (.Constant (.int 1) k p1) p2)) (tPart (tUn (rU fun i => .int (-i)) (tC (.int 1)))) := po_some (pe_un un_neg pe_int)
  refine wpAny_Slice (thn (po_none.run pins s1 σ H1 (fun o H2 => o = none ∧ H2 = H1) I1 ⟨rfl, rfl⟩) fun vl s2 ⟨l, H2, I2, pl, el, e2⟩ => ?_)
  subst el e2
  refine thn (po_none.run pins s2 σ H2 (fun o H3 => o = none ∧ H3 = H2) I2 ⟨rfl, rfl⟩) fun vu s3 ⟨u, H3, I3, pu, eu, e3⟩ => ?_
  subst eu e3
  refine thn (hst.run pins s3 σ H3 (fun o H4 => o = some (-1) ∧ H4 = H3) I3 ⟨1, rfl, -1, rfl, rfl, rfl⟩) fun vs s4 ⟨o, H4, I4, ps, eo, e4⟩ => ?_
  subst eo e4
  obtain ⟨l, rfl, hl⟩ := IsPart.raw pl
  obtain ⟨u, rfl, hu⟩ := IsPart.raw pu
  obtain ⟨st, rfl, hs⟩ := IsPart.raw ps
  have I5 : Inv X pins σ H4 { s4 with heap := s4.heap.push { cls := .type "slice", data := .fields #[partValue l, partValue u, partValue st] } } := I4.kept (t' := s4.toks) fun b ob q => Heap.get?_push_of_some _ q
  show wpAny (model X.prog X.w) X.A (subscriptTail e (.Slice none none (some (.UnaryOp .USub (.Constant (.int 1) k p1) p2)) p3) (.str z t) (.ref s4.heap.objs.size)) (EP X pins σ Q) X.xe { s4 with heap := s4.heap.push { cls := .type "slice", data := .fields #[partValue l, partValue u, partValue st] } }
  refine tail_any (ops := [.str z t, .ref s4.heap.objs.size]) (typeIs_str _ z t) (slot_str_getitem.lookup) ?_ (by with_unfolding_all rfl)
  refine wpAny_getItem_str_slice (l := l) (u := u) (st := st) (Heap.IsSliceOf.new _ _ _ _) (by rw [hs]; rfl) ?_
  cases l with
  | some p => cases hl
  | none =>
  cases u with
  | some p => cases hu
  | none =>
  cases st with
  | none => cases hs
  | some p =>
  obtain ⟨m, tk⟩ := p
  obtain rfl : m = -1 := Option.some.inj hs
  have e := step_rev_list z tk
  have el : (Txt.sliceBy z none none (-1, tk)).length = z.length := step_rev_len z tk
  have sub : ∀ c ∈ TL.tl (Txt.sliceBy z none none (-1, tk)), c ∈ TL.tl z := fun c hc => by
    have hc : c ∈ (Txt.sliceBy z none none (-1, tk)).cps.toList := hc
    rw [e] at hc
    obtain ⟨k, hk, rfl⟩ := List.mem_map.mp hc
    have hk' := List.mem_range.mp hk
    rw [← getD_list, List.getD_eq_getElem?_getD]
    have hlt : z.length - 1 - k < z.cps.toList.length := by
      have : z.cps.toList.length = z.length := by simp [Str.length]
      omega
    rw [List.getElem?_eq_getElem hlt]
    exact List.getElem_mem hlt
  have fin := q _ el sub
  unfold Txt.sliceBy slicePicked at fin el
  have h1 : ¬ ((((some ((-1 : Int), tk)).map (·.1)).getD 1 == 1 && ((Builtin.Str.strSliceIndices ((none : Option (Int × Tok)).map (·.1)) ((none : Option (Int × Tok)).map (·.1)) (((some ((-1 : Int), tk)).map (·.1)).getD 1) z.length).length == z.length)) = true) := by
    have : ((((some ((-1 : Int), tk)).map (·.1)).getD 1 == 1)) = false := rfl
    rw [this]; simp
  rw [if_neg h1] at fin el
  unfold sliceMade slicePicked
  rw [if_neg h1]
  exact ⟨by rw [el]; exact hz, .str _, H4, I5.tok _, ⟨_, rfl⟩, fin⟩
end XL
namespace XL
open PySem PySem.Spec PyProof.Rows L2
/-! ### texts put together -/
theorem joinL_len (S : List Nat) : ∀ ps : List (List Nat), (TL.joinL S ps).length ≤ (ps.map (·.length)).sum + ps.length * S.length
  | [] => by simp [TL.joinL]
  | [p] => by simp [TL.joinL]
  | p :: q :: r => by
    have ih := joinL_len S (q :: r)
    have e : TL.joinL S (p :: q :: r) = p ++ (S ++ TL.joinL S (q :: r)) := by simp [TL.joinL]
    rw [e, List.length_append, List.length_append, List.map_cons, List.sum_cons, List.length_cons, Nat.succ_mul]
    omega
theorem joinL_sub (S : List Nat) : ∀ ps : List (List Nat), ∀ c ∈ TL.joinL S ps, c ∈ S ∨ ∃ p ∈ ps, c ∈ p
  | [], c, h => by simp [TL.joinL] at h
  | [p], c, h => by
    have e : TL.joinL S [p] = p := by simp [TL.joinL]
    rw [e] at h; exact .inr ⟨p, by simp, h⟩
  | p :: q :: r, c, h => by
    have e : TL.joinL S (p :: q :: r) = p ++ (S ++ TL.joinL S (q :: r)) := by simp [TL.joinL]
    rw [e] at h
    rcases List.mem_append.mp h with h | h
    · exact .inr ⟨p, by simp, h⟩
    · rcases List.mem_append.mp h with h | h
      · exact .inl h
      · rcases joinL_sub S (q :: r) c h with h | ⟨z, hz, h⟩
        · exact .inl h
        · exact .inr ⟨z, List.mem_cons_of_mem _ hz, h⟩
theorem tl_joinT (y : Str) (ps : List Str) : TL.tl (Txt.join y ps) = TL.joinL (TL.tl y) (ps.map TL.tl) := by rw [TL.join_eq, TL.tl_join]
theorem join_len (y : Str) (ps : List Str) : (Txt.join y ps).length ≤ (ps.map (·.length)).sum + ps.length * y.length := by
  have h := joinL_len (TL.tl y) (ps.map TL.tl)
  rw [← tl_joinT, ← TL.len_tl, ← TL.len_tl, List.length_map, List.map_map] at h
  have e : (List.length ∘ TL.tl) = fun x : Str => x.length := by funext x; exact (TL.len_tl x).symm
  have e2 : ((fun x => List.length x) ∘ TL.tl) = fun x : Str => x.length := e
  rw [e2] at h
  exact h
end XL
namespace XL
open PySem PySem.Spec PyProof.Rows L2
/-! ### pieces of texts -/
theorem cutS_sub (z : Str) (lo hi : Option Int) : ∀ c ∈ TL.tl (cutS z lo hi), c ∈ TL.tl z := by
  intro c hc
  unfold cutS at hc
  have hc : c ∈ ((TL.tl z).drop (HT.sIx z.length 0 lo)).take (HT.sIx z.length z.length hi - HT.sIx z.length 0 lo) := hc
  exact List.mem_of_mem_drop (List.mem_of_mem_take hc)
theorem spl_sum (s : Nat) : ∀ (l acc : List Nat), ((TL.spl [s] 0 acc l).map (·.length)).sum + (TL.spl [s] 0 acc l).length = acc.length + l.length + 1
  | [], acc => by rw [TL.spl_nil]; simp
  | a :: l, acc => by
    cases h : TL.pre [s] (a :: l) with
    | true =>
      have ih := spl_sum s l []
      rw [TL.spl_hit h, List.map_cons, List.sum_cons, List.length_cons, List.length_cons]
      show acc.length + ((TL.spl [s] 0 [] l).map (·.length)).sum + ((TL.spl [s] 0 [] l).length + 1) = _
      simp only [List.length_nil, List.length_cons] at ih ⊢
      omega
    | false =>
      have ih := spl_sum s l (acc ++ [a])
      rw [TL.spl_miss h]
      rw [List.length_append] at ih
      simp only [List.length_cons, List.length_nil] at ih ⊢
      omega
def cutX {α : Type} (xs : List α) (lo hi : Option Int) : List α := (xs.drop (HT.sIx xs.length 0 lo)).take (HT.sIx xs.length xs.length hi - HT.sIx xs.length 0 lo)
theorem cutV_strs (ls : List Str) (lo hi : Option Int) : cutV (ls.map V.str) lo hi = (cutX ls lo hi).map V.str := by
  unfold cutV cutX
  rw [List.length_map, ← List.map_drop, ← List.map_take]
theorem mem_cutX {α : Type} {xs : List α} {lo hi : Option Int} {y : α} (h : y ∈ cutX xs lo hi) : y ∈ xs := List.mem_of_mem_drop (List.mem_of_mem_take h)
/-- how long a row of texts is, each sign and each seam counted -/
def wT (ls : List Str) : Nat := (ls.map (·.length)).sum + ls.length
theorem wT_cons (l : Str) (ls : List Str) : wT (l :: ls) = l.length + 1 + wT ls := by
  unfold wT
  rw [List.map_cons, List.sum_cons, List.length_cons]; omega
theorem wT_app (a b : List Str) : wT (a ++ b) = wT a + wT b := by
  unfold wT
  rw [List.map_append, List.sum_append, List.length_append]; omega
theorem wT_drop : ∀ (n : Nat) (ls : List Str), wT (ls.drop n) ≤ wT ls
  | 0, ls => Nat.le_refl _
  | n + 1, [] => Nat.le_refl _
  | n + 1, l :: ls => by rw [List.drop_succ_cons, wT_cons]; have := wT_drop n ls; omega
theorem wT_take : ∀ (n : Nat) (ls : List Str), wT (ls.take n) ≤ wT ls
  | 0, ls => by rw [List.take_zero]; exact Nat.zero_le _
  | n + 1, [] => Nat.le_refl _
  | n + 1, l :: ls => by rw [List.take_succ_cons, wT_cons, wT_cons]; have := wT_take n ls; omega
theorem wT_cut (ls : List Str) (lo hi : Option Int) : wT (cutX ls lo hi) ≤ wT ls := Nat.le_trans (wT_take _ _) (wT_drop _ _)
theorem wT_rep (ls : List Str) : ∀ k : Nat, wT (List.replicate k ls).flatten = k * wT ls
  | 0 => by rw [Nat.zero_mul]; rfl
  | k + 1 => by rw [List.replicate_succ, List.flatten_cons, wT_app, wT_rep ls k, Nat.succ_mul]; omega
theorem wT_len (ls : List Str) : ls.length ≤ wT ls := Nat.le_add_left _ _
theorem rep_map (ls : List Str) (k : Nat) : (List.replicate k (ls.map V.str)).flatten = ((List.replicate k ls).flatten).map V.str := by
  rw [List.map_flatten, List.map_replicate]
theorem mem_rep {ls : List Str} {k : Nat} {y : Str} (h : y ∈ (List.replicate k ls).flatten) : y ∈ ls := by
  obtain ⟨z, hz, hy⟩ := List.mem_flatten.mp h
  rw [(List.mem_replicate.mp hz).2] at hy
  exact hy
end XL
namespace XL
open PySem PySem.Spec PyProof.Rows L2 LamX
abbrev sSp : Stmt := topS 34
section
variable {P : Program} {w : World} {K : PySem.W.Frag} {mg : Str → Option Value} {base : Heap}
abbrev nSp : List Str := ["_law_box_here", "_law_sheet", "_law_signs", "_law_at", "_law_sort", "_law_sign", "_law_lines", "_law_again"]
theorem scSp : FnScope nSp ["_law_box_here", "_law_sheet"] (defScope sSp) := ⟨rfl, rfl, rfl, by decide +kernel, rfl, by decide +kernel, by decide +kernel⟩
def spSp : Sp := fun vs H Q _ => ∃ (b : Addr) (x : Str), vs = [.ref b, .str x] ∧ Bx H b ∧ Asc x ∧ x.length ≤ 14000 ∧ ∀ (z : Str) (H' : Hp), Asc z → z.length ≤ 6 * x.length + 6 → Dr b H H' → Q (.str z) H'
theorem Asc.add {x y : Str} (hx : Asc x) (hy : Asc y) : Asc (x ++ y) := fun c hc => by
  rw [TL.tl_append] at hc
  rcases List.mem_append.mp hc with h | h
  · exact hx c h
  · exact hy c h
theorem Asc.cut {x : Str} (hx : Asc x) (lo hi : Option Int) : Asc (cutS x lo hi) := fun c hc => hx c (cutS_sub x lo hi c hc)
theorem len_add (x y : Str) : (x ++ y).length = x.length + y.length := by rw [TL.len_tl, TL.tl_append, List.length_append, ← TL.len_tl, ← TL.len_tl]
theorem ok_sp {f ft : Addr} {fd fdt : FuncData} {k : Nat} (F : Fun K "_law_spoilt" "_law_spoilt" sSp f fd) (Tk : Fns P w K mg base k "_law_take" ["_law_box_here", "_law_size"] spTake ft fdt) (m_len : mg "len" = none) : FnOk P w K mg base CX0 (k + 1) f fd ["_law_box_here", "_law_sheet"] spSp := by
  refine F.ok scSp (fun vs H Q E h => ?_) (fun cdv A outer s0 H vs Q E hr h => ?_)
  · obtain ⟨b, x, rfl, _⟩ := h
    rfl
  obtain ⟨b, x, rfl, hb, hA, hx, q⟩ := h
  refine ⟨_, (pss_cons (ps_set (i := 2) scSp.nd rfl (.inl rfl) pe_str)
    (pss_cons (ps_par (i := 3) (j := 4) rfl scSp.nd rfl rfl (by decide) rfl rfl (pa_cons (pe_fn Tk hr rfl (pa_cons (pv 0) (pa_cons (pe_op op_add (pe_callB call_len_str rfl m_len PySem.boot_len (pa_cons (pv 1) pa_nil)) pe_int) pa_nil))) (pa_cons (pe_fn Tk hr rfl (pa_cons (pv 0) (pa_cons pe_int pa_nil))) pa_nil)) rfl)
    (pss_cons (ps_set (i := 5) scSp.nd rfl (.inl rfl) (pe_ix ix_str (pv 2) (pe_fn Tk hr rfl (pa_cons (pv 0) (pa_cons (pe_callB call_len_str rfl m_len PySem.boot_len (pa_cons (pv 2) pa_nil)) pa_nil))) (fun _ _ => rfl)))
    (pss_cons (ps_if (pt_cmpR op_lt (pv 4) pe_int (nomark _)) (pss_one (ps_ret (pe_op op_add_str (pe_op op_add_str (pe_slice sl_str (pv 1) po_none (po_some (pv 3))) (pv 5)) (pe_slice sl_str (pv 1) (po_some (pe_op op_add (pv 3) pe_int)) po_none)))) pss_nil)
    (pss_cons (ps_if (pt_cmpR op_eq (pv 4) pe_int (nomark _)) (pss_one (ps_ret (pe_op op_add_str (pe_op op_add_str (pe_slice sl_str (pv 1) po_none (po_some (pv 3))) (pv 5)) (pe_slice sl_str (pv 1) (po_some (pv 3)) po_none)))) pss_nil)
    (pss_cons (ps_if (pt_cmpR op_eq (pv 4) pe_int (nomark _)) (pss_one (ps_ret (pe_op op_add_str (pe_slice sl_str (pv 1) po_none (po_some (pv 3))) (pe_slice sl_str (pv 1) (po_some (pe_op op_add (pv 3) pe_int)) po_none)))) pss_nil)
    (pss_cons (ps_if (pt_cmpR op_eq (pv 4) pe_int (nomark _)) (pss_one (ps_ret (pe_op op_add_str (pe_op op_add_str (pe_slice sl_str (pv 1) po_none (po_some (pv 3))) (pe_revS (pe_slice sl_str (pv 1) (po_some (pv 3)) (po_some (pe_op op_add (pv 3) pe_int))))) (pe_slice sl_str (pv 1) (po_some (pe_op op_add (pv 3) pe_int)) po_none)))) pss_nil)
    (pss_cons (ps_if (pt_cmpR op_eq (pv 4) pe_int (nomark _)) (pss_one (ps_ret (pe_op op_add_str (pe_op op_add_str (pe_slice sl_str (pv 1) po_none (po_some (pv 3))) (pe_slice sl_str (pv 1) (po_some (pv 3)) (po_some (pe_op op_add (pv 3) pe_int)))) (pe_slice sl_str (pv 1) (po_some (pv 3)) po_none)))) pss_nil)
    (pss_cons (ps_set (i := 6) scSp.nd rfl (.inl rfl) (pe_split (pv 1) pe_str))
    (pss_cons (ps_set (i := 3) scSp.nd rfl (.inl rfl) (pe_op op_modN (pv 3) (pe_callB (r := rLenA K) call_lenA rfl m_len PySem.boot_len (pa_cons (pv 6) pa_nil))))
    (pss_cons (ps_set (i := 7) scSp.nd rfl (.inl rfl) (pe_op op_rep (pe_slice sl_list (pv 6) (po_some (pv 3)) (po_some (pe_op op_add (pv 3) pe_int))) (pe_op op_mul pe_int (pe_op op_sub (pv 4) pe_int))))
    (pss_one (ps_ret (pe_join pe_str (pe_op op_cat (pe_op op_cat (pe_slice sl_list (pv 6) po_none (po_some (pv 3))) (pv 7)) (pe_slice sl_list (pv 6) (po_some (pe_op op_add (pv 3) pe_int)) po_none)))))))))))))))), ?_⟩
  obtain ⟨S0, hS0⟩ : ∃ S0, S0 = Str.ofString " 0123456789-cklnorsuabde\n" := ⟨_, rfl⟩
  have lS : S0.length = 25 := by rw [hS0]; decide +kernel
  have aS : Asc S0 := by rw [hS0]; intro c hc; revert c; decide +kernel
  have sl : sizeLine = 16777216 := sizeLine_eq
  refine at_g (σ' := [some (.ref b), some (.str x), some (.str S0), none, none, none, none, none]) (by rw [hS0]; rfl) ?_
  refine ⟨_, rfl, _, rfl, nil_go ⟨x, rfl, by omega, ?_⟩⟩
  refine ⟨_, _, rfl, rfl, nil_go ⟨b, _, rfl, hb, by omega, by omega, fun v1 H1 g1 g2 d1 => ?_⟩⟩
  refine ⟨_, rfl, cons_c (nil_go ⟨b, 8, rfl, d1.box, by decide, by decide, fun v2 H2 g3 g4 d2 => ?_⟩)⟩
  refine ⟨_, _, rfl, ?_⟩
  refine at_s (σ' := [some (.ref b), some (.str x), some (.str S0), some (.int v1), some (.int v2), none, none, none]) rfl ?_
  refine ⟨_, rfl, _, rfl, _, rfl, nil_go ⟨S0, rfl, by omega, nil_go ⟨b, _, rfl, d2.box, by omega, by omega, fun v3 H3 g5 g6 d3 => ?_⟩⟩⟩
  have d13 := d1.trans (d2.trans d3)
  obtain ⟨c0, hc0⟩ : ∃ c0, S0.cps.toList[v3.toNat]? = some c0 := ⟨_, List.getElem?_eq_getElem (by
    show v3.toNat < (TL.tl S0).length
    rw [← TL.len_tl, lS]; rw [lS] at g6; omega)⟩
  refine ⟨S0, v3, c0, rfl, rfl, by omega, atI_int g5 hc0, ?_⟩
  have aC : Asc (⟨#[c0]⟩ : Str) := fun c hc => by
    have : c = c0 := by simpa [TL.tl] using hc
    rw [this]; exact aS c0 (List.mem_of_getElem? hc0)
  have lC : (⟨#[c0]⟩ : Str).length = 1 := rfl
  generalize (⟨#[c0]⟩ : Str) = sg at aC lC
  refine at_g (σ' := [some (.ref b), some (.str x), some (.str S0), some (.int v1), some (.int v2), some (.str sg), none, none]) rfl ?_
  have cl : ∀ lo hi, (cutS x lo hi).length ≤ x.length := fun lo hi => cutS_length x lo hi
  have ca : ∀ lo hi, Asc (cutS x lo hi) := fun lo hi => hA.cut lo hi
  have fin : ∀ z : Str, Asc z → z.length ≤ 6 * x.length + 6 → Q (.str z) H3 := fun z hz hl => q z H3 hz hl d13
  refine ⟨_, rfl, _, _, rfl, rfl, _, rfl, ?_⟩
  by_cases c1 : v2 < 2
  · rw [decide_eq_true c1]
    refine iteT ⟨_, rfl, _, rfl, _, rfl, x, rfl, by omega, _, rfl, _, _, rfl, rfl, by have := cl none (some v1); omega, _, rfl, _, rfl, _, _, rfl, rfl, _, rfl, x, rfl, by omega, _, _, rfl, rfl, ?_, ?_⟩
    · rw [len_add]; have := cl none (some v1); have := cl (some (v1 + 1)) none; omega
    · refine fin _ (((ca _ _).add aC).add (ca _ _)) ?_
      rw [len_add, len_add]; have := cl none (some v1); have := cl (some (v1 + 1)) none; omega
  rw [decide_eq_false c1]
  refine iteF ⟨_, rfl, rfl, _, rfl, ?_⟩
  by_cases c2 : v2 = 2
  · rw [decide_eq_true (show V.int v2 = V.int 2 by rw [c2])]
    refine iteT ⟨_, rfl, _, rfl, _, rfl, x, rfl, by omega, _, rfl, _, _, rfl, rfl, by have := cl none (some v1); omega, _, rfl, _, rfl, _, rfl, x, rfl, by omega, _, _, rfl, rfl, ?_, ?_⟩
    · rw [len_add]; have := cl none (some v1); have := cl (some v1) none; omega
    · refine fin _ (((ca _ _).add aC).add (ca _ _)) ?_
      rw [len_add, len_add]; have := cl none (some v1); have := cl (some v1) none; omega
  rw [decide_eq_false (show ¬ V.int v2 = V.int 2 from fun z => c2 (by injection z))]
  refine iteF ⟨_, rfl, rfl, _, rfl, ?_⟩
  by_cases c3 : v2 = 3
  · rw [decide_eq_true (show V.int v2 = V.int 3 by rw [c3])]
    refine iteT ⟨_, rfl, _, rfl, _, rfl, x, rfl, by omega, _, rfl, _, rfl, _, _, rfl, rfl, _, rfl, x, rfl, by omega, _, _, rfl, rfl, ?_, ?_⟩
    · have := cl none (some v1); have := cl (some (v1 + 1)) none; omega
    · refine fin _ ((ca _ _).add (ca _ _)) ?_
      rw [len_add]; have := cl none (some v1); have := cl (some (v1 + 1)) none; omega
  rw [decide_eq_false (show ¬ V.int v2 = V.int 3 from fun z => c3 (by injection z))]
  refine iteF ⟨_, rfl, rfl, _, rfl, ?_⟩
  by_cases c4 : v2 = 4
  · rw [decide_eq_true (show V.int v2 = V.int 4 by rw [c4])]
    refine iteT ⟨_, rfl, _, rfl, _, rfl, x, rfl, by omega, _, rfl, _, rfl, _, rfl, _, rfl, _, _, rfl, rfl, _, rfl, x, rfl, by omega, _, rfl, by have := cl (some v1) (some (v1 + 2)); omega, fun y hy1 hy2 => ?_⟩
    have ay : Asc y := fun c hc => ca _ _ c (hy2 c hc)
    have ly : y.length ≤ x.length := by rw [hy1]; exact cl _ _
    refine ⟨_, _, rfl, rfl, by have := cl none (some v1); omega, _, rfl, _, rfl, _, _, rfl, rfl, _, rfl, x, rfl, by omega, _, _, rfl, rfl, ?_, ?_⟩
    · rw [len_add]; have := cl none (some v1); have := cl (some (v1 + 2)) none; omega
    · refine fin _ (((ca _ _).add ay).add (ca _ _)) ?_
      rw [len_add, len_add]; have := cl none (some v1); have := cl (some (v1 + 2)) none; omega
  rw [decide_eq_false (show ¬ V.int v2 = V.int 4 from fun z => c4 (by injection z))]
  refine iteF ⟨_, rfl, rfl, _, rfl, ?_⟩
  by_cases c5 : v2 = 5
  · rw [decide_eq_true (show V.int v2 = V.int 5 by rw [c5])]
    refine iteT ⟨_, rfl, _, rfl, _, rfl, x, rfl, by omega, _, rfl, _, rfl, _, rfl, _, rfl, _, _, rfl, rfl, _, rfl, x, rfl, by omega, _, _, rfl, rfl, by have := cl none (some v1); have := cl (some v1) (some (v1 + 1)); omega, _, rfl, _, rfl, _, rfl, x, rfl, by omega, _, _, rfl, rfl, ?_, ?_⟩
    · rw [len_add]; have := cl none (some v1); have := cl (some v1) (some (v1 + 1)); have := cl (some v1) none; omega
    · refine fin _ (((ca _ _).add (ca _ _)).add (ca _ _)) ?_
      rw [len_add, len_add]; have := cl none (some v1); have := cl (some v1) (some (v1 + 1)); have := cl (some v1) none; omega
  rw [decide_eq_false (show ¬ V.int v2 = V.int 5 from fun z => c5 (by injection z))]
  refine iteF ?_
  have enl : ((Str.ofString "\n").length == 0) = false := by decide +kernel
  have en1 : (Str.ofString "\n").length = 1 := by decide +kernel
  have tnl : TL.tl (Str.ofString "\n") = [10] := by decide +kernel
  refine ⟨_, rfl, ⟨x, rfl⟩, x, _, rfl, rfl, enl, by omega, fun L nL => ?_⟩
  obtain ⟨lsA, _⟩ := lines_ok (x := x) (by omega) hA
  have hpos := split_pos x (Str.ofString "\n")
  have hw : wT (Txt.split x (Str.ofString "\n")) = x.length + 1 := by
    have h := spl_sum 10 (TL.tl x) []
    rw [← split_nl, List.length_map, List.map_map, ← TL.len_tl] at h
    have e : (List.length ∘ TL.tl) = fun y : Str => y.length := by funext y; exact (TL.len_tl y).symm
    have e2 : ((fun x => List.length x) ∘ TL.tl) = fun y : Str => y.length := e
    rw [e2] at h
    unfold wT
    simp only [List.length_nil] at h
    omega
  generalize Txt.split x (Str.ofString "\n") = ls at *
  have s1 := same_new nL (o := .lst (ls.map V.str))
  have eL : (upd H3 L (.lst (ls.map V.str))) L = some (.lst (ls.map V.str)) := upd_same
  generalize upd H3 L (.lst (ls.map V.str)) = G1 at s1 eL
  refine at_g (σ' := [some (.ref b), some (.str x), some (.str S0), some (.int v1), some (.int v2), some (.str sg), some (.ref L), none]) rfl ?_
  refine ⟨_, rfl, _, rfl, nil_go ⟨L, _, rfl, .inl (SqL.of eL), _, _, rfl, rfl, ?_⟩⟩
  have lpos : (0 : Int) < (((ls.map V.str).length : Nat) : Int) := by rw [List.length_map]; omega
  refine ⟨by show (((ls.map V.str).length : Nat) : Int) ≠ 0; omega, ?_⟩
  obtain ⟨at_, hat⟩ : ∃ z, z = v1.fmod (((ls.map V.str).length : Nat) : Int) := ⟨_, rfl⟩
  refine at_g (σ' := [some (.ref b), some (.str x), some (.str S0), some (.int at_), some (.int v2), some (.str sg), some (.ref L), none]) (by rw [hat]; rfl) ?_
  refine ⟨_, rfl, _, rfl, _, rfl, _, rfl, _, _, rfl, rfl, _, rfl, L, _, rfl, SqL.of eL, fun p1 np1 => ?_⟩
  rw [cutV_strs]
  have s2 := same_new np1 (o := .lst ((cutX ls (some at_) (some (at_ + 1))).map V.str))
  have f1 : (upd G1 p1 (.lst ((cutX ls (some at_) (some (at_ + 1))).map V.str))) p1 = some (.lst ((cutX ls (some at_) (some (at_ + 1))).map V.str)) := upd_same
  have eL2 := s2 _ _ eL
  have t2 := s1.trans s2
  generalize upd G1 p1 (.lst ((cutX ls (some at_) (some (at_ + 1))).map V.str)) = G2 at s2 f1 eL2 t2
  obtain ⟨kk, hkk, k1, k2⟩ : ∃ kk : Nat, 2 * (v2 - 6) = (kk : Int) ∧ kk ≤ 2 ∧ True := ⟨(2 * (v2 - 6)).toNat, by omega, by omega, trivial⟩
  have wl : ls.length ≤ x.length + 1 := by have := wT_len ls; omega
  have w1 := wT_cut ls (some at_) (some (at_ + 1))
  refine ⟨_, rfl, _, _, rfl, rfl, _, _, rfl, rfl, .inl (by decide), p1, 2 * (v2 - 6), _, rfl, rfl, f1, by omega, by omega, ?_, fun p2 np2 => ?_⟩
  · rw [hkk, Int.toNat_natCast, List.length_map]
    have h := wT_len (cutX ls (some at_) (some (at_ + 1)))
    have : (cutX ls (some at_) (some (at_ + 1))).length * kk ≤ (cutX ls (some at_) (some (at_ + 1))).length * 2 := Nat.mul_le_mul_left _ k1
    omega
  rw [hkk, Int.toNat_natCast, rep_map]
  obtain ⟨ag, hag⟩ : ∃ ag, ag = (List.replicate kk (cutX ls (some at_) (some (at_ + 1)))).flatten := ⟨_, rfl⟩
  have wag : wT ag ≤ 2 * wT ls := by
    rw [hag, wT_rep]
    exact Nat.mul_le_mul k1 w1
  have mag : ∀ y ∈ ag, y ∈ ls := fun y hy => by rw [hag] at hy; exact mem_cutX (mem_rep hy)
  rw [← hag]
  have s3 := same_new np2 (o := .lst (ag.map V.str))
  have f2 : (upd G2 p2 (.lst (ag.map V.str))) p2 = some (.lst (ag.map V.str)) := upd_same
  have eL3 := s3 _ _ eL2
  have t3 := t2.trans s3
  generalize upd G2 p2 (.lst (ag.map V.str)) = G3 at s3 f2 eL3 t3
  refine at_g (σ' := [some (.ref b), some (.str x), some (.str S0), some (.int at_), some (.int v2), some (.str sg), some (.ref L), some (.ref p2)]) rfl ?_
  have w2 := wT_cut ls none (some at_)
  have w3 := wT_cut ls (some (at_ + 1)) none
  refine ⟨⟨_, rfl⟩, _, rfl, _, rfl, _, rfl, L, _, rfl, SqL.of eL3, fun p3 np3 => ?_⟩
  rw [cutV_strs]
  have s4 := same_new np3 (o := .lst ((cutX ls none (some at_)).map V.str))
  have f3 : (upd G3 p3 (.lst ((cutX ls none (some at_)).map V.str))) p3 = some (.lst ((cutX ls none (some at_)).map V.str)) := upd_same
  have f24 := s4 _ _ f2
  have eL4 := s4 _ _ eL3
  have t4 := t3.trans s4
  generalize upd G3 p3 (.lst ((cutX ls none (some at_)).map V.str)) = G4 at s4 f3 f24 eL4 t4
  have l2 := wT_len (cutX ls none (some at_))
  have l3 := wT_len (cutX ls (some (at_ + 1)) none)
  have l4 := wT_len ag
  refine ⟨_, rfl, p3, p2, _, _, rfl, rfl, f3, f24, by rw [List.length_map, List.length_map]; omega, fun p4 np4 => ?_⟩
  rw [← List.map_append]
  have s5 := same_new np4 (o := .lst ((cutX ls none (some at_) ++ ag).map V.str))
  have f4 : (upd G4 p4 (.lst ((cutX ls none (some at_) ++ ag).map V.str))) p4 = some (.lst ((cutX ls none (some at_) ++ ag).map V.str)) := upd_same
  have eL5 := s5 _ _ eL4
  have t5 := t4.trans s5
  generalize upd G4 p4 (.lst ((cutX ls none (some at_) ++ ag).map V.str)) = G5 at s5 f4 eL5 t5
  refine ⟨_, rfl, _, rfl, _, _, rfl, rfl, _, rfl, L, _, rfl, SqL.of eL5, fun p5 np5 => ?_⟩
  rw [cutV_strs]
  have s6 := same_new np5 (o := .lst ((cutX ls (some (at_ + 1)) none).map V.str))
  have f5 : (upd G5 p5 (.lst ((cutX ls (some (at_ + 1)) none).map V.str))) p5 = some (.lst ((cutX ls (some (at_ + 1)) none).map V.str)) := upd_same
  have f46 := s6 _ _ f4
  have t6 := t5.trans s6
  generalize upd G5 p5 (.lst ((cutX ls (some (at_ + 1)) none).map V.str)) = G6 at s6 f5 f46 t6
  refine ⟨p4, p5, _, _, rfl, rfl, f46, f5, by rw [List.length_map, List.length_map, List.length_append]; omega, fun p6 np6 => ?_⟩
  rw [← List.map_append]
  have s7 := same_new np6 (o := .lst ((cutX ls none (some at_) ++ ag ++ cutX ls (some (at_ + 1)) none).map V.str))
  have wz : wT (cutX ls none (some at_) ++ ag ++ cutX ls (some (at_ + 1)) none) ≤ 4 * (x.length + 1) := by rw [wT_app, wT_app]; omega
  have jl := join_len (Str.ofString "\n") (cutX ls none (some at_) ++ ag ++ cutX ls (some (at_ + 1)) none)
  rw [en1, Nat.mul_one] at jl
  refine ⟨_, p6, cutX ls none (some at_) ++ ag ++ cutX ls (some (at_ + 1)) none, rfl, rfl, .inl (SqL.of upd_same), ?_, ?_⟩
  · rw [en1, Nat.mul_one]
    unfold wT at wz
    omega
  refine q _ _ (fun c hc => ?_) ?_ (d13.trans (Dr.of d13.box (t6.trans s7)))
  · rw [tl_joinT, tnl] at hc
    rcases joinL_sub _ _ c hc with h | ⟨w', hw', h⟩
    · rw [List.mem_singleton.mp h]; decide
    · obtain ⟨y, hy, rfl⟩ := List.mem_map.mp hw'
      have : y ∈ ls := by
        rcases List.mem_append.mp hy with hy | hy
        · rcases List.mem_append.mp hy with hy | hy
          · exact mem_cutX hy
          · exact mag y hy
        · exact mem_cutX hy
      exact (lsA y this).2 c h
  · unfold wT at wz
    omega
end
end XL
namespace XL
open PySem PySem.Spec PyProof.Rows L2 LamX
/-- a def whose code's cell is known -/
structure FunC (K : PySem.W.Frag) (x qual : Str) (st : Stmt) (f : Addr) (fd : FuncData) (c : Addr) : Prop where
  ex : ∃ (oc : Value) (od : Option Addr) (kV doc pm : Value) (an : Option Addr) (ct : Value) (osl : Array (Option Value)),
    fd = PySem.W.fnOf x qual (defArgs st) (defBody st) (defScope st) .none kV doc pm an (.ref c) ct ∧ K.lookup f = some ⟨oc, od, .func fd, osl⟩ ∧ PySem.W.codeIn K (.ref c) qual = true
section
variable {P : Program} {w : World} {K : PySem.W.Frag} {mg : Str → Option Value} {base : Heap}
theorem okGC {x qual : Str} {st : Stmt} {f c : Addr} {fd : FuncData} {N ps : List Str} {k : Nat} {sp : Sp} (F : FunC K x qual st f fd c) (S : FnScope N ps (defScope st)) (len : ∀ vs H Q E, sp vs H Q E → vs.length = ps.length)
    (hbody : ∀ (A : Around) (outer : List Env) (s : Shared) (H : Hp) (vs : List V) (Q : VK) (E : XK),
      (A.deeper (envOfC qual (defScope st) s.heap.objs.size f (.ref c))).guards = some [] → Room k (A.deeper (envOfC qual (defScope st) s.heap.objs.size f (.ref c))) → sp vs H Q E →
      ∃ t, PSs (cxOf CX0 P w K mg base N qual (defScope st) f (.ref c) A outer s H E).nox (defBody st) t ∧ t { nx := fun _ H' => Q .non H', rt := Q } (start N vs) H) : FnG P w K mg base (k + 1) f fd ps sp := by
  obtain ⟨oc, od, kV, doc, pm, an, ct, osl, rfl, lk, hcd⟩ := F.ex
  refine ⟨len, fun A outer s H args us vs Q E hgd hr e0 hb r hsp => ?_⟩
  have hl := len _ _ _ _ hsp; have KX : K.In s.heap := e0.mod.kin.keeps fun b o e => (e0.bs b o e).1
  have lim : s.heap.NoLimit := e0.mod.nolimit.keeps fun b o e => (e0.bs b o e).1
  have hkind : ∀ y ∈ ps.zip us, (defScope st).names.lookup y.1 = some .local ∨ ((defScope st).names.lookup y.1 = some .cell ∧ ((cellsFrom (s.heap.objs.size + 1) (defScope st).names []).lookup y.1).isSome = true) := fun ⟨n, v⟩ hy => by
    rcases S.par n (List.of_mem_zip hy).1 with q | q
    · exact .inl q
    · exact .inr ⟨q, PySem.W.cellsFrom_some _ _ _ (.inl q)⟩
  refine codeAny_call_function hr.depth (KX _ _ lk) rfl S.co S.gen rfl (PySem.W.codeRec_of KX hcd) (hb _ _ _ _ (wpAny_newFunctionEnv_cells S.kind hkind fun env he s1 x => ?_))
  subst he
  refine ⟨lim.keeps x.toInCall.keep, codeAny_func ?_⟩
  obtain ⟨t, ht, hq⟩ := hbody A outer s H vs Q E hgd (hr.deeper _) hsp
  have I : Inv (cxOf CX0 P w K mg base N qual (defScope st) f (.ref c) A outer s H E) [] (start N vs) H s1 := inv_start S hr.hd e0 hl r x
  refine wpAny_mono (ht.nox.run [] s1 (start N vs) H _ I hq) (fun fl s' hs => ?_) fun e s' hs => hs
  have fin : ∀ {σ' : L2.St} {H' : Hp} {v : V} {u : Value}, Inv (cxOf CX0 P w K mg base N qual (defScope st) f (.ref c) A outer s H E) [] σ' H' s' → RelV v u → Q v H' → CE outer P w H s Q u s' := fun {σ' H' v u} J rv q =>
    ⟨v, H', J.os, J.bare, J.base, J.hok, rv, q⟩
  cases fl with
  | ret u => obtain ⟨v, σ', H', J, rv, q⟩ := hs; exact fin J rv q
  | next => obtain ⟨σ', H', J, q⟩ := hs; exact fin (v := V.non) (u := Value.none) J rfl q
  | brk => obtain ⟨_, _, _, q⟩ := hs; exact False.elim q
  | cont => obtain ⟨_, _, _, q⟩ := hs; exact False.elim q
end
end XL
namespace XL
open PySem PySem.Spec PyProof.Rows L2 LamX
/-! ### the box is drawn from, the tables grow, all else stays -/
structure Dt (T : List (Addr × Str)) (b : Addr) (H H' : Hp) : Prop where
  box : Bx H' b
  ext : ∀ a o, a ≠ b → H a = some o → (∀ ps, o ≠ .tbl ps) → H' a = some o
  tab : Tabs T H'
theorem Tabs.stay {T : List (Addr × Str)} {b : Addr} {H H' : Hp} (hb : Bx H b) (t : Tabs T H) (e : ∀ a o, a ≠ b → H a = some o → H' a = some o) : Tabs T H' := by
  obtain ⟨x, y, z, eb⟩ := hb
  intro p hp
  obtain ⟨ps, h1, h2, h3⟩ := t p hp
  refine ⟨ps, e _ _ (fun q => by rw [q, eb] at h1; cases h1) h1, h2, fun pos cv hc => ?_⟩
  obtain ⟨c, e1, e2⟩ := h3 pos cv hc
  exact ⟨c, e1, e _ _ (fun q => by rw [q, eb] at e2; exact codeO_lst _ (Option.some.inj e2).symm) e2⟩
theorem Dt.refl {T : List (Addr × Str)} {b : Addr} {H : Hp} (hb : Bx H b) (t : Tabs T H) : Dt T b H H := ⟨hb, fun _ _ _ e _ => e, t⟩
theorem Dt.trans {T : List (Addr × Str)} {b : Addr} {H H1 H2 : Hp} (p : Dt T b H H1) (q : Dt T b H1 H2) : Dt T b H H2 := ⟨q.box, fun a o n e m => q.ext a o n (p.ext a o n e m) m, q.tab⟩
theorem Dt.dr {T : List (Addr × Str)} {b : Addr} {H H' : Hp} (hb : Bx H b) (t : Tabs T H) (d : Dr b H H') : Dt T b H H' := ⟨d.box, fun a o n e _ => d.same a o n e, Tabs.stay hb t d.same⟩
theorem Dt.sm {T : List (Addr × Str)} {b : Addr} {H H' : Hp} (hb : Bx H b) (t : Tabs T H) (s : Same H H') : Dt T b H H' := Dt.dr hb t (Dr.of hb s)
theorem Dt.ex {T : List (Addr × Str)} {b : Addr} {H H' : Hp} (hb : Bx H b) (e : ExtN H H') (t : Tabs T H') : Dt T b H H' := by
  obtain ⟨x, y, z, eb⟩ := hb
  exact ⟨⟨x, y, z, e _ _ eb fun ps q => by cases q⟩, fun a o _ h m => e a o h m, t⟩
theorem Dt.tp {T : List (Addr × Str)} {b : Addr} {H H' : Hp} (hb : Bx H b) (d : Dt T b H H') : Tp H H' := by
  obtain ⟨x, y, z, e⟩ := hb
  exact ⟨fun a xs q => d.ext a _ (fun c => by rw [c, e] at q; cases q) q (fun ps z => by cases z), fun a o xs q => d.ext a _ (fun c => by rw [c, e] at q; cases q) q (fun ps z => by cases z)⟩
/-! ### what is told of a lambda -/
structure ToldK (K : PySem.W.Frag) (mg : Str → Option Value) (CR CL CS CK CO ft : Addr) (fdt : FuncData) : Prop where
  F : Fun K "_law_told" "_law_told" sTd ft fdt
  b : Binds K fdt ["_law_ask"] []
  g : mg "_law_told" = some (.ref ft)
  tt : Tell K mg CR CL CS CK CO
  mi : mg "isinstance" = none
  mo : mg "ValueError" = none
theorem pe_told {X : Cx} {T : List (Addr × Str)} {CR CL CS CK CO ft c tb : Addr} {fdt : FuncData} {k : Nat} {params : Arguments} {body : Expr} {scope : Scope} {t : XK → TE} {p lpos pos : Pos} (W : ToldK X.K X.mg CR CL CS CK CO ft fdt) (TB : TabB X.base X.mg c tb) (hcode : X.env.code = .ref c)
    (hmT : (tb, X.env.qual ++ "<lambda>") ∈ T) (hu : ∀ p ∈ T, p.1 = tb → p.2 = X.env.qual ++ "<lambda>") (hr : Room (k + 2) X.A) (hg : Gl X "_law_told") (L : LamS X.env.scope scope)
    (hbody : ∀ (A : Around) (outer : List Env) (s : Shared) (H : Hp) (E : XK) (f c' : Addr), Room k (A.deeper (lamEnv X scope s.heap.objs.size f c')) → PE (lamCx X A outer s H E scope f c') body (t E))
    (hdef : defaultsOf params X.env = ([], []) := by rfl) (hbind : ∀ (q : Str) (cl : List (Str × Addr)) (pm cv ctv : Value), bindArgs (PySem.W.kla_fn "<lambda>" q params body scope cl pm cv ctv) ⟨[], []⟩ = pure [] := by exact fun _ _ _ _ _ => rfl) :
    PE X (.Call (.Name "_law_told" p) [.Lambda params body scope lpos] [] pos) (tLam T (TTm CR) t) := by
  obtain ⟨oc, od, kV, doc, pm, an, cdv, ct, osl, rfl, lk, hcd⟩ := W.F.ex
  exact pe_lamcall hg W.g W.F.kp lk hcd W.b scTd rfl (.inl rfl) (told_gv W.tt W.mi W.mo) TB hcode hmT hu hr L hdef hbind hbody
theorem told_go {T : List (Addr × Str)} {CR b : Addr} {t : XK → TE} {σ : L2.St} {H : Hp} {Q : VK} (hb : Bx H b) (tab : Tabs T H)
    (h : ∀ G, Dt T b H G → t (fun cls d H2 => cls = .ref CR ∧ ∃ (dd : Addr) (i : Nat), d = some dd ∧ H2 dd = some (.xd [("at", .int (i : Nat))]) ∧ ∀ H3 : Hp, Same H2 H3 → Q (.int (i : Nat)) H3) σ G Q) : tLam T (TTm CR) t σ H Q :=
  ⟨tab, fun G1 eN tG G2 s2 => h G2 (have d1 := Dt.ex hb eN tG; d1.trans (Dt.sm d1.box tG s2))⟩
end XL
namespace XL
open PySem PySem.Spec PyProof.Rows L2
abbrev sNum : Stmt := topS 1
abbrev sPl : Stmt := topS 2
abbrev sTo : Stmt := topS 3
abbrev sIl : Stmt := topS 5
abbrev sLr : Stmt := topS 18
section
variable {P : Program} {w : World} {K : PySem.W.Frag} {mg : Str → Option Value} {base : Heap}
theorem scNum : FnScope ["thing"] ["thing"] (defScope sNum) := ⟨rfl, rfl, rfl, by decide +kernel, rfl, by decide +kernel, by decide +kernel⟩
theorem scPl : FnScope ["thing", "many"] ["thing", "many"] (defScope sPl) := ⟨rfl, rfl, rfl, by decide +kernel, rfl, by decide +kernel, by decide +kernel⟩
theorem scTo : FnScope ["thing", "many"] ["thing", "many"] (defScope sTo) := ⟨rfl, rfl, rfl, by decide +kernel, rfl, by decide +kernel, by decide +kernel⟩
abbrev nIl : List Str := ["reds", "blues", "thing", "a", "c", "x", "y"]
theorem scIl : FnScope nIl ["reds", "blues", "thing"] (defScope sIl) := ⟨rfl, rfl, rfl, by decide +kernel, rfl, by decide +kernel, by decide +kernel⟩
def spNum : Sp := fun vs H Q _ => ∃ n : Int, vs = [.int n] ∧ Q (.bl true) H
theorem ok_num {f : Addr} {fd : FuncData} {k : Nat} (F : Fun K "is_number" "is_number" sNum f fd) (m_isinstance : mg "isinstance" = none) (m_int : mg "int" = none) (m_bool : mg "bool" = none) : FnOk P w K mg base CX0 (k + 1) f fd ["thing"] spNum := by
  refine F.ok scNum (fun vs H Q E h => ?_) (fun cdv A outer s0 H vs Q E hr h => ?_)
  · obtain ⟨n, rfl, _⟩ := h
    rfl
  obtain ⟨n, rfl, q⟩ := h
  refine ⟨_, (pss_one (ps_ret (pe_and (pe_callB call_isi rfl m_isinstance boot_isinstance (pa_cons (pv 0) (pa_cons (pe_bltn (v := .ty "int") rfl m_int boot_int' rfl) pa_nil))) (pe_one (pe_not (pe_callB call_isi rfl m_isinstance boot_isinstance (pa_cons (pv 0) (pa_cons (pe_bltn (v := .ty "bool") rfl m_bool boot_bool' rfl) pa_nil)))))))), ?_⟩
  exact ⟨_, rfl, .int n, .ty "int", .type "int", .type "int", true, rfl, .ty _, tyx_of (K := K) (.int n), rfl, true, rfl, iteT ⟨_, rfl, .int n, .ty "bool", .type "int", .type "bool", false, rfl, .ty _, tyx_of (K := K) (.int n), rfl, _, rfl, q⟩⟩
def spPl : Sp := fun vs H Q _ => ∃ n m : Nat, vs = [.int (n : Nat), .int (m : Nat)] ∧ Q (.bl (decide (n < m))) H
theorem ok_pl {f fn : Addr} {fd fdn : FuncData} {k : Nat} (F : Fun K "is_place" "is_place" sPl f fd) (Nm : Fns P w K mg base k "is_number" ["thing"] spNum fn fdn) : FnOk P w K mg base CX0 (k + 1) f fd ["thing", "many"] spPl := by
  refine F.ok scPl (fun vs H Q E h => ?_) (fun cdv A outer s0 H vs Q E hr h => ?_)
  · obtain ⟨n, m, rfl, _⟩ := h
    rfl
  obtain ⟨n, m, rfl, q⟩ := h
  refine ⟨_, (pss_one (ps_ret (pe_and (pe_fn Nm hr rfl (pa_cons (pv 0) pa_nil)) (pe_one (pe_chain op_le op_lt pe_int (pv 0) (pv 1)))))), ?_⟩
  refine ⟨_, rfl, _, rfl, true, rfl, iteT ⟨_, rfl, _, _, rfl, rfl, _, rfl, ?_⟩⟩
  rw [decide_eq_true (show (0 : Int) ≤ ((n : Nat) : Int) by omega)]
  refine iteT ⟨_, rfl, _, _, rfl, rfl, ?_⟩
  have e : decide (((n : Nat) : Int) < ((m : Nat) : Int)) = decide (n < m) := by
    by_cases h : n < m
    · rw [decide_eq_true h, decide_eq_true (show ((n : Nat) : Int) < ((m : Nat) : Int) by omega)]
    · rw [decide_eq_false h, decide_eq_false (show ¬ ((n : Nat) : Int) < ((m : Nat) : Int) by omega)]
  show Q (.bl (decide (((n : Nat) : Int) < ((m : Nat) : Int)))) H
  rw [e]
  exact q
def spTo (K : PySem.W.Frag) : Sp := fun vs H Q _ => ∃ (p : Addr) (xs : List V), vs = [.ref p, .int 4] ∧ H p = some (.tup xs) ∧ xs.length = 4 ∧ Q (.bl true) H
theorem ok_to {f : Addr} {fd : FuncData} {k : Nat} (F : Fun K "is_tuple_of" "is_tuple_of" sTo f fd) (m_isinstance : mg "isinstance" = none) (m_tuple : mg "tuple" = none) (m_len : mg "len" = none) : FnOk P w K mg base CX0 (k + 1) f fd ["thing", "many"] (spTo K) := by
  refine F.ok scTo (fun vs H Q E h => ?_) (fun cdv A outer s0 H vs Q E hr h => ?_)
  · obtain ⟨p, xs, rfl, _⟩ := h
    rfl
  obtain ⟨p, xs, rfl, hp, hl, q⟩ := h
  refine ⟨_, (pss_one (ps_ret (pe_and (pe_callB call_isi rfl m_isinstance boot_isinstance (pa_cons (pv 0) (pa_cons (pe_bltn (v := .ty "tuple") rfl m_tuple boot_tuple rfl) pa_nil))) (pe_one (pe_cmpR op_eq (pe_callB (r := rLenA K) call_lenA rfl m_len PySem.boot_len (pa_cons (pv 0) pa_nil)) (pv 1) (nomark _)))))), ?_⟩
  refine ⟨_, rfl, .ref p, .ty "tuple", .type "tuple", .type "tuple", true, rfl, .ty _, .base (.tup hp), rfl, true, rfl, iteT ⟨_, rfl, nil_go ⟨p, xs, rfl, .inr (.inl (.inl hp)), _, rfl, rfl, ?_⟩⟩⟩
  rw [hl]
  exact q
def spIl (K : PySem.W.Frag) : Sp := fun vs H Q _ => ∃ (r b : Nat) (p : Addr) (a c x y : Nat), vs = [.int (r : Nat), .int (b : Nat), .ref p] ∧ H p = some (.tup [.int (a : Nat), .int (c : Nat), .int (x : Nat), .int (y : Nat)]) ∧ Q (.bl (decide (a < r ∧ c < r ∧ x < b ∧ y < b))) H
theorem ok_il {f ft fp : Addr} {fd fdt fdp : FuncData} {k : Nat} (F : Fun K "is_lock" "is_lock" sIl f fd) (To : Fns P w K mg base k "is_tuple_of" ["thing", "many"] (spTo K) ft fdt) (Pl : Fns P w K mg base k "is_place" ["thing", "many"] spPl fp fdp) : FnOk P w K mg base CX0 (k + 1) f fd ["reds", "blues", "thing"] (spIl K) := by
  refine F.ok scIl (fun vs H Q E h => ?_) (fun cdv A outer s0 H vs Q E hr h => ?_)
  · obtain ⟨r, b, p, a, c, x, y, rfl, _⟩ := h
    rfl
  obtain ⟨r, b, p, a, c, x, y, rfl, hp, q⟩ := h
  refine ⟨_, (pss_cons (ps_if (pt_not (pt_val (pe_fn To hr rfl (pa_cons (pv 2) (pa_cons pe_int pa_nil))))) (pss_one (ps_ret pe_bl)) pss_nil)
    (pss_cons (ps_asg (pv 2) (pg_any rfl (pgs_cons (pg_name (i := 3) scIl.nd rfl (.inl rfl)) (pgs_cons (pg_name (i := 4) scIl.nd rfl (.inl rfl)) (pgs_cons (pg_name (i := 5) scIl.nd rfl (.inl rfl)) (pgs_cons (pg_name (i := 6) scIl.nd rfl (.inl rfl)) pgs_nil))))))
    (pss_one (ps_ret (pe_and (pe_fn Pl hr rfl (pa_cons (pv 3) (pa_cons (pv 0) pa_nil))) (pe_and (pe_fn Pl hr rfl (pa_cons (pv 4) (pa_cons (pv 0) pa_nil))) (pe_and (pe_fn Pl hr rfl (pa_cons (pv 5) (pa_cons (pv 1) pa_nil))) (pe_one (pe_fn Pl hr rfl (pa_cons (pv 6) (pa_cons (pv 1) pa_nil))))))))))), ?_⟩
  refine ⟨_, rfl, p, _, rfl, hp, rfl, true, rfl, iteF ?_⟩
  refine ⟨_, rfl, p, _, rfl, .inr (.inl (.inl hp)), rfl, _, _, rfl, _, _, rfl, _, _, rfl, _, _, rfl, rfl, ?_⟩
  refine at_s (σ' := [some (.int (r : Nat)), some (.int (b : Nat)), some (.ref p), some (.int (a : Nat)), some (.int (c : Nat)), some (.int (x : Nat)), some (.int (y : Nat))]) rfl ?_
  refine ⟨_, rfl, _, rfl, a, r, rfl, _, rfl, ?_⟩
  by_cases h1 : a < r
  rotate_left
  · rw [decide_eq_false h1]
    rw [decide_eq_false (show ¬ (a < r ∧ c < r ∧ x < b ∧ y < b) from fun z => h1 z.1)] at q
    exact iteF q
  rw [decide_eq_true h1]
  refine iteT ⟨_, rfl, _, rfl, c, r, rfl, _, rfl, ?_⟩
  by_cases h2 : c < r
  rotate_left
  · rw [decide_eq_false h2]
    rw [decide_eq_false (show ¬ (a < r ∧ c < r ∧ x < b ∧ y < b) from fun z => h2 z.2.1)] at q
    exact iteF q
  rw [decide_eq_true h2]
  refine iteT ⟨_, rfl, _, rfl, x, b, rfl, _, rfl, ?_⟩
  by_cases h3 : x < b
  rotate_left
  · rw [decide_eq_false h3]
    rw [decide_eq_false (show ¬ (a < r ∧ c < r ∧ x < b ∧ y < b) from fun z => h3 z.2.2.1)] at q
    exact iteF q
  rw [decide_eq_true h3]
  refine iteT ⟨_, rfl, _, rfl, y, b, rfl, ?_⟩
  have e : decide (a < r ∧ c < r ∧ x < b ∧ y < b) = decide (y < b) := by
    by_cases h4 : y < b
    · rw [decide_eq_true h4]; exact decide_eq_true ⟨h1, h2, h3, h4⟩
    · rw [decide_eq_false h4]; exact decide_eq_false fun z => h4 z.2.2.2
  rw [e] at q
  exact q
theorem rowIn_leq {line : Option (List Nat)} {wd : List Nat} {many : Nat} {ns : List Nat} (h : rowIn line wd many = some ns) : ns.length = many := by
  unfold rowIn at h
  split at h
  · rename_i q
    have := congrArg List.length (nums_some h)
    rw [List.length_map, List.length_map] at this
    rw [← q.2]; exact this.symm
  · cases h
def gate4 (r b : Nat) : List Nat → Option Lk
  | [a, c, x, y] => if a < r ∧ c < r ∧ x < b ∧ y < b then some ((a : Nat), (c : Nat), (x : Nat), (y : Nat)) else none
  | _ => none
/-- a lock's row read -/
def gateIn (r b : Nat) (line : Option (List Nat)) : Option Lk :=
  match rowIn line (TL.tl (Str.ofString "lock")) 4 with
  | none => none
  | some ns => gate4 r b ns
abbrev nLr : List Str := ["rows", "at", "reds", "blues", "lock"]
theorem scLr : FnScope nLr ["rows", "at", "reds", "blues"] (defScope sLr) := ⟨rfl, rfl, rfl, by decide +kernel, rfl, by decide +kernel, by decide +kernel⟩
def spLr (K : PySem.W.Frag) (CR : Addr) : Sp := fun vs H Q E => ∃ (g : Addr) (ys : List Str) (at_ r b : Nat), vs = [.ref g, .int (at_ : Nat), .int (r : Nat), .int (b : Nat)] ∧ SqL K H g (ys.map V.str) ∧ (∀ y ∈ ys, y.length ≤ 100000 ∧ Asc y) ∧ ys.length ≤ 100000 ∧
  (∀ (dd : Addr) (H' : Hp), gateIn r b ((ys[at_]?).map TL.tl) = none → Same H H' → H' dd = some (.xd [("at", .int (at_ : Nat))]) → E (.ref CR) (some dd) H') ∧
  (∀ (l : Lk) (p : Addr) (H' : Hp), gateIn r b ((ys[at_]?).map TL.tl) = some l → Same H H' → H p = none → H' p = some (.tup (endsV l)) → Q (.ref p) H')
theorem ok_lr {f fn fi fR CR : Addr} {fd fdn fdi fdR : FuncData} {k : Nat} (F : Fun K "lock_row" "lock_row" sLr f fd) (Rn : FnX P w K mg base (k + 2) "row_numbers" ["rows", "at", "word", "many"] (spRn K CR) fn fdn) (Il : Fns P w K mg base (k + 2) "is_lock" ["reds", "blues", "thing"] (spIl K) fi fdi) (TR : Er P w K mg base "BadRow" 0 CR fR fdR ["self", "at"] (spI CR "at")) : FnOk P w K mg base (L2.CX P w) (k + 2 + 1) f fd ["rows", "at", "reds", "blues"] (spLr K CR) := by
  refine F.okX scLr (fun vs H Q E h => ?_) (fun cdv A outer s0 H vs Q E hr h => ?_)
  · obtain ⟨g, ys, at_, r, b, rfl, _⟩ := h
    rfl
  obtain ⟨g, ys, at_, r, b, rfl, ha, hy, hn, qe, qs⟩ := h
  have hrB : Room (1 + 1) _ := hr.mono (by omega)
  have FR := TR.ok
  have bR := TR.bi
  refine ⟨_, (pss_cons (ps_set (i := 4) scLr.nd rfl (.inl rfl) (pe_callS Rn.ok hr rfl Rn.g Rn.k Rn.b (fun σ => passAt (takes_of rfl rfl rfl rfl) σ) (pa_cons (pv 0) (pa_cons (pv 1) (pa_cons pe_str (pa_cons pe_int pa_nil))))))
    (pss_cons (ps_if (pt_not (pt_val (pe_fn Il hr rfl (pa_cons (pv 2) (pa_cons (pv 3) (pa_cons (pv 4) pa_nil)))))) (pss_one (ps_raise rfl (takes_of rfl rfl rfl rfl) (pmk_ex TR.ex TR.ty TR.ini TR.tI FR hrB bR rfl TR.g (pa_cons (pv 1) pa_nil)))) pss_nil)
    (pss_one (ps_ret (pv 4))))), ?_⟩
  have w1 : Asc (Str.ofString "lock") := by intro c hc; revert c; decide +kernel
  unfold gateIn at qe qs
  refine ⟨_, rfl, _, rfl, cons_c (cons_c (nil_go ⟨g, ys, at_, 4, _, rfl, ha, hy, hn, w1, fun dd H1 hno s1 e1 => qe dd H1 (by rw [hno]) s1 e1, fun ns p H1 hok s1 np1 e1 => ?_⟩))⟩
  rw [hok] at qe qs
  have hl := rowIn_leq hok
  match ns, hl with
  | [a, c, x, y], _ =>
  refine at_g (σ' := [some (.ref g), some (.int (at_ : Nat)), some (.int (r : Nat)), some (.int (b : Nat)), some (.ref p)]) rfl ?_
  refine ⟨_, rfl, _, rfl, _, rfl, nil_go ⟨r, b, p, a, c, x, y, rfl, e1, _, rfl, ?_⟩⟩
  by_cases h : a < r ∧ c < r ∧ x < b ∧ y < b
  · rw [decide_eq_true h]
    refine iteF ⟨_, rfl, qs _ p H1 (if_pos h) s1 np1 e1⟩
  · rw [decide_eq_false h]
    refine iteT ⟨_, rfl, nil_go ⟨(by show 1 ≤ 1000; decide), fun d nd => ?_⟩⟩
    refine ⟨d, .int (at_ : Nat), rfl, upd_same, fun dx nx nxa => ⟨rfl, dx, [("at", .int (at_ : Nat))], upd_same, by rw [upd_ne nxa, upd_same], by rw [upd_ne nxa] at nx; exact nx, ?_⟩⟩
    have nx' : H1 dx = none := by rw [upd_ne nxa] at nx; exact nx
    rw [del_upd' nd nxa]
    exact qe dx _ (if_neg h) (s1.trans (same_new nx')) upd_same
end
end XL
namespace XL
open PySem PySem.Spec PyProof.Rows L2
section
/-- a comprehension whose element may end all: what was put before is known -/
theorem lc_mapR {J : It} {n : Nat} {G : Hp → Prop} {Y : Nat → Hp → V → Hp → Prop} (w : Walk J n G Y) (Rl : Hp → Hp → Prop) (tr : ∀ {A B C}, Rl A B → Rl B C → Rl A C)
    (R : Nat → V → Hp → Prop) (st : ∀ i y A B, Rl A B → R i y A → R i y B) {g : TG} {t : TE} {vs : List Nat} {σ : L2.St} {H1 : Hp} {Qd : Addr → Hp → Prop} (hz : n < sizeLine)
    (rf : Rl H1 H1) (hG : ∀ F D acc, Rl H1 F → F D = none → G (upd F D (.lst acc)))
    (hs : ∀ i x D acc F H', i < n → H1 D = none → Rl H1 F → F D = none → Y i (upd F D (.lst acc)) x H' → acc.length = i → (∀ (j : Nat) y, acc[j]? = some y → R j y F) → ∀ B : L2.St → Hp → Prop, (∀ σ2 Fm, wipe σ2 vs = wipe σ vs → Fm D = none →
      (∀ Qt : VK, (∀ y F', Rl F F' → R i y F' → Qt y F') → t σ2 Fm Qt) → B σ2 (upd Fm D (.lst acc))) → g x (wipe σ vs) H' B)
    (hd : ∀ D ys F, H1 D = none → Rl H1 F → F D = none → ys.length = n → (∀ (i : Nat) y, ys[i]? = some y → R i y F) → Qd D (upd F D (.lst ys))) :
    ∀ D, H1 D = none → ∃ W : Nat → Nat → Hp → Prop, (∃ m, W 0 m (upd H1 D (.lst []))) ∧ ∀ i m H, W i m H →
      (J.stop i H ∧ Qd D H) ∨ (J.go i H ∧ ∃ Nx : Hp → Prop, (∀ H', Nx H' → ∃ m', m' < m ∧ W (i + 1) m' H') ∧ ∀ x H', J.yld i H x H' → g x (wipe σ vs) H' fun σ2 H2 => wipe σ2 vs = wipe σ vs ∧ tYes σ2 H2 fun b H3 =>
        if b = true then tHide t σ2 H3 fun y H4 => ∃ acc, H4 D = some (.lst acc) ∧ acc.length < sizeLine ∧ Nx (upd H4 D (.lst (acc ++ [y]))) else Nx H3) := by
  intro D nD
  refine lc_it w (fun i H => ∃ ys F, H = upd F D (.lst ys) ∧ F D = none ∧ Rl H1 F ∧ ys.length = i ∧ ∀ (j : Nat) y, ys[j]? = some y → R j y F) ⟨[], H1, rfl, nD, rf, rfl, fun j y e => by simp at e⟩ ?_ ?_ ?_
  · rintro i H _ ⟨ys, F, rfl, nF, rl, _, _⟩
    exact hG F D ys rl nF
  · rintro i x H H' hi ⟨ys, F, rfl, nF, rl, hl, hR⟩ hy
    refine hs i x D ys F H' hi nD rl nF hy hl hR _ fun σ2 Fm hw nm ht => ⟨hw, ?_⟩
    unfold tYes; dsimp only
    rw [if_pos rfl]
    refine ⟨D, ys, upd_same, ?_⟩
    rw [delH_upd nm]
    refine ht _ fun y F' rl' r nF' => ⟨ys, upd_same, by omega, ys ++ [y], F', upd_upd, nF', tr rl rl', by rw [List.length_append, hl]; rfl, fun j z e => ?_⟩
    by_cases hj : j < ys.length
    · rw [List.getElem?_append_left hj] at e
      exact st j z F F' rl' (hR j z e)
    · rw [List.getElem?_append_right (by omega)] at e
      have hj0 : j - ys.length = 0 := by
        rcases Nat.eq_zero_or_pos (j - ys.length) with q | q
        · exact q
        · rw [List.getElem?_eq_none (by simp; omega)] at e; cases e
      rw [hj0] at e
      have e' : y = z := by simpa using e
      have ej : j = i := by omega
      rw [← e', ej]; exact r
  · rintro H ⟨ys, F, rfl, nF, rl, hl, hR⟩
    exact hd D ys F nD rl nF hl hR
end
end XL
namespace XL
open PySem PySem.Spec PyProof.Rows L2
section
variable {s : Shared} {A : Around} {M : Model} {E : Value → Shared → Prop}
/-- the frame notes an exception that is in its air, at whatever point it is -/
theorem sky_noted {env : Env} {outer : List Env} {L a : Addr} {Z : Obj → Prop} {B : Heap} {Q : Unit → Shared → Prop} (hZ : HandSPX.Steady Z)
    (fr : A.frames = some (env :: outer)) (fl : env.frame = some L) (x : Sky B (env :: outer) a Z L s.heap)
    (q : ∀ h', HandSPX.HeldZ B (env :: outer) a Z L h' → s.heap.UpToSlots h' → Q () { s with heap := h' }) : wpAny M A (noteFrame (.ref a) env) Q E s := by
  rcases x with ⟨hB, hn, hl, oe, vs, he, hz, hd, h1⟩ | hh | hh
  · exact HandSPX.look_newZ hZ fr hl fl he hB hn hd h1 hz q
  · exact HandSPX.looks_onZ hZ fr fl hh q
  · exact HandSPX.againZ fl hh.2.2.2 (q s.heap hh (Heap.UpToSlots.refl _))
/-- what a comprehension's block leaves behind: its list, or an exception that goes on -/
def BlkP (M : Model) (A : Around) (E : Value → Shared → Prop) (Q : Value → Shared → Prop) (acc : Value) (ce : Env) : Result → Shared → Prop
  | .ok _, s' => ∃ m, s'.heap.Ns ce.locals m ∧ ∀ h', Heap.SameBut ce.locals s'.heap h' → Q acc { s' with heap := h' }
  | .error u, s' => ∃ m, s'.heap.Ns ce.locals m ∧ ∀ h' m', h'.Ns ce.locals m' → Heap.SameBut ce.locals s'.heap h' →
      wpAny M A (PySem.passOn "comprehension.variables-let-go" u ce : Sem Value) Q E { s' with heap := h' }
/-- a comprehension whose block may end by an exception -/
theorem comp_out {e : Expr} {scope : Scope} {pos : Pos} {env : Env} {newAcc first : Sem Value} {g : Comprehension} {gs : List Comprehension} {cl : List (Str × Addr)} {Q : Value → Shared → Prop}
    (hc : clausesOf e = g :: gs) (hf : ∀ x, foldedSetIterable g.iter env x = pure x) (hcl : closureFor scope env = pure cl) (hk : scope.kind = .function)
    (hn : ∀ y ∈ scope.names, y.2 = .local → scope.names.lookup y.1 = some .local)
    (h : wpAny M A first (fun x s1 => wpAny M A (pyIter x) (fun it s2 => wpAny M A newAcc (fun acc s3 =>
      wpAny M A (newFunctionEnv scope env.globals cl [] env.qual none .none (some env)) (fun ce s4 =>
        codeAny M A (.compStart e 0 it acc { ce with scope := relabel scope env }) (BlkP M A E Q acc { ce with scope := relabel scope env }) s4) E s3) E s2) E s1) E s) :
    wpAny M A (comprehension e scope env
      pos newAcc false first) Q E s := by
  unfold comprehension
  rw [hcl, hc]
  have id' : ∀ (x : Value) (s' : Shared), E x s' → E x s' := fun _ _ z => z
  refine wpAny_bind (wpAny_mono h (fun x s1 h1 => ?_) id')
  refine wpAny_bind (wpAny_standAt (wpAny_bind (wpAny_of_eq (hf x) (wpAny_bind (wpAny_holding (wpAny_mono h1 (fun it s2 h2 => ?_) id'))))))
  refine wpAny_standIf (wpAny_bind (wpAny_mono h2 (fun acc s3 h3 => ?_) id'))
  refine wpAny_bind (wpAny_pure (wpAny_bind (wpAny_mono h3 (fun ce s4 h4 => ?_) id')))
  dsimp only
  have lo : ∀ y ∈ (scope.names.filter fun y => (y.2 == .local || y.2 == .cell) && y.1 != (".0" : Str)).reverse, y.2 = .local → Env.kindOf { ce with scope := relabel scope env } y.1 = some .local :=
    fun y hy l => lookup_relabel_local (hn y (List.mem_filter.mp (List.mem_reverse.mp hy)).1 l)
  refine wpAny_holding (wpAny_bind (wpAny_attempt (wpAny_holding (wpAny_run (codeAny_mono h4 fun r s5 hr => ?_)))))
  cases r with
  | ok f =>
    obtain ⟨m, n5, q5⟩ := hr
    exact wpAny_bind (wpAny_holding (wpAny_comp_letGo (cenv := { ce with scope := relabel scope env }) hk _ s5 m lo n5 fun h6 m6 _ b6 => wpAny_pure (q5 h6 b6)))
  | error u =>
    obtain ⟨m, n5, q5⟩ := hr
    exact wpAny_bind (wpAny_holding (wpAny_comp_letGo (cenv := { ce with scope := relabel scope env }) hk _ s5 m lo n5 fun h6 m6 n6 b6 => q5 h6 m6 n6 b6))
end
section
variable {X : Cx} {pins : List (Addr × Obj)} {σ : L2.St} {H : Hp} {s : Shared} {E : XK}
/-- an exception that a call lets out within a comprehension's block goes on from the def -/
theorem block_out (hs : X.stack = X.env :: X.outer) (hf : X.env.frame = some X.env.locals) (tk : Takes X (fun cls d _ H => E cls d H)) {C : Addr} {m : Str → Option Value} {ce : Env} (hce : ce.frame = X.env.frame) (hcl : ce.locals = C)
    (I : Inv X pins σ H s) (fC : FpOk X pins H C) (nC : s.heap.Ns C m) {Q : Value → Shared → Prop} {acc u : Value} {s' : Shared} (c : CX X.prog X.w X.stack H s E u s') :
    notedBy (model X.prog X.w) X.A ce (fun e s1 => BlkP (model X.prog X.w) X.A X.xe Q acc ce (.error e) s1) u s' := by
  obtain ⟨c1, c2, c3, c4, c5, c6⟩ := fC
  obtain ⟨oC, es, ep, hoC, hdC, rest⟩ := id nC
  have ntC : ∀ vs, oC.data ≠ .fields vs := fun vs z => by rw [hdC] at z; cases z
  have out : C ∉ frs X.stack := fun z => by
    rcases List.mem_cons.mp (I.stkSub C z) with q | q
    · exact c2 q
    · exact c3 q
  obtain ⟨a, B0, H0, cls0, d0, rfl, fl0, hok, ub, na0, os0, ag0, hE⟩ := c
  have stC : s'.heap.get? C = some oC := fl0.1 C oC (ub.keep C oC hoC c1 out)
  have c' : CX X.prog X.w X.stack H s (fun cls d H' => E cls d H' ∧ H' C = none) (.ref a) s' := ⟨a, B0, H0, cls0, d0, rfl, fl0, hok, ub, na0, os0, ag0, hE, ub.free C oC hoC c1⟩
  clear fl0 hok ub na0 os0 ag0 hE
  have x := XE.of_call (W := fun cls d _ H => E cls d H ∧ H C = none) I (fun _ _ _ h => h) c'
  obtain ⟨a', B, sI, ps, τ, G, cls, d, ea, J, nb, up, sky, na, os, ag, w, gC⟩ := x
  cases ea
  have frE : X.A.frames = some (X.env :: X.outer) := by rw [I.ok.frames, hs]
  rw [hs] at sky
  have same : noteFrame (.ref a) ce = noteFrame (.ref a) X.env := by
    unfold noteFrame PySem.frameOf
    rw [hce]
  show wpAny _ _ (noteFrame (.ref a) ce) _ _ _
  rw [same]
  refine sky_noted Zc.steady frE hf sky fun h1 hh up1 => ?_
  obtain ⟨sl, e1⟩ := up1 C oC stC ntC
  refine ⟨m, by rw [hcl]; exact ⟨_, es, ep, e1, hdC, rest⟩, fun h2 m2 n2 b2 => ?_⟩
  rw [hcl] at n2 b2
  have b3 : ∀ b, b ≠ C → h2.get? b = h1.get? b := fun b hb => b2.2 b hb
  obtain ⟨k1, k2, k3, oe, vs, T, oT, ts, he, hz, hd, hv, hnT, hTe, hT, hdT, hts⟩ := id hh
  have aC : a ≠ C := fun z => by
    rw [z, e1] at he
    rw [← Option.some.inj he] at hd
    exact ntC vs hd
  have TC : T ≠ C := fun z => by
    rw [z, e1] at hT
    rw [← Option.some.inj hT] at hdT
    exact ntC ts hdT
  have nB : ∀ b, B.get? b = none → (PySem.W.hideAll B [C]).get? b = none := fun b hb => by
    cases q : (PySem.W.hideAll B [C]).get? b with
    | none => rfl
    | some o => rw [PySem.W.of_hideAll _ q] at hb; cases hb
  have away : ∀ {h : Heap} {b : Addr} {o : Obj}, (PySem.W.hideAll h [C]).get? b = some o → b ≠ C := fun {h b o} q z => by
    rw [z, PySem.W.hideAll_none _ (by simp)] at q; cases q
  have held : HandSPX.HeldZ (PySem.W.hideAll B [C]) (X.env :: X.outer) a (Zc cls d) X.env.locals h2 :=
    ⟨fun b o q => (b3 b (away q)).trans (k1 b o (PySem.W.of_hideAll _ q)), nB a k2,
      funFrames_none (Heap.FunFrames.sameBut b2 n2 k3) (fun L hL => nB L (Heap.FunFrames.mem k3 hL).1),
      oe, vs, T, oT, ts, (b3 a aC).trans he, hz, hd, hv, nB T hnT, hTe, (b3 T TC).trans hT, hdT, hts⟩
  unfold PySem.passOn
  refine wpAny_bind (wpAny_field ((b3 a aC).trans he) hd hv ?_)
  have noT : ¬ ((Value.ref T == Value.none) = true) := by simp
  rw [if_neg noT]
  have fin : wpAny (model X.prog X.w) X.A (setFlight (.ref a) ce.frame) (fun _ s4 => wpAny (model X.prog X.w) X.A (throw (.ref a) : Sem Value) Q X.xe s4) X.xe { s' with heap := h2 } := by
    rw [hce, hf]
    refine HandSPX.setFlight_onZ held fun h4 hh4 up4 => wpAny_throw (tk _ _ ?_)
    have J1 : Inv X [] τ G sI := Inv.unpinned (pins := []) (pl := ps) J
    have J2 : Inv X [] τ G { sI with heap := PySem.W.hideAll sI.heap [C] } :=
      J1.turned (t' := sI.toks) (it := C) (fun b o hb q => PySem.W.hideAll_get _ q (by simp [hb])) gC c2 c4 c5 (fun p hp => c6 p (by rw [List.append_nil] at hp; exact List.mem_append_left _ hp))
    refine ⟨a, PySem.W.hideAll B [C], _, [], τ, G, cls, d, rfl, J2, fun b o q hb => ?_, fun b o q nf => ?_, .inr (.inr (by rw [hs]; exact hh4)), na, os, ag, w⟩
    · exact PySem.W.hideAll_get _ (nb b o (PySem.W.of_hideAll _ q) hb) (by simp [away q])
    · obtain ⟨l1, q1⟩ := up b o (PySem.W.of_hideAll _ q) nf
      obtain ⟨l2, q2⟩ := up1 b _ q1 nf
      obtain ⟨l3, q3⟩ := up4 b _ ((b3 b (away q)).trans q2) nf
      exact ⟨l3, q3⟩
  first | exact wpAny_bind (wpAny_pure (wpAny_bind fin)) | exact wpAny_bind fin
end
section
variable {X : Cx}
/-- [elt for target in iter if ..] whose element may let an exception out by a call -/
theorem pe_lcE {elt tg iter : Expr} {ifs : List Expr} {scope : Scope} {own : List (Str × Nat)} {pos : Pos} {wi : TI} {g : TG} {tt : TT} {te : TE} {E : XK}
    (hs : X.stack = X.env :: X.outer) (hf : X.env.frame = some X.env.locals) (tk : Takes X (fun cls d _ H => E cls d H)) (calm : X.calm = true) (nd : X.N.Nodup) (it : PI X tg iter wi) (ok : BlkOk X.N X.env.scope scope own)
    (tgt : ∀ (s0 : Shared) (H0 : Hp) (C : Addr) (cl : List (Str × Addr)) (fp : List Addr), PG (X.blk s0 H0 scope (compEnvC scope cl C X.env) fp) tg g)
    (tst : ∀ (s0 : Shared) (H0 : Hp) (C : Addr) (cl : List (Str × Addr)) (fp : List Addr), PTs (X.blk s0 H0 scope (compEnvC scope cl C X.env) fp) ifs tt)
    (elm : ∀ (s0 : Shared) (H0 : Hp) (C : Addr) (cl : List (Str × Addr)) (fp : List Addr) (pn : List (Addr × Obj)) (xe : Value → Shared → Prop),
      (∀ σ, PassesAt (CX X.prog X.w) ((X.blk s0 H0 scope (compEnvC scope cl C X.env) fp).tr pn xe) σ E) → PE ((X.blk s0 H0 scope (compEnvC scope cl C X.env) fp).tr pn xe) elt te)
    (fold : ∀ x, foldedSetIterable iter X.env x = pure x := by intro _; rfl) : PE X (.ListComp elt [⟨tg, iter, ifs, 0⟩] scope pos) (tLc wi g tt te (own.map (·.2))) := by
  constructor
  intro pins s σ H Q I h
  rw [eval_ListComp]
  have cells : ∀ y ∈ scope.names, y.2 = .free → ∃ c, X.env.cells.lookup y.1 = some c := by
    intro y hy e
    exact (ok.free y hy e).elim (fun k => I.ok.has _ (.inl k)) (fun k => I.ok.has _ (.inr k))
  refine comp_out rfl fold (closure_ok cells) ok.kind (fun y hy e => by rw [ok.uniq y hy, e]) (thn (it.run pins s σ H _ I h) fun v1 s1 r1 => thn r1 fun v2 s2 r2 => ?_)
  obtain ⟨wk, fp, tn, J, H2, e2, I2, T, t2, f2, q⟩ := r2
  subst e2
  refine wpAny_newObj_type (newEnv_comp ?_)
    (by show 0 ≤ sizeLine; decide)
  generalize eD : s2.heap.objs.size = D
  have nD : H2 D = none := I2.hok.fresh (Nat.le_of_eq eD)
  obtain ⟨W, ⟨n0, w0⟩, turn⟩ := q D nD
  generalize e3 : ({ s2 with heap := s2.heap.push { cls := .type "list", data := .seq ([] : List Value).toArray } } : Shared) = s3
  have g3 : s3.heap = s2.heap.push { cls := .type "list", data := .seq ([] : List Value).toArray } := by rw [← e3]
  have up3 : ∀ b o, s2.heap.get? b = some o → s3.heap.get? b = some o := fun b o z => by rw [g3]; exact Heap.get?_push_of_some _ z
  have I3 : Inv X pins σ
      (upd H2 D (.lst [])) s3 := by
    have at_ : s3.heap.get? D = some { cls := .type "list", data := .seq ([] : List Value).toArray } := by rw [g3, ← eD]; exact Heap.get?_push_size _ rfl
    rw [← e3] at at_ up3 ⊢
    exact I2.laid (t' := s2.toks) up3 (Nat.le_of_eq eD) ⟨Nat.zero_le _, [], 0, .nil, at_⟩
  have f3 : ∀ b ∈ fp, FpOk X pins (upd H2 D (.lst [])) b ∧ b < s3.heap.objs.size := by
    intro b hb
    obtain ⟨o, z, _⟩ := T.obj _ _ t2 b hb
    have lt := Heap.lt_size z
    refine ⟨⟨?_, (f2 b hb).2⟩, Heap.lt_size (up3 b o z)⟩
    rw [upd_ne (fun w => by rw [w, ← eD] at lt; exact Nat.lt_irrefl _ lt)]
    exact (f2 b hb).1
  have t3 : tn 0 s3.heap := T.keep _ _ _ t2 fun b _ o z => up3 b o z
  have I4 := block_start I3 ok nd f3
  have p1 := tgt s3 (upd H2 D (.lst [])) s3.heap.objs.size (cellsFrom (s3.heap.objs.size + 1) scope.names (cloFrom X.env.cells scope.names [])) fp
  have p2 := tst s3 (upd H2 D (.lst [])) s3.heap.objs.size (cellsFrom (s3.heap.objs.size + 1) scope.names (cloFrom X.env.cells scope.names [])) fp
  have p3 := elm s3 (upd H2 D (.lst [])) s3.heap.objs.size (cellsFrom (s3.heap.objs.size + 1) scope.names (cloFrom X.env.cells scope.names [])) fp
  have out0 := fun {pins' σ' H' s'} (I' : Inv X pins' σ' H' s') (fC) (m) (nC) {u s''} c => block_out (Q := EP X pins σ Q) (acc := .ref D) (u := u) (s' := s'') (C := s3.heap.objs.size) (m := m)
    (ce := compEnvC scope (cellsFrom (s3.heap.objs.size + 1) scope.names (cloFrom X.env.cells scope.names [])) s3.heap.objs.size X.env) hs hf tk rfl rfl I' fC nC c
  show codeAny _ _ _ (BlkP (model X.prog X.w) X.A X.xe (EP X pins σ Q) (.ref D) (compEnvC scope (cellsFrom (s3.heap.objs.size + 1) scope.names (cloFrom X.env.cells scope.names [])) s3.heap.objs.size X.env)) _
  have free3 : ∀ b ∈ fp, (upd H2 D (.lst [])) b = none := fun b hb => (f3 b hb).1.1
  have eC : (compEnvC scope (cellsFrom (s3.heap.objs.size + 1) scope.names (cloFrom X.env.cells scope.names [])) s3.heap.objs.size X.env).locals = s3.heap.objs.size := rfl
  show codeAny _ _ (.compStart _ 0 (.ref wk) (.ref D) (compEnvC scope (cellsFrom (s3.heap.objs.size + 1) scope.names (cloFrom X.env.cells scope.names [])) s3.heap.objs.size X.env)) _ _
  generalize compEnvC scope (cellsFrom (s3.heap.objs.size + 1) scope.names (cloFrom X.env.cells scope.names [])) s3.heap.objs.size X.env = ce at I4 p1 p2 p3 out0 eC ⊢
  generalize upd H2 D (.lst []) = H3 at I3 I4 p1 p2 p3 w0 free3 f3
  generalize e4 : ({ s3 with heap := pushCells (s3.heap.push { cls := .type "dict", data := .dict #[] }) scope.names } : Shared) = s4 at I4
  have t4 : tn 0 s4.heap := T.keep _ _ _ t3 fun b _ o z => by
    rw [← e4]
    exact pushCells_keeps _ _ _ _ (Heap.get?_push_of_some _ z)
  -- what is seen of the block's end from the def
  have home : ∀ {ps : List (Addr × Obj)} {τ : L2.St} {G : Hp} {s' : Shared}, Inv (X.blk s3 H3 scope ce fp) ps τ G s' → Inv X pins σ G s' ∧ FpOk X pins G s3.heap.objs.size ∧ ∃ m, s'.heap.Ns s3.heap.objs.size m := by
    intro ps τ G s' I'
    have nC : G ce.locals = none := I'.free
    obtain ⟨m, hm, _⟩ := I'.loc
    have hm' : s'.heap.Ns ce.locals m := hm
    rw [eC] at nC hm'
    exact ⟨I3.call' (ch := fp) I'.os I'.base I'.hok I'.bare (fun b hb => by
      obtain ⟨⟨_, a1, _, a3, a4, a5⟩, _⟩ := f3 b hb
      exact ⟨a3, a1, a4, a5⟩), I3.fpOk (Nat.le_refl _) nC, m, hm'⟩
  have fpb : ∀ {τ : L2.St} {G : Hp} {s' : Shared}, Inv (X.blk s3 H3 scope ce fp) [] τ G s' → (∀ b ∈ fp, G b = none) → ∀ b ∈ fp, FpOk (X.blk s3 H3 scope ce fp) [] G b := by
    intro τ G s' I' hn b hb
    refine ⟨hn b hb, (I'.ok.exf b hb).1, I'.ok.exfs b hb, .inl hb, fun y c z => (I'.ok.exf b hb).2 y c z, fun p hp => ?_⟩
    have hp' : p ∈ ([] : List (Addr × Obj)) ++ [] := hp
    simp at hp'
  have loop : codeAny (model X.prog X.w) X.A (.compLoop (.ListComp elt [⟨tg, iter, ifs, 0⟩] scope pos) 0 (.ref wk) (.ref D) ce) (BlkP (model X.prog X.w) X.A X.xe (EP X pins σ Q) (.ref D) ce) s4 := by
    refine compLoop_any (fun n s' => ∃ i G, Inv (X.blk s3 H3 scope ce fp) [] (wipe σ (own.map (·.2))) G s' ∧ tn i s'.heap ∧ (∀ b ∈ fp, G b = none) ∧ W i n G) ?_ n0 ⟨0, H3, I4, t4, free3, w0⟩
    rintro n s5 ⟨i, G5, I5, t5, n5, w5⟩
    rcases turn i n G5 w5 with ⟨stop, fine⟩ | ⟨go, Nx, less, step⟩
    · -- the walk's end
      refine thnF (T.done (X.blk s3 H3 scope ce fp) rfl rfl rfl calm i [] s5 _ G5 (fun _ _ => False) I5 (fpb I5 n5) t5 stop) fun r s6 ⟨er, I6⟩ => ?_
      subst er
      obtain ⟨J6, ⟨c1, c2, _, c4, c5, c6⟩, m, hm⟩ := home I6
      rw [← eC] at c1 c2 c4 c5 c6 hm
      exact ⟨m, hm, fun h7 b7 => ⟨.ref D, G5, J6.turned (t' := s6.toks) (fun b o hb z => (b7.2 b hb).trans z) c1 c2 c4 c5 c6, rfl, fine⟩⟩
    · -- one turn
      refine thnF (T.item (X.blk s3 H3 scope ce fp) rfl rfl rfl calm i [] s5 _ G5 (fun _ _ => False) I5 (fpb I5 n5) t5 go) fun r s6 ⟨u, er, q6⟩ => ?_
      subst er
      refine thnF q6 fun _ s7 ⟨x, G7, I7, r7, y7, t7, n7⟩ => ?_
      refine thnF (p1.run _ s7 _ G7 x u _ (I7.pinned (fpb I7 n7) (T.obj _ _ t7)) r7 (step x G7 y7)) fun _ s8 ⟨σ8, G8, I8, ew, q8⟩ => ?_
      refine thnF (p2.run _ s8 σ8 G8 _ I8 q8) fun b s9 ⟨G9, I9, q9⟩ => ?_
      have last : ∀ {s' : Shared} {G : Hp}, Inv (X.blk s3 H3 scope ce fp) ([] ++ pinsAt fp s7.heap) σ8 G s' → Nx G → ∃ m, m < n ∧ ∃ i G, Inv (X.blk s3 H3 scope ce fp) [] (wipe σ (own.map (·.2))) G s' ∧ tn i s'.heap ∧ (∀ b ∈ fp, G b = none) ∧ W i m G := by
        intro s' G I' nx
        obtain ⟨m, lt, w'⟩ := less G nx
        have here : ∀ b ∈ fp, ∀ o, s7.heap.get? b = some o → s'.heap.get? b = some o ∧ G b = none := fun b hb o z => by
          have := I'.pin (b, o) (List.mem_append_right _ (List.mem_append_right _ (mem_pinsAt hb z)))
          exact ⟨this.1, this.2.1⟩
        have el : (wipe σ (own.map (·.2))).length = σ8.length := by rw [← ew, wipe_length]
        refine ⟨m, lt, i + 1, G, (I'.unpinned (pins := [])).weak el (fun j v z => ?_), T.keep _ _ _ t7 (fun b hb o z => (here b hb o z).1), fun b hb => ?_, w'⟩
        · rw [← ew] at z
          exact (wipe_some z).1
        · obtain ⟨o, z, _⟩ := T.obj _ _ t7 b hb
          exact (here b hb o z).2
      cases b with
      | false =>
        rw [if_neg (by decide)] at q9 ⊢
        exact last I9 q9
      | true =>
        rw [if_pos rfl] at q9 ⊢
        have p3' := p3 ([] ++ ([] ++ pinsAt fp s7.heap)) (notedBy (model X.prog X.w) X.A ce fun e s' => BlkP (model X.prog X.w) X.A X.xe (EP X pins σ Q) (.ref D) ce (.error e) s') (fun τ ps G s' e s'' I' c => by
          have I'' := Inv.ofTry (pins := [] ++ pinsAt fp s7.heap) I' I9.ok
          obtain ⟨J', fC, m, hm⟩ := home I''
          exact out0 J' fC m hm c)
        refine wpAny_mono (p3'.run [] s9 σ8 G9 _ (I9.toTry _) q9) (fun z s10 ⟨y, G10, I10, r10, acc, e10, l10, nx⟩ => ?_) (fun _ _ z => z)
        have I10' := Inv.ofTry (pins := [] ++ pinsAt fp s7.heap) I10 I9.ok
        exact app_ok (X := X.blk s3 H3 scope ce fp) I10' e10 l10 r10 fun s11 I11 => last I11 nx
  exact codeAny_compStart_list loop (T.self X.A 0 _ _ _ t4 loop)
end
end XL
namespace XL
open PySem PySem.Spec PyProof.Rows L2
abbrev sCr : Stmt := topS 19
abbrev sCi : Stmt := topS 21
/-- a canal's own row read -/
def head2 : List Nat → Option (Nat × Nat)
  | [r, b] => if r = 0 ∨ b = 0 then none else some (r, b)
  | _ => none
def headIn (line : Option (List Nat)) : Option (Nat × Nat) :=
  match rowIn line (TL.tl (Str.ofString "canal")) 2 with
  | none => none
  | some ns => head2 ns
/-- the locks' rows read: the first that isn't one, or the locks -/
def gatesIn (r b : Nat) : List (List Nat) → Nat → Except Nat (List Lk)
  | [], _ => .ok []
  | l :: ls, i => match gateIn r b (some l) with
    | none => .error i
    | some g => match gatesIn r b ls (i + 1) with
      | .error j => .error j
      | .ok gs => .ok (g :: gs)
def readC (ls : List (List Nat)) : Except Nat Cn :=
  match headIn ls[0]? with
  | none => .error 0
  | some (r, b) => match gatesIn r b (ls.drop 1) 1 with
    | .error j => .error j
    | .ok gs => .ok ⟨(r : Nat), (b : Nat), gs⟩
def readT (t : List Nat) : Except Nat Cn := readC (TL.spl [10] 0 [] t)
theorem gatesIn_ok {r b : Nat} : ∀ {ls : List (List Nat)} {i : Nat} {gs : List Lk}, gs.length = ls.length → (∀ j (h : j < ls.length), gateIn r b ls[j]? = gs[j]?) → gatesIn r b ls i = .ok gs
  | [], _, [], _, _ => rfl
  | [], _, _ :: _, h, _ => by simp at h
  | _ :: _, _, [], h, _ => by simp at h
  | l :: ls, i, g :: gs, h, hg => by
    have h0 := hg 0 (by simp)
    have ht := gatesIn_ok (r := r) (b := b) (ls := ls) (i := i + 1) (gs := gs) (by simpa using h) fun j hj => by have := hg (j + 1) (by simpa using hj); simpa using this
    unfold gatesIn
    rw [show gateIn r b (some l) = some g by simpa using h0]
    dsimp only
    rw [ht]
theorem gatesIn_err {r b : Nat} : ∀ {ls : List (List Nat)} {i j : Nat}, j < ls.length → (∀ k, k < j → ∃ g, gateIn r b ls[k]? = some g) → gateIn r b ls[j]? = none → gatesIn r b ls i = .error (i + j)
  | [], _, _, h, _, _ => by simp at h
  | l :: ls, i, 0, _, _, hn => by
    unfold gatesIn
    rw [show gateIn r b (some l) = none by simpa using hn]
    rfl
  | l :: ls, i, j + 1, h, hk, hn => by
    obtain ⟨g, hg⟩ := hk 0 (by omega)
    have ht := gatesIn_err (r := r) (b := b) (ls := ls) (i := i + 1) (j := j) (by rw [List.length_cons] at h; omega) (fun k h' => by have := hk (k + 1) (by omega); simpa using this) (by simpa using hn)
    unfold gatesIn
    rw [show gateIn r b (some l) = some g by simpa using hg]
    dsimp only
    rw [ht]
    rw [show i + 1 + j = i + (j + 1) by omega]
theorem dpall {K : PySem.W.Frag} {H : Hp} : ∀ {zs : List V} {ds : List PyData}, zs.length = ds.length → (∀ (i : Nat) z, zs[i]? = some z → ∃ d, ds[i]? = some d ∧ Dp K H z d) → DpAll K H zs ds
  | [], [], _, _ => .nil
  | [], _ :: _, h, _ => by simp at h
  | _ :: _, [], h, _ => by simp at h
  | z :: zs, d :: ds, h, hd => by
    obtain ⟨d', e1, e2⟩ := hd 0 z rfl
    obtain rfl : d = d' := Option.some.inj e1
    exact .cons e2 (dpall (by simpa using h) fun i z' hz => by simpa using hd (i + 1) z' (by simpa using hz))
theorem pick_list {α β : Type} : ∀ {xs : List α} {R : Nat → α → β → Prop}, (∀ i x, xs[i]? = some x → ∃ y, R i x y) → ∃ ys : List β, ys.length = xs.length ∧ ∀ i x, xs[i]? = some x → ∃ y, ys[i]? = some y ∧ R i x y
  | [], _, _ => ⟨[], rfl, fun i x h => by simp at h⟩
  | x :: xs, R, h => by
    obtain ⟨y, hy⟩ := h 0 x rfl
    obtain ⟨ys, hl, hs⟩ := pick_list (xs := xs) (R := fun i x y => R (i + 1) x y) fun i z hz => h (i + 1) z (by simpa using hz)
    refine ⟨y :: ys, by rw [List.length_cons, hl, List.length_cons], fun i z hz => ?_⟩
    cases i with
    | zero => cases hz; exact ⟨y, rfl, hy⟩
    | succ i =>
      obtain ⟨u, h1, h2⟩ := hs i z (by simpa using hz)
      exact ⟨u, by simpa using h1, h2⟩
section
variable {P : Program} {w : World} {K : PySem.W.Frag} {mg : Str → Option Value} {base : Heap}
abbrev nCr : List Str := ["rows", "reds", "blues", "at"]
theorem scCr : FnScope nCr ["rows"] (defScope sCr) := ⟨rfl, rfl, rfl, by decide +kernel, rfl, by decide +kernel, by decide +kernel⟩
def spCr (K : PySem.W.Frag) (CR : Addr) : Sp := fun vs H Q E => ∃ (g : Addr) (ys : List Str), vs = [.ref g] ∧ SqL K H g (ys.map V.str) ∧ (∀ y ∈ ys, y.length ≤ 100000 ∧ Asc y) ∧ 1 ≤ ys.length ∧ ys.length ≤ 100000 ∧
  (∀ (i : Nat) (dd : Addr) (H' : Hp), readC (ys.map TL.tl) = .error i → Same H H' → H' dd = some (.xd [("at", .int (i : Nat))]) → E (.ref CR) (some dd) H') ∧
  (∀ (c : Cn) (p : Addr) (H' : Hp), readC (ys.map TL.tl) = .ok c → Same H H' → Dp K H' (.ref p) (cnD c) → Q (.ref p) H')
theorem ok_cr {f fn fi fR CR : Addr} {fd fdn fdi fdR : FuncData} {k : Nat} (F : Fun K "canal_rows" "canal_rows" sCr f fd) (Rn : FnX P w K mg base (k + 2) "row_numbers" ["rows", "at", "word", "many"] (spRn K CR) fn fdn) (Lr : FnX P w K mg base (k + 2) "lock_row" ["rows", "at", "reds", "blues"] (spLr K CR) fi fdi) (TR : Er P w K mg base "BadRow" 0 CR fR fdR ["self", "at"] (spI CR "at")) (m_len : mg "len" = none) (m_range : mg "range" = none) (m_tuple : mg "tuple" = none) : FnOk P w K mg base (L2.CX P w) (k + 2 + 1) f fd ["rows"] (spCr K CR) := by
  refine F.okX scCr (fun vs H Q E h => ?_) (fun cdv A outer s0 H vs Q E hr h => ?_)
  · obtain ⟨g, ys, rfl, _⟩ := h
    rfl
  obtain ⟨g, ys, rfl, ha, hy, h1, hn, qe, qs⟩ := h
  have hrB : Room (1 + 1) _ := hr.mono (by omega)
  have FR := TR.ok
  have bR := TR.bi
  refine ⟨_, (pss_cons (ps_asg (pe_callS Rn.ok hr rfl Rn.g Rn.k Rn.b (fun σ => passAt (takes_of rfl rfl rfl rfl) σ) (pa_cons (pv 0) (pa_cons pe_int (pa_cons pe_str (pa_cons pe_int pa_nil))))) (pg_any rfl (pgs_cons (pg_name (i := 1) scCr.nd rfl (.inr rfl)) (pgs_cons (pg_name (i := 2) scCr.nd rfl (.inr rfl)) pgs_nil))))
    (pss_cons (ps_if (PW.pt (pw_or (pt_cmpR op_eq (pv 1) pe_int (nomark _)) (pw_or1 (pt_cmpR op_eq (pv 2) pe_int (nomark _))))) (pss_one (ps_raise rfl (takes_of rfl rfl rfl rfl) (pmk_ex TR.ex TR.ty TR.ini TR.tI FR hrB bR rfl TR.g (pa_cons pe_int pa_nil)))) pss_nil)
    (pss_one (ps_ret (pe_tup (pa_cons (pv 1) (pa_cons (pv 2) (pa_cons (pe_callTy (r := rTupA K) call_tupleA rfl m_tuple boot_tuple (pa_cons (pe_lcE rfl rfl (takes_of rfl rfl rfl rfl) (own := [("at", 3)]) (g := gName 3) (tt := tYes) rfl scCr.nd (pi_range2 rfl m_range (pa_cons pe_int (pa_cons (pe_callB (r := rLenA K) call_lenA rfl m_len PySem.boot_len (pa_cons (pv 0) pa_nil)) pa_nil))) (blkOk_by (own := [("at", 3)]) (N := nCr) (sc := defScope sCr) (by decide +kernel)) (fun _ _ _ _ _ => (pg_name (i := 3) scCr.nd rfl (.inl rfl))) (fun _ _ _ _ _ => pts_nil) (fun _ _ _ _ _ _ _ hp => pe_hide (pe_callS Lr.ok hr rfl Lr.g Lr.k Lr.b hp (pa_cons (pv 0) (pa_cons (pv 3) (pa_cons (pv 1) (pa_cons (pv 2) pa_nil))))))) pa_nil)) pa_nil)))))))), ?_⟩
  have w1 : Asc (Str.ofString "canal") := by intro c hc; revert c; decide +kernel
  have lk : ∀ i : Nat, (ys[i]?).map TL.tl = (ys.map TL.tl)[i]? := fun i => by rw [List.getElem?_map]
  have r_none : rowIn (ys.map TL.tl)[0]? (TL.tl (Str.ofString "canal")) 2 = none → readC (ys.map TL.tl) = .error 0 := fun h => by unfold readC headIn; rw [h]
  have r_zero : ∀ r b, rowIn (ys.map TL.tl)[0]? (TL.tl (Str.ofString "canal")) 2 = some [r, b] → (r = 0 ∨ b = 0) → readC (ys.map TL.tl) = .error 0 := fun r b h z => by
    unfold readC headIn; rw [h]; dsimp only; rw [show head2 [r, b] = none from if_pos z]
  have r_gs : ∀ r b, rowIn (ys.map TL.tl)[0]? (TL.tl (Str.ofString "canal")) 2 = some [r, b] → ¬ (r = 0 ∨ b = 0) → readC (ys.map TL.tl) = (match gatesIn r b ((ys.map TL.tl).drop 1) 1 with | .error j => .error j | .ok gs => .ok ⟨(r : Nat), (b : Nat), gs⟩) := fun r b h z => by
    unfold readC headIn; rw [h]; dsimp only; rw [show head2 [r, b] = some (r, b) from if_neg z]
  refine ⟨_, rfl, cons_c (cons_c (cons_c (nil_go ⟨g, ys, 0, 2, _, rfl, ha, hy, hn, w1, fun dd H1 hno s1 e1 => qe 0 dd H1 (r_none (by rw [← lk, hno])) s1 e1, fun ns p H1 hok s1 np1 e1 => ?_⟩)))⟩
  rw [lk] at hok
  have hl := rowIn_leq hok
  match ns, hl with
  | [r, b], _ =>
  refine ⟨p, _, rfl, .inr (.inl (.inl e1)), rfl, _, _, rfl, _, _, rfl, rfl, ?_⟩
  refine at_s (σ' := [some (.ref g), some (.int (r : Nat)), some (.int (b : Nat)), none]) rfl ?_
  have bad : (r = 0 ∨ b = 0) → ∀ a, H1 a = none → spI CR (Str.ofString "at") [V.ref a, .int 0] (upd H1 a (exo a CR none)) (fun v H2 => v = V.non ∧ ∃ d fs, H2 a = some (exo a CR (some d)) ∧ H2 d = some (exd d fs) ∧ H1 d = none ∧ E (Value.ref CR) (some d) (upd (del H2 a) d (HO.xd fs))) E0 := fun z a na => by
    refine ⟨a, .int 0, rfl, upd_same, fun dx nx nxa => ⟨rfl, dx, [("at", .int 0)], upd_same, by rw [upd_ne nxa, upd_same], by rw [upd_ne nxa] at nx; exact nx, ?_⟩⟩
    have nx' : H1 dx = none := by rw [upd_ne nxa] at nx; exact nx
    rw [del_upd' na nxa]
    exact qe 0 dx _ (r_zero r b hok z) (s1.trans (same_new nx')) upd_same
  refine ⟨_, rfl, rfl, _, rfl, ?_⟩
  rw [show decide (V.int ((r : Nat) : Int) = V.int 0) = decide (r = 0) from dec_int' r 0]
  by_cases r0 : r = 0
  · rw [decide_eq_true r0]
    exact iteT (iteT (cons_c (nil_go ⟨(by show 1 ≤ 1000; decide), fun a na => bad (.inl r0) a na⟩)))
  rw [decide_eq_false r0]
  refine iteF ⟨_, rfl, rfl, _, rfl, ?_⟩
  rw [show decide (V.int ((b : Nat) : Int) = V.int 0) = decide (b = 0) from dec_int' b 0]
  by_cases b0 : b = 0
  · rw [decide_eq_true b0]
    exact iteT (cons_c (nil_go ⟨(by show 1 ≤ 1000; decide), fun a na => bad (.inr b0) a na⟩))
  rw [decide_eq_false b0]
  have rg := r_gs r b hok (fun z => z.elim r0 b0)
  have ls : (ys.map TL.tl).drop 1 = (ys.drop 1).map TL.tl := by rw [List.map_drop]
  have lk1 : ∀ j : Nat, ((ys.map TL.tl).drop 1)[j]? = (ys[1 + j]?).map TL.tl := fun j => by rw [List.getElem?_drop, List.getElem?_map]
  have ll : ((ys.map TL.tl).drop 1).length = ys.length - 1 := by rw [List.length_drop, List.length_map]
  refine iteF ⟨_, rfl, _, rfl, ?_⟩
  refine ⟨_, rfl, nil_go ⟨g, _, rfl, .inl (s1.seq ha), nil_go ⟨1, _, rfl, ⟨by decide, by decide, by rw [List.length_map]; omega, by rw [List.length_map]; omega⟩, ?_⟩⟩⟩
  rw [List.length_map]
  refine lc_mapR walk_range Same (fun a b => a.trans b) (fun i z F => ∃ l q, gateIn r b ((ys[1 + i]?).map TL.tl) = some l ∧ z = .ref q ∧ F q = some (.tup (endsV l))) (fun i y A B s ⟨l, q, h1, h2, h3⟩ => ⟨l, q, h1, h2, s _ _ h3⟩) (by rw [sizeLine_eq]; omega) (Same.refl _) (fun _ _ _ _ _ => trivial) (fun j x D acc F H' hj nD sF nF hy2 hal hacc B hB => ?_) (fun D zs F nD sF nF hl2 hR => ?_)
  · obtain ⟨rfl, rfl⟩ := hy2
    have hj' : j < ys.length - 1 := by omega
    refine hB _ F rfl nF fun Qt hq => ?_
    have ej : (1 + (j : Int)) = ((1 + j : Nat) : Int) := by omega
    refine ⟨_, rfl, _, rfl, _, rfl, _, rfl, nil_go ⟨g, ys, 1 + j, r, b, by rw [← ej], (s1.trans sF).seq ha, hy, hn, fun dd H2 hno s2 e2 => ?_, fun l q H2 hok2 s2 nq e2 => hq _ _ s2 ⟨l, q, hok2, rfl, e2⟩⟩⟩
    refine qe (1 + j) dd H2 ?_ (s1.trans (sF.trans s2)) e2
    rw [rg, gatesIn_err (j := j) (by rw [ll]; exact hj') (fun k hk => ?_) (by rw [lk1]; exact hno)]
    obtain ⟨y, ey⟩ : ∃ y, acc[k]? = some y := ⟨_, List.getElem?_eq_getElem (by omega)⟩
    obtain ⟨l, q, h1, _⟩ := hacc k y ey
    exact ⟨l, by rw [lk1]; exact h1⟩
  · have hl2' : zs.length = ys.length - 1 := by omega
    obtain ⟨gs, egl, hgs⟩ := pick_list (R := fun i z l => ∃ q, gateIn r b ((ys[1 + i]?).map TL.tl) = some l ∧ z = V.ref q ∧ F q = some (.tup (endsV l))) hR
    have rdok : readC (ys.map TL.tl) = .ok ⟨(r : Nat), (b : Nat), gs⟩ := by
      rw [rg, gatesIn_ok (gs := gs) (by rw [ll, egl, hl2']) (fun j hj3 => ?_)]
      obtain ⟨z, ez⟩ : ∃ z, zs[j]? = some z := ⟨_, List.getElem?_eq_getElem (by omega)⟩
      obtain ⟨l, h1, q, h2, _⟩ := hgs j z ez
      rw [lk1, h2, h1]
    have s2 := s1.trans (sF.trans (same_new nF (o := .lst zs)))
    have hz : DpAll K (upd F D (.lst zs)) zs (gs.map lkD) := dpall (by rw [List.length_map, egl]) fun i z hz => by
      obtain ⟨l, h1, q, _, rfl, h3⟩ := hgs i z hz
      exact ⟨lkD l, by rw [List.getElem?_map, h1]; rfl, dp_lk (.inl (.inl (same_new nF _ _ h3)))⟩
    refine nil_go ⟨D, zs, rfl, .inl ⟨SqL.of upd_same, fun t nt => nil_go ⟨(by show 3 ≤ sizeLine; decide), fun p3 np3 => ?_⟩⟩⟩
    generalize upd F D (.lst zs) = G at s2 hz nt np3
    have s3 := same_new nt (o := .tup zs)
    have s4 := same_new np3 (o := .tup [.int (r : Nat), .int (b : Nat), .ref t])
    have et := s4 _ _ (show (upd G t (.tup zs)) t = some (.tup zs) from upd_same)
    exact qs _ p3 _ rdok (s2.trans (s3.trans s4)) (.tup (.inl (.inl upd_same)) (.cons (.int _) (.cons (.int _) (.cons (.tup (.inl (.inl et)) (DpAll.same (s3.trans s4) _ hz)) .nil))))
end
end XL
namespace XL
open PySem PySem.Spec PyProof.Rows L2
theorem spl_pos (S : List Nat) : ∀ (t : List Nat) (k : Nat) (acc : List Nat), 1 ≤ (TL.spl S k acc t).length
  | [], k, acc => by cases k <;> exact Nat.le_refl _
  | c :: r, 0, acc => by
    unfold TL.spl
    split
    · rw [List.length_cons]; omega
    · exact spl_pos S r 0 _
  | _ :: r, k + 1, acc => by
    unfold TL.spl
    exact spl_pos S r k acc
section
variable {P : Program} {w : World} {K : PySem.W.Frag} {mg : Str → Option Value} {base : Heap}
abbrev nCi : List Str := ["text"]
theorem scCi : FnScope nCi ["text"] (defScope sCi) := ⟨rfl, rfl, rfl, by decide +kernel, rfl, by decide +kernel, by decide +kernel⟩
def spSi (K : PySem.W.Frag) (CR : Addr) : Sp := fun vs H Q E => ∃ (x : Str), vs = [.str x] ∧ x.length ≤ 90000 ∧ Asc x ∧
  (∀ (i : Nat) (dd : Addr) (H' : Hp), readT (TL.tl x) = .error i → Same H H' → H' dd = some (.xd [("at", .int (i : Nat))]) → E (.ref CR) (some dd) H') ∧
  (∀ (c : Cn) (p : Addr) (H' : Hp), readT (TL.tl x) = .ok c → Same H H' → Dp K H' (.ref p) (cnD c) → Q (.ref p) H')
theorem ok_si {f fn CR : Addr} {fd fdn : FuncData} {k : Nat} (F : Fun K "canal_in" "canal_in" sCi f fd) (Cr : FnX P w K mg base k "canal_rows" ["rows"] (spCr K CR) fn fdn) : FnOk P w K mg base (L2.CX P w) (k + 1) f fd ["text"] (spSi K CR) := by
  refine F.okX scCi (fun vs H Q E h => ?_) (fun cdv A outer s0 H vs Q E hr h => ?_)
  · obtain ⟨x, rfl, _⟩ := h
    rfl
  obtain ⟨x, rfl, hx, hA, qe, qs⟩ := h
  refine ⟨_, (pss_one (ps_ret (pe_callS Cr.ok hr rfl Cr.g Cr.k Cr.b (fun σ => passAt (takes_of rfl rfl rfl rfl) σ) (pa_cons (pe_split (pv 0) pe_str) pa_nil)))), ?_⟩
  have enl : ((Str.ofString "\n").length == 0) = false := by decide +kernel
  obtain ⟨hl1, hl2⟩ := lines_ok hx hA
  refine ⟨_, rfl, ⟨x, rfl⟩, x, _, rfl, rfl, enl, by rw [sizeLine_eq]; omega, fun L nL => ?_⟩
  have s1 := same_new nL (o := .lst ((Txt.split x (Str.ofString "\n")).map V.str))
  have eL : (upd H L (.lst ((Txt.split x (Str.ofString "\n")).map V.str))) L = some (.lst ((Txt.split x (Str.ofString "\n")).map V.str)) := upd_same
  generalize upd H L (.lst ((Txt.split x (Str.ofString "\n")).map V.str)) = H1 at s1 eL
  have one : 1 ≤ (Txt.split x (Str.ofString "\n")).length := by
    have e : (Txt.split x (Str.ofString "\n")).length = (TL.spl [10] 0 [] (TL.tl x)).length := by rw [← split_nl, List.length_map]
    rw [e]
    exact spl_pos _ _ _ _
  refine nil_go ⟨L, _, rfl, SqL.of eL, hl1, one, hl2, fun i dd H2 hi s2 e2 => ?_, fun c p H2 hok s2 hp => ?_⟩
  · rw [split_nl] at hi
    exact qe i dd H2 hi (s1.trans s2) e2
  · rw [split_nl] at hok
    exact qs c p H2 hok (s1.trans s2) hp
end
end XL
namespace XL
open PySem PySem.Spec PyProof.Rows L2
abbrev sCt : Stmt := topS 20
/-- a lock's four ends -/
def lk4 (l : Lk) : List Nat := [l.1.toNat, l.2.1.toNat, l.2.2.1.toNat, l.2.2.2.toNat]
/-- a canal's text -/
def txC (c : Cn) : Str := Txt.join (Str.ofString "\n") (rowT (Str.ofString "canal") [c.r.toNat, c.b.toNat] :: c.ls.map fun l => rowT (Str.ofString "lock") (lk4 l))
theorem lk4_v {r b : Int} {l : Lk} (h : okLk r b l) : endsV l = (lk4 l).map fun n => V.int (n : Nat) := by
  have e1 := Int.toNat_of_nonneg h.a0
  have e2 := Int.toNat_of_nonneg h.c0
  have e3 := Int.toNat_of_nonneg h.x0
  have e4 := Int.toNat_of_nonneg h.y0
  show [V.int _, V.int _, V.int _, V.int _] = [V.int _, V.int _, V.int _, V.int _]
  rw [e1, e2, e3, e4]
theorem lk4_lt {r b : Int} {l : Lk} (h : okLk r b l) (hr : r ≤ 100) (hb : b ≤ 100) : ∀ n ∈ lk4 l, n < 100 := fun n hn => by
  have := h.a0; have := h.a1; have := h.c0; have := h.c1; have := h.x0; have := h.x1; have := h.y0; have := h.y1
  simp only [lk4, List.mem_cons, List.not_mem_nil, or_false] at hn
  rcases hn with rfl | rfl | rfl | rfl <;> omega
theorem rowT_len {x : Str} {ns : List Nat} {m : Nat} (hl : ns.length ≤ m) (hn : ∀ n ∈ ns, n < 10 ^ 13) : (rowT x ns).length ≤ x.length + 14 * m + 1 := by
  have h := join_len (Str.ofString " ") (x :: ns.map numS)
  have e1 : (Str.ofString " ").length = 1 := by decide +kernel
  have e2 := sum_le (xs := (ns.map numS).map (·.length)) (b := 13) fun y hy => by
    obtain ⟨z, hz, rfl⟩ := List.mem_map.mp hy
    obtain ⟨n, hn', rfl⟩ := List.mem_map.mp hz
    exact numS_len (hn n hn')
  rw [List.length_map, List.length_map] at e2
  rw [List.map_cons, List.sum_cons, List.length_cons, List.length_map, e1] at h
  show (Txt.join _ _).length ≤ _
  omega
theorem head_len {c : Cn} (h : okCn 100 100 c) : (rowT (Str.ofString "canal") [c.r.toNat, c.b.toNat]).length ≤ 40 := by
  have e : (Str.ofString "canal").length = 5 := by decide +kernel
  have := rowT_len (x := Str.ofString "canal") (ns := [c.r.toNat, c.b.toNat]) (m := 2) (Nat.le_refl 2) fun n hn => by
    have := h.r2; have := h.b2
    simp only [List.mem_cons, List.not_mem_nil, or_false] at hn
    rcases hn with rfl | rfl <;> omega
  omega
theorem gate_len {c : Cn} {l : Lk} (h : okCn 100 100 c) (hl : l ∈ c.ls) : (rowT (Str.ofString "lock") (lk4 l)).length ≤ 61 := by
  have e : (Str.ofString "lock").length = 4 := by decide +kernel
  have := rowT_len (x := Str.ofString "lock") (ns := lk4 l) (m := 4) (Nat.le_refl 4) fun n hn => by
    have := lk4_lt (h.l l hl) h.r2 h.b2 n hn
    omega
  omega
theorem rows_sum {c : Cn} (h : okCn 100 100 c) : ((rowT (Str.ofString "canal") [c.r.toNat, c.b.toNat] :: c.ls.map fun l => rowT (Str.ofString "lock") (lk4 l)).map (·.length)).sum ≤ 40 + 61 * c.ls.length := by
  have h1 := head_len h
  have h2 := sum_le (xs := (c.ls.map fun l => rowT (Str.ofString "lock") (lk4 l)).map (·.length)) (b := 61) fun y hy => by
    obtain ⟨z, hz, rfl⟩ := List.mem_map.mp hy
    obtain ⟨l, hl, rfl⟩ := List.mem_map.mp hz
    exact gate_len h hl
  rw [List.length_map, List.length_map] at h2
  rw [List.map_cons, List.sum_cons]
  omega
theorem txC_fits {c : Cn} (h : okCn 100 100 c) : ((rowT (Str.ofString "canal") [c.r.toNat, c.b.toNat] :: c.ls.map fun l => rowT (Str.ofString "lock") (lk4 l)).map (·.length)).sum + (rowT (Str.ofString "canal") [c.r.toNat, c.b.toNat] :: c.ls.map fun l => rowT (Str.ofString "lock") (lk4 l)).length * (Str.ofString "\n").length ≤ 16777216 := by
  have := rows_sum h
  have e : (Str.ofString "\n").length = 1 := by decide +kernel
  rw [e, List.length_cons, List.length_map]
  have := h.n
  omega
theorem txC_len {c : Cn} (h : okCn 100 100 c) (hn : c.ls.length ≤ 10) : (txC c).length ≤ 700 := by
  have h1 := join_len (Str.ofString "\n") (rowT (Str.ofString "canal") [c.r.toNat, c.b.toNat] :: c.ls.map fun l => rowT (Str.ofString "lock") (lk4 l))
  have h2 := rows_sum h
  have e : (Str.ofString "\n").length = 1 := by decide +kernel
  rw [e, List.length_cons, List.length_map] at h1
  show (Txt.join _ _).length ≤ _
  omega
section
variable {P : Program} {w : World} {K : PySem.W.Frag} {mg : Str → Option Value} {base : Heap}
abbrev nCt : List Str := ["canal", "reds", "blues", "locks", "lock"]
theorem scCt : FnScope nCt ["canal"] (defScope sCt) := ⟨rfl, rfl, rfl, by decide +kernel, rfl, by decide +kernel, by decide +kernel⟩
def spSt (K : PySem.W.Frag) : Sp := fun vs H Q _ => ∃ (v : V) (c : Cn), vs = [v] ∧ CnAny K H v c ∧ okCn 100 100 c ∧ ∀ H' : Hp, Same H H' → Q (.str (txC c)) H'
theorem ok_ct {f fn : Addr} {fd fdn : FuncData} {k : Nat} (F : Fun K "canal_text" "canal_text" sCt f fd) (Rt : Fns P w K mg base k "row_text" ["word", "numbers"] (spRt K) fn fdn) : FnOk P w K mg base CX0 (k + 1) f fd ["canal"] (spSt K) := by
  refine F.ok scCt (fun vs H Q E h => ?_) (fun cdv A outer s0 H vs Q E hr h => ?_)
  · obtain ⟨v, c, rfl, _⟩ := h
    rfl
  obtain ⟨v, c, rfl, hc, okc, q⟩ := h
  refine ⟨_, (pss_cons (ps_asg (pv 0) (pg_any rfl (pgs_cons (pg_name (i := 1) scCt.nd rfl (.inl rfl)) (pgs_cons (pg_name (i := 2) scCt.nd rfl (.inl rfl)) (pgs_cons (pg_name (i := 3) scCt.nd rfl (.inl rfl)) pgs_nil)))))
    (pss_one (ps_ret (pe_join pe_str (pe_op op_cat (pe_lst (pa_cons (pe_fn Rt hr rfl (pa_cons pe_str (pa_cons (pe_lst (pa_cons (pv 1) (pa_cons (pv 2) pa_nil))) pa_nil))) pa_nil)) (pe_lc (own := [("lock", 4)]) (g := gName 4) (tt := tYes) rfl scCt.nd (pi_seq (pv 3)) (blkOk_by (own := [("lock", 4)]) (N := nCt) (sc := defScope sCt) (by decide +kernel)) (fun _ _ _ _ _ => (pg_name (i := 4) scCt.nd rfl (.inl rfl))) (fun _ _ _ _ _ => pts_nil) (fun _ _ _ _ _ => pe_hide (pe_fn Rt hr rfl (pa_cons pe_str (pa_cons (pv 4) pa_nil)))))))))), ?_⟩
  obtain ⟨a, g, vs, rfl, h1, h2, h3, h4⟩ := hc.ex
  have er : V.int c.r = .int (c.r.toNat : Nat) := by rw [Int.toNat_of_nonneg (by have := okc.r1; omega)]
  have eb : V.int c.b = .int (c.b.toNat : Nat) := by rw [Int.toNat_of_nonneg (by have := okc.b1; omega)]
  have l1 : (Str.ofString "canal").length ≤ 1000 := by decide +kernel
  have l2 : (Str.ofString "lock").length ≤ 1000 := by decide +kernel
  rw [er, eb] at h1
  refine ⟨_, rfl, a, _, rfl, h1, rfl, _, _, rfl, _, _, rfl, _, _, rfl, rfl, ?_⟩
  refine at_s (σ' := [some (.ref a), some (.int (c.r.toNat : Nat)), some (.int (c.b.toNat : Nat)), some (.ref g), none]) rfl ?_
  refine ⟨⟨_, rfl⟩, ?_⟩
  refine ⟨_, rfl, _, rfl, (by show 2 ≤ sizeLine; decide), fun p np => ?_⟩
  have s1 := same_new np (o := .lst [.int (c.r.toNat : Nat), .int (c.b.toNat : Nat)])
  refine nil_go ⟨_, p, [c.r.toNat, c.b.toNat], rfl, l1, .inl (SqL.of upd_same), by show 2 ≤ 1000; decide, fun n hn => ?_, fun H2 s2 => nil_go ⟨(by show 1 ≤ sizeLine; decide), fun p2 np2 => ?_⟩⟩
  · have := okc.r2; have := okc.b2
    simp only [List.mem_cons, List.not_mem_nil, or_false] at hn
    rcases hn with rfl | rfl <;> omega
  have s3 := same_new np2 (o := .lst [.str (rowT (Str.ofString "canal") [c.r.toNat, c.b.toNat])])
  have e3 : (upd H2 p2 (.lst [.str (rowT (Str.ofString "canal") [c.r.toNat, c.b.toNat])])) p2 = some (.lst [.str (rowT (Str.ofString "canal") [c.r.toNat, c.b.toNat])]) := upd_same
  generalize upd H2 p2 (.lst [.str (rowT (Str.ofString "canal") [c.r.toNat, c.b.toNat])]) = H3 at s3 e3
  have s13 := s1.trans (s2.trans s3)
  have vl : vs.length ≤ 100 := by rw [h3]; exact okc.n
  refine ⟨_, rfl, g, vs, rfl, Same.sq2 s13 h2, fun J wk => lc_map wk Same (fun a b => a.trans b) (fun i z F => ∃ l, c.ls[i]? = some l ∧ z = .str (rowT (Str.ofString "lock") (lk4 l))) (fun i y A B _ h => h) (by rw [sizeLine_eq]; omega) (Same.refl _) (fun F D acc sF nF => sq_keep (sF.trans (same_new nF))) (fun j z D acc F H' hj nD sF nF hy2 B hB => ?_) (fun D zs F nD sF nF hl hR => ?_)⟩
  · obtain ⟨rfl, hz⟩ := hy2
    obtain ⟨l, t, el, rfl, ht⟩ := h4 j z hz
    refine hB _ F rfl nF fun Qt hq => ?_
    have okl := okc.l l (List.mem_of_getElem? el)
    refine ⟨_, rfl, nil_go ⟨_, t, lk4 l, rfl, l2, ?_, by show 4 ≤ 1000; decide, fun n hn => ?_, fun H5 s5 => hq _ _ s5 ⟨l, el, rfl⟩⟩⟩
    · rw [← lk4_v okl]
      exact Same.sq2 (s13.trans sF) ht
    · have := lk4_lt okl okc.r2 okc.b2 n hn
      omega
  have ez : zs = (c.ls.map fun l => rowT (Str.ofString "lock") (lk4 l)).map V.str := by
    refine List.ext_getElem? fun i => ?_
    rw [List.getElem?_map, List.getElem?_map]
    cases e : zs[i]? with
    | none =>
      rw [List.getElem?_eq_none_iff] at e
      rw [List.getElem?_eq_none_iff.mpr (by omega)]; rfl
    | some z =>
      obtain ⟨l, h1, rfl⟩ := hR i z e
      rw [h1]; rfl
  have s4 := same_new nF (o := .lst zs)
  refine ⟨p2, D, _, _, rfl, rfl, s4 _ _ (sF _ _ e3), upd_same, by rw [sizeLine_eq]; show 1 + zs.length ≤ _; omega, fun p5 np5 => ?_⟩
  have s5 := same_new np5 (o := .lst ([V.str (rowT (Str.ofString "canal") [c.r.toNat, c.b.toNat])] ++ zs))
  refine ⟨_, p5, rowT (Str.ofString "canal") [c.r.toNat, c.b.toNat] :: c.ls.map fun l => rowT (Str.ofString "lock") (lk4 l), rfl, rfl, .inl (SqL.of ?_), txC_fits okc, q _ (s13.trans (sF.trans (s4.trans s5)))⟩
  rw [List.map_cons, ← ez]
  exact upd_same
end
end XL
namespace XL
open PySem PySem.Spec PyProof.Rows L2
/-! ### the same with K named: where a comprehension stands within a comprehension's element -/
def tJoin (K : PySem.W.Frag) (to te : TE) : TE := tM1 (fun x xs H Q => ∃ a p, ∃ ys : List Str, x = .str a ∧ xs = [.ref p] ∧ (SqL K H p (ys.map V.str) ∨ SqT K H p (ys.map V.str)) ∧ (ys.map (·.length)).sum + ys.length * a.length ≤ 16777216 ∧ Q (.str (Txt.join a ys)) H) to te
theorem pe_joinK {X : Cx} {K : PySem.W.Frag} {o e : Expr} {to te : TE} {apos pos : Pos} (hK : X.K = K) (ho : PE X o to) (he : PE X e te) (h1 : starEach [e] X.env = [(false, eval e X.env)] := by rfl)
    (h2 : attributeBase o "join" X.env (eval o X.env) = eval o X.env := by rfl) (h3 : (apos.endLine == pos.line) = true := by rfl) : PE X (.Call (.Attribute o "join" apos) [e] [] pos) (tJoin K to te) := by
  subst hK
  exact pe_join ho he h1 h2 h3
theorem pi_seqK {X : Cx} {K : PySem.W.Frag} {tg l : Expr} {tl : TE} (hK : X.K = K) (hl : PE X l tl) : PI X tg l (iSeq K tl) := by
  subst hK
  exact pi_seq hl
end XL
namespace XL
open PySem PySem.Spec PyProof.Rows L2
abbrev sWr : Stmt := topS 36
theorem rowT_tl (w : Str) (ns : List Nat) : TL.tl (rowT w ns) = TL.joinL [32] (TL.tl w :: ns.map TL.numL) := by
  have e : TL.tl (Str.ofString " ") = [32] := by decide +kernel
  unfold rowT
  rw [tl_joinT, e, List.map_cons, List.map_map]
  have f : (TL.tl ∘ numS) = TL.numL := by funext n; exact tl_numS n
  rw [f]
theorem str_uq {x y : Str} (h : TL.tl x = TL.tl y) : x = y := by
  have := TL.map_tl_inj (l := [x]) (m := [y]) (by simp [h])
  simpa using this
theorem head_eq (r b : Nat) : ((Str.ofString "canal " ++ numS r) ++ Str.ofString " ") ++ numS b = rowT (Str.ofString "canal") [r, b] := by
  apply str_uq
  have e1 : TL.tl (Str.ofString "canal ") = TL.tl (Str.ofString "canal") ++ [32] := by decide +kernel
  have e2 : TL.tl (Str.ofString " ") = [32] := by decide +kernel
  rw [rowT_tl, TL.tl_append, TL.tl_append, TL.tl_append, e1, e2, tl_numS, tl_numS]
  show _ = TL.tl (Str.ofString "canal") ++ ([32] ++ (TL.numL r ++ ([32] ++ TL.numL b)))
  simp [List.append_assoc]
theorem gate_eq (l : Lk) : Str.ofString "lock " ++ Txt.join (Str.ofString " ") ((lk4 l).map numS) = rowT (Str.ofString "lock") (lk4 l) := by
  apply str_uq
  have e1 : TL.tl (Str.ofString "lock ") = TL.tl (Str.ofString "lock") ++ [32] := by decide +kernel
  have e2 : TL.tl (Str.ofString " ") = [32] := by decide +kernel
  rw [rowT_tl, TL.tl_append, tl_joinT, e1, e2, List.map_map]
  have f : (TL.tl ∘ numS) = TL.numL := by funext n; exact tl_numS n
  rw [f]
  show _ = TL.tl (Str.ofString "lock") ++ ([32] ++ TL.joinL [32] ((lk4 l).map TL.numL))
  simp [List.append_assoc]
section
variable {P : Program} {w : World} {K : PySem.W.Frag} {mg : Str → Option Value} {base : Heap}
abbrev nWr : List Str := ["_law_ship_way", "_law_lines", "_law_gate", "_law_end"]
theorem scWr : FnScope nWr ["_law_ship_way"] (defScope sWr) := ⟨rfl, rfl, rfl, by decide +kernel, rfl, by decide +kernel, by decide +kernel⟩
theorem ok_wr {f : Addr} {fd : FuncData} {k : Nat} (F : Fun K "_law_written" "_law_written" sWr f fd) (m_str : mg "str" = none) : FnOk P w K mg base CX0 (k + 1) f fd ["_law_ship_way"] (spSt K) := by
  refine F.ok scWr (fun vs H Q E h => ?_) (fun cdv A outer s0 H vs Q E hr h => ?_)
  · obtain ⟨v, c, rfl, _⟩ := h
    rfl
  obtain ⟨v, c, rfl, hc, okc, q⟩ := h
  refine ⟨_, (pss_cons (ps_set (i := 1) scWr.nd rfl (.inl rfl) (pe_lst (pa_cons (pe_op op_add_str (pe_op op_add_str (pe_op op_add_str pe_str (pe_callTy call_str_int rfl m_str boot_str' (pa_cons (pe_ix (r := rIxA K) ix_any (pv 0) pe_int (fun _ _ => rfl)) pa_nil))) pe_str) (pe_callTy call_str_int rfl m_str boot_str' (pa_cons (pe_ix (r := rIxA K) ix_any (pv 0) pe_int (fun _ _ => rfl)) pa_nil))) pa_nil)))
    (pss_one (ps_ret (pe_join pe_str (pe_op op_cat (pv 1) (pe_lc (own := [("_law_gate", 2)]) (g := gName 2) (tt := tYes) rfl scWr.nd (pi_seq (pe_ix (r := rIxA K) ix_any (pv 0) pe_int (fun _ _ => rfl))) (blkOk_by (own := [("_law_gate", 2)]) (N := nWr) (sc := defScope sWr) (by decide +kernel)) (fun _ _ _ _ _ => (pg_name (i := 2) scWr.nd rfl (.inl rfl))) (fun _ _ _ _ _ => pts_nil) (fun _ _ _ _ _ => pe_hide (pe_op op_add_str pe_str (pe_joinK (K := K) rfl pe_str (pe_lc (own := [("_law_end", 3)]) (g := gName 3) (tt := tYes) rfl scWr.nd (pi_seqK (K := K) rfl (pv 2)) (blkOk_by (own := [("_law_end", 3)]) (N := nWr) rfl) (fun _ _ _ _ _ => (pg_name (i := 3) scWr.nd rfl (.inl rfl))) (fun _ _ _ _ _ => pts_nil) (fun _ _ _ _ _ => pe_hide (pe_callTy call_str_int rfl m_str boot_str' (pa_cons (pv 3) pa_nil))))))))))))), ?_⟩
  obtain ⟨a, g, vs, rfl, h1, h2, h3, h4⟩ := hc.ex
  have er : V.int c.r = .int (c.r.toNat : Nat) := by rw [Int.toNat_of_nonneg (by have := okc.r1; omega)]
  have eb : V.int c.b = .int (c.b.toNat : Nat) := by rw [Int.toNat_of_nonneg (by have := okc.b1; omega)]
  rw [er, eb] at h1
  have lr := numS_len (n := c.r.toNat) (by have := okc.r2; omega)
  have lb := numS_len (n := c.b.toNat) (by have := okc.b2; omega)
  refine ⟨_, rfl, a, _, 0, _, rfl, rfl, h1, atI_int (by decide) rfl, ?_⟩
  have c6 : (Str.ofString "canal ").length = 6 := by decide +kernel
  have c1 : (Str.ofString " ").length = 1 := by decide +kernel
  refine nil_go ⟨_, rfl, log2_small (by have := okc.r2; omega), _, _, rfl, rfl, by show (Str.ofString "canal ").length + (numS c.r.toNat).length ≤ sizeLine; rw [sizeLine_eq]; omega, ?_⟩
  refine ⟨_, _, rfl, rfl, by show (Str.ofString "canal " ++ numS c.r.toNat).length + (Str.ofString " ").length ≤ sizeLine; rw [len_add, sizeLine_eq]; omega, ?_⟩
  refine ⟨_, rfl, a, _, 1, _, rfl, rfl, h1, atI_int (by decide) rfl, nil_go ⟨_, rfl, log2_small (by have := okc.b2; omega), _, _, rfl, rfl, by show ((Str.ofString "canal " ++ numS c.r.toNat) ++ Str.ofString " ").length + (numS c.b.toNat).length ≤ sizeLine; rw [len_add, len_add, sizeLine_eq]; omega, ?_⟩⟩
  refine nil_go ⟨(by show 1 ≤ sizeLine; decide), fun p2 np2 => ?_⟩
  have e3 : (upd H p2 (.lst [.str (((Str.ofString "canal " ++ numS c.r.toNat) ++ Str.ofString " ") ++ numS c.b.toNat)])) p2 = some (.lst [.str (rowT (Str.ofString "canal") [c.r.toNat, c.b.toNat])]) := by rw [upd_same, head_eq]
  have s3 := same_new np2 (o := .lst [.str (((Str.ofString "canal " ++ numS c.r.toNat) ++ Str.ofString " ") ++ numS c.b.toNat)])
  refine at_g (σ' := [some (.ref a), some (.ref p2), none, none]) rfl ?_
  refine at_h (fun Z => Same H Z ∧ Z p2 = some (.lst [.str (rowT (Str.ofString "canal") [c.r.toNat, c.b.toNat])])) ⟨s3, e3⟩ fun H3 hH3 => ?_
  clear s3 e3
  obtain ⟨s13, e3⟩ := hH3
  have vl : vs.length ≤ 100 := by rw [h3]; exact okc.n
  refine ⟨⟨_, rfl⟩, ?_⟩
  refine ⟨_, rfl, _, rfl, a, _, 2, _, rfl, rfl, Same.sq2 s13 h1, atI_int (by decide) rfl, g, vs, rfl, Same.sq2 s13 h2, fun J wk => lc_map wk Same (fun a b => a.trans b) (fun i z F => ∃ l, c.ls[i]? = some l ∧ z = .str (rowT (Str.ofString "lock") (lk4 l))) (fun i y A B _ h => h) (by rw [sizeLine_eq]; omega) (Same.refl _) (fun F D acc sF nF => sq_keep (sF.trans (same_new nF))) (fun j z D acc F H' hj nD sF nF hy2 B hB => ?_) (fun D zs F nD sF nF hl hR => ?_)⟩
  · obtain ⟨rfl, hz⟩ := hy2
    obtain ⟨l, t, el, rfl, ht⟩ := h4 j z hz
    have okl := okc.l l (List.mem_of_getElem? el)
    have ht' := Same.sq2 (s13.trans sF) ht
    rw [lk4_v okl] at ht'
    refine hB _ F rfl nF fun Qt hq => ?_
    refine ⟨⟨_, rfl⟩, _, rfl, t, _, rfl, ht', fun J2 wk2 => lc_map wk2 Same (fun a b => a.trans b) (fun i z F => ∃ n, (lk4 l)[i]? = some n ∧ z = .str (numS n)) (fun i y A B _ h => h) (by rw [sizeLine_eq]; show 4 < _; decide) (Same.refl _) (fun F D acc sF nF => sq_keep (sF.trans (same_new nF))) (fun j2 z2 D2 acc2 F2 H2' hj2 nD2 sF2 nF2 hy3 B2 hB2 => ?_) (fun D2 zs2 F2 nD2 sF2 nF2 hl2 hR2 => ?_)⟩
    · obtain ⟨rfl, hz2⟩ := hy3
      rw [List.getElem?_map] at hz2
      obtain ⟨n, en, rfl⟩ := Option.map_eq_some_iff.mp hz2
      refine hB2 _ F2 rfl nF2 fun Qt2 hq2 => ?_
      have := lk4_lt okl okc.r2 okc.b2 n (List.mem_of_getElem? en)
      exact ⟨_, rfl, nil_go ⟨_, rfl, log2_small (by omega), hq2 _ _ (Same.refl _) ⟨n, en, rfl⟩⟩⟩
    · rw [List.length_map] at hl2
      have ez2 : zs2 = ((lk4 l).map numS).map V.str := by
        refine List.ext_getElem? fun i => ?_
        rw [List.getElem?_map, List.getElem?_map]
        cases e : zs2[i]? with
        | none =>
          rw [List.getElem?_eq_none_iff] at e
          rw [List.getElem?_eq_none_iff.mpr (by omega)]; rfl
        | some z =>
          obtain ⟨n, h1, rfl⟩ := hR2 i z e
          rw [h1]; rfl
      have sm := sum_le (xs := ((lk4 l).map numS).map (·.length)) (b := 13) fun y hy => by
        obtain ⟨z, hz, rfl⟩ := List.mem_map.mp hy
        obtain ⟨n, hn, rfl⟩ := List.mem_map.mp hz
        have := lk4_lt okl okc.r2 okc.b2 n hn
        exact numS_len (by omega)
      rw [List.length_map, List.length_map] at sm
      have l4 : (lk4 l).length = 4 := rfl
      have jl := join_len (Str.ofString " ") ((lk4 l).map numS)
      rw [List.length_map, l4, c1] at jl
      rw [l4] at sm
      have c5 : (Str.ofString "lock ").length = 5 := by decide +kernel
      refine ⟨_, D2, (lk4 l).map numS, rfl, rfl, .inl (SqL.of (by rw [← ez2]; exact upd_same)), by rw [List.length_map, l4, c1]; omega, _, _, rfl, rfl, by rw [c5, sizeLine_eq]; omega, ?_⟩
      rw [gate_eq]
      exact hq _ _ (sF2.trans (same_new nF2)) ⟨l, el, rfl⟩
  have ez : zs = (c.ls.map fun l => rowT (Str.ofString "lock") (lk4 l)).map V.str := by
    refine List.ext_getElem? fun i => ?_
    rw [List.getElem?_map, List.getElem?_map]
    cases e : zs[i]? with
    | none =>
      rw [List.getElem?_eq_none_iff] at e
      rw [List.getElem?_eq_none_iff.mpr (by omega)]; rfl
    | some z =>
      obtain ⟨l, h1, rfl⟩ := hR i z e
      rw [h1]; rfl
  have s4 := same_new nF (o := .lst zs)
  refine ⟨p2, D, _, _, rfl, rfl, s4 _ _ (sF _ _ e3), upd_same, by rw [sizeLine_eq]; show 1 + zs.length ≤ _; omega, fun p5 np5 => ?_⟩
  have s5 := same_new np5 (o := .lst ([V.str (rowT (Str.ofString "canal") [c.r.toNat, c.b.toNat])] ++ zs))
  refine ⟨_, p5, rowT (Str.ofString "canal") [c.r.toNat, c.b.toNat] :: c.ls.map fun l => rowT (Str.ofString "lock") (lk4 l), rfl, rfl, .inl (SqL.of ?_), txC_fits okc, q _ (s13.trans (sF.trans (s4.trans s5)))⟩
  rw [List.map_cons, ← ez]
  exact upd_same
end
end XL
namespace XL
open PySem PySem.Spec PyProof.Rows L2
/-! ### any of a list of numbers -/
theorem truthy_num {prog : Program} {w : World} {A : Around} {E : Value → Shared → Prop} {s : Shared} {i : Int} {t : Tok} {Q : Bool → Shared → Prop} (h : Q (i != 0) s) : wpAny (model prog w) A (truthy (.int i t)) Q E s := by
  first | exact PySem.P.truthy_int h | exact PySem.truthy_int h | exact truthy_int h
theorem truth_nums {prog : Program} {w : World} {A : Around} {ns : List Int} {its : List Value} (r : Vals (ns.map V.int) its) :
    TruthOf prog w A (fun i v => its.toArray[i]? = some v) (fun i => (ns.map fun z => z != 0).getD i false) := fun i v s Q E hv hq => by
  have hv' : its[i]? = some v := by simpa using hv
  have hl : its.length = ns.length := by rw [← Vals.length r, List.length_map]
  have hi : i < ns.length := by rw [← hl]; exact (List.getElem?_eq_some_iff.mp hv').1
  have e : (ns.map V.int)[i]? = some (V.int ns[i]) := by rw [List.getElem?_map, List.getElem?_eq_getElem hi]; rfl
  obtain ⟨u, hu, ru⟩ := Vals.get r e
  rw [hv'] at hu
  obtain rfl : v = u := Option.some.inj hu
  obtain ⟨t, rfl⟩ := ru
  have hq' : Q ((ns.map fun z => z != 0).getD i false) s := hq
  rw [List.getD_eq_getElem?_getD, List.getElem?_map, List.getElem?_eq_getElem hi] at hq'
  exact truthy_num hq'
def rAnyI (K : PySem.W.Frag) : List V → Hp → VK → Prop := fun vs H Q => ∃ (a : Addr) (ns : List Int), vs = [V.ref a] ∧ SqL K H a (ns.map V.int) ∧ Q (.bl (ns.any fun z => z != 0)) H
theorem cr_anyI {X : Cx} (hc : X.calm = true) : CallR X (.builtin "any") (rAnyI X.K) := by
  intro pins s σ H vs us Q I r h
  obtain ⟨a, ns, rfl, hs, q⟩ := h
  obtain ⟨its, rv, hl, _⟩ := I.list hs
  rw [Vals.ref1 r]
  have hlen : its.length = ns.length := by rw [← Vals.length rv, List.length_map]
  refine call_any_walk (iter_any hl.isList fun s₂ e2 st hne => ?_)
  subst e2
  refine ⟨_, _, _, _, _, _, _, rfl, Walks.list (A := X.A.in1) (I.ok.hd hc) _ a hne its.toArray, st, truth_nums rv, fun h' tk hk => ?_⟩
  refine ⟨.bl _, H, I.kept fun b o eo => hk b o (fun hmem => ?_) (Heap.get?_push_of_some _ eo), ?_, q⟩
  · rcases List.mem_cons.mp hmem with e1 | hmem
    · exact absurd (e1 ▸ Heap.lt_size eo) (Nat.lt_irrefl _)
    · cases hmem
  · show Value.bool _ = Value.bool _
    have e0 : (ns.map fun z => z != 0).any id = ns.any fun z => z != 0 := by rw [List.any_map]; rfl
    rw [← e0, ← L2.any_range, List.size_toArray, List.length_map, hlen]
theorem pi_z2K {X : Cx} {K : PySem.W.Frag} {e e2 : Expr} {ta : TA} {p pos tpos : Pos} {elts : List Expr} {kk : Nat} (hK : X.K = K) (hg : Gl X "zip") (hm : X.mg "zip" = none) (ha : PA X [e, e2] ta)
    (hs : starEach [e, e2] X.env = (false, eval e X.env) :: starEach [e2] X.env := by rfl) (hpl : (backTo pos (starEach [e2] X.env)).any (·.1) = false := by rfl) :
    PI X (.Tuple elts kk tpos) (.Call (.Name "zip" p) [e, e2] [] pos) (iZ2 K ta) := by
  subst hK
  exact pi_z2 hg hm ha hs hpl
theorem boot_any' : bootBuiltins "any" = some (.builtin "any") := by decide +kernel
end XL
namespace XL
open PySem PySem.Spec PyProof.Rows L2
abbrev sIh : Stmt := topS 32
abbrev sIg : Stmt := topS 33
theorem boot_max37 : bootBuiltins "max" = some (.builtin "max") := by decide +kernel
theorem numsIn_len : ∀ {ws : List (List Nat)} {ns : List Nat}, numsIn ws = some ns → ns.length = ws.length := fun {ws ns} h => by
  have := congrArg List.length (nums_some h)
  rw [List.length_map, List.length_map] at this
  exact this.symm
theorem flat_nats : ∀ ns : List Nat, (ns.map fun n => V.int (n : Nat)).all flatV = true
  | [] => rfl
  | n :: ns => by rw [List.map_cons, List.all_cons, flat_nats ns]; rfl
theorem in_zero : ∀ ns : List Nat, inV (.int 0) (ns.map fun n => V.int (n : Nat)) = decide (0 ∈ ns)
  | [] => rfl
  | n :: ns => by
    have ih := in_zero ns
    unfold inV at ih ⊢
    rw [List.map_cons, List.any_cons, ih]
    have e0 : eqV (V.int ((n : Nat) : Int)) (V.int 0) = decide (n = 0) := by
      by_cases h : n = 0
      · rw [h]; rfl
      · rw [decide_eq_false h]
        show decide (((n : Nat) : Int) = 0) = false
        exact decide_eq_false (by omega)
    rw [e0]
    cases n with
    | zero => simp
    | succ m => simp
section
variable {P : Program} {w : World} {K : PySem.W.Frag} {mg : Str → Option Value} {base : Heap}
abbrev nIh : List Str := ["_law_line", "_law_words", "_law_numbers"]
theorem scIh : FnScope nIh ["_law_line"] (defScope sIh) := ⟨rfl, rfl, rfl, by decide +kernel, rfl, by decide +kernel, by decide +kernel⟩
def spIh (K : PySem.W.Frag) : Sp := fun vs H Q _ => ∃ (x : Str), vs = [.str x] ∧ x.length ≤ 90000 ∧ ∀ H' : Hp, Same H H' → Q (.bl (headIn (some (TL.tl x))).isSome) H'
theorem ok_ih {f fn : Addr} {fd fdn : FuncData} {k : Nat} (F : Fun K "_law_is_head" "_law_is_head" sIh f fd) (Ls : Fns P w K mg base k "_law_numbers_in" ["_law_words"] (spLs K) fn fdn) (m_len : mg "len" = none) : FnOk P w K mg base CX0 (k + 1) f fd ["_law_line"] (spIh K) := by
  refine F.ok scIh (fun vs H Q E h => ?_) (fun cdv A outer s0 H vs Q E hr h => ?_)
  · obtain ⟨x, rfl, _⟩ := h
    rfl
  obtain ⟨x, rfl, hx, q⟩ := h
  refine ⟨_, (pss_cons (ps_set (i := 1) scIh.nd rfl (.inl rfl) (pe_split (pv 0) pe_str))
    (pss_cons (ps_set (i := 2) scIh.nd rfl (.inl rfl) (pe_fn Ls hr rfl (pa_cons (pe_slice sl_list (pv 1) (po_some pe_int) po_none) pa_nil)))
    (pss_one (ps_ret (pe_and (pe_cmpR op_eq (pe_ix (r := rIxA K) ix_any (pv 1) pe_int (fun _ _ => rfl)) pe_str (nomark _)) (pe_and (pe_cmpR op_notN (pv 2) pe_non (nomark _)) (pe_and (pe_cmpR op_eq (pe_callB (r := rLenA K) call_lenA rfl m_len PySem.boot_len (pa_cons (pv 2) pa_nil)) pe_int (nomark _)) (pe_one (pe_cmpR op_notIn_seq pe_int (pv 2) (by rfl)))))))))), ?_⟩
  have esp : ((Str.ofString " ").length == 0) = false := by decide +kernel
  refine ⟨_, rfl, ⟨x, rfl⟩, x, _, rfl, rfl, esp, by rw [sizeLine_eq]; omega, fun L nL => ?_⟩
  have hsp := split_sp x
  have hpos := split_pos x (Str.ofString " ")
  have hsl := split_le x (Str.ofString " ")
  have hpt : ∀ y ∈ Txt.split x (Str.ofString " "), y.length ≤ x.length := fun y hy => part_short hy
  generalize Txt.split x (Str.ofString " ") = ws at *
  obtain ⟨w0, wr, rfl⟩ : ∃ w0 wr, ws = w0 :: wr := by
    cases ws with
    | nil => simp at hpos
    | cons a r => exact ⟨a, r, rfl⟩
  have s1 := same_new nL (o := .lst ((w0 :: wr).map V.str))
  have eL : (upd H L (.lst ((w0 :: wr).map V.str))) L = some (.lst ((w0 :: wr).map V.str)) := upd_same
  generalize upd H L (.lst ((w0 :: wr).map V.str)) = H1 at s1 eL
  refine at_g (σ' := [some (.str x), some (.ref L), none]) rfl ?_
  have hrow : rowIn (some (TL.tl x)) (TL.tl (Str.ofString "canal")) 2 = if TL.tl w0 = TL.tl (Str.ofString "canal") ∧ wr.length = 2 then numsIn (wr.map TL.tl) else none := by
    have hw : wordsOf (some (TL.tl x)) = TL.tl w0 :: wr.map TL.tl := hsp.symm
    unfold rowIn
    simp only [hw]
    simp
  have hd : headIn (some (TL.tl x)) = match rowIn (some (TL.tl x)) (TL.tl (Str.ofString "canal")) 2 with | none => none | some ns => head2 ns := rfl
  rw [hrow] at hd
  have no : (if TL.tl w0 = TL.tl (Str.ofString "canal") ∧ wr.length = 2 then numsIn (wr.map TL.tl) else none) = none → ∀ G, Same H G → Q (.bl false) G := fun h G s => by
    have := q G s
    rw [hd, h] at this
    exact this
  refine ⟨_, rfl, 1, rfl, L, _, rfl, SqL.of eL, fun p np => ?_⟩
  rw [cut_from1, List.map_cons, List.drop_succ_cons, List.drop_zero]
  have s2 := same_new np (o := .lst (wr.map V.str))
  have e2 : (upd H1 p (.lst (wr.map V.str))) p = some (.lst (wr.map V.str)) := upd_same
  have eL2 := s2 _ _ eL
  have s12 := s1.trans s2
  generalize upd H1 p (.lst (wr.map V.str)) = H2 at s2 e2 eL2 s12
  refine nil_go ⟨p, wr, rfl, SqL.of e2, fun y hy => by have := hpt y (List.mem_cons_of_mem _ hy); rw [sizeLine_eq]; omega, by rw [List.length_cons] at hsl; omega, fun H3 hn s3 => ?_, fun ns M H3 hs s3 nM eM => ?_⟩
  · refine at_g (σ' := [some (.str x), some (.ref L), some .non]) rfl ?_
    have eL3 := s3 _ _ eL2
    refine ⟨_, rfl, L, _, 0, _, rfl, rfl, .inl (SqL.of eL3), atI_int (by decide) rfl, rfl, _, rfl, ?_⟩
    have nn := no (by rw [hn]; split <;> rfl) _ (s12.trans s3)
    rw [dec_str]
    by_cases h : TL.tl w0 = TL.tl (Str.ofString "canal")
    · rw [decide_eq_true h]
      exact iteT ⟨_, rfl, rfl, _, rfl, iteF nn⟩
    · rw [decide_eq_false h]
      exact iteF nn
  · refine at_g (σ' := [some (.str x), some (.ref L), some (.ref M)]) rfl ?_
    have eL3 := s3 _ _ eL2
    have nl : ns.length = wr.length := by rw [numsIn_len hs, List.length_map]
    refine ⟨_, rfl, L, _, 0, _, rfl, rfl, .inl (SqL.of eL3), atI_int (by decide) rfl, rfl, _, rfl, ?_⟩
    have s13 := s12.trans s3
    rw [dec_str]
    by_cases h : TL.tl w0 = TL.tl (Str.ofString "canal")
    rotate_left
    · rw [decide_eq_false h]
      exact iteF (no (if_neg fun z => h z.1) _ s13)
    rw [decide_eq_true h]
    refine iteT ⟨_, rfl, rfl, _, rfl, iteT ⟨_, rfl, nil_go ⟨M, _, rfl, .inl (SqL.of eM), rfl, _, rfl, ?_⟩⟩⟩
    rw [List.length_map, show decide (V.int ((ns.length : Nat) : Int) = V.int 2) = decide (ns.length = 2) from dec_int' _ 2, nl]
    by_cases h2 : wr.length = 2
    rotate_left
    · rw [decide_eq_false h2]
      exact iteF (no (if_neg fun z => h2 z.2) _ s13)
    rw [decide_eq_true h2]
    refine iteT ⟨_, rfl, M, _, rfl, .inl (SqL.of eM), rfl, ?_⟩
    refine ⟨flat_nats ns, ?_⟩
    rw [in_zero]
    have hq := q H3 s13
    rw [hd, if_pos ⟨h, h2⟩, hs] at hq
    rw [h2] at nl
    match ns, nl with
    | [r, b], _ =>
    have e : (head2 [r, b]).isSome = (if true = true then !decide (0 ∈ [r, b]) else decide (0 ∈ [r, b])) := by
      show (if r = 0 ∨ b = 0 then none else some (r, b) : Option (Nat × Nat)).isSome = _
      by_cases z : r = 0 ∨ b = 0
      · rw [if_pos z]
        have : 0 ∈ [r, b] := by rcases z with rfl | rfl <;> simp
        simp [this]
      · rw [if_neg z]
        have : 0 ∉ [r, b] := fun m => by
          simp only [List.mem_cons, List.not_mem_nil, or_false] at m
          exact z (m.elim (fun e => .inl e.symm) (fun e => .inr e.symm))
        simp [this]
    have hq' : Q (.bl (head2 [r, b]).isSome) H3 := hq
    rw [e] at hq'
    exact hq'
end
end XL
namespace XL
open PySem PySem.Spec PyProof.Rows L2
section
variable {P : Program} {w : World} {K : PySem.W.Frag} {mg : Str → Option Value} {base : Heap}
abbrev nIg : List Str := ["_law_line", "_law_sizes", "_law_words", "_law_numbers"]
theorem scIg : FnScope nIg ["_law_line", "_law_sizes"] (defScope sIg) := ⟨rfl, rfl, rfl, by decide +kernel, rfl, by decide +kernel, by decide +kernel⟩
def spIg (K : PySem.W.Frag) : Sp := fun vs H Q _ => ∃ (x : Str) (sz : Addr) (r b : Nat), vs = [.str x, .ref sz] ∧ x.length ≤ 90000 ∧ Sq2 K H sz [.int (r : Nat), .int (b : Nat)] ∧ ∀ H' : Hp, Same H H' → Q (.bl (gateIn r b (some (TL.tl x))).isSome) H'
theorem ok_ig {f fn : Addr} {fd fdn : FuncData} {k : Nat} (F : Fun K "_law_is_gate" "_law_is_gate" sIg f fd) (Ls : Fns P w K mg base k "_law_numbers_in" ["_law_words"] (spLs K) fn fdn) (m_len : mg "len" = none) (m_max : mg "max" = none) : FnOk P w K mg base CX0 (k + 1) f fd ["_law_line", "_law_sizes"] (spIg K) := by
  refine F.ok scIg (fun vs H Q E h => ?_) (fun cdv A outer s0 H vs Q E hr h => ?_)
  · obtain ⟨x, sz, r, b, rfl, _⟩ := h
    rfl
  obtain ⟨x, sz, r, b, rfl, hx, hsz, q⟩ := h
  refine ⟨_, (pss_cons (ps_set (i := 2) scIg.nd rfl (.inl rfl) (pe_split (pv 0) pe_str))
    (pss_cons (ps_set (i := 3) scIg.nd rfl (.inl rfl) (pe_fn Ls hr rfl (pa_cons (pe_slice sl_list (pv 2) (po_some pe_int) po_none) pa_nil)))
    (pss_cons (ps_if (PW.pt (pw_or (pt_cmpR op_ne (pe_ix (r := rIxA K) ix_any (pv 2) pe_int (fun _ _ => rfl)) pe_str (nomark _)) (pw_or (pt_cmpR op_isN (pv 3) pe_non (nomark _)) (pw_or1 (pt_cmpR op_ne (pe_callB (r := rLenA K) call_lenA rfl m_len PySem.boot_len (pa_cons (pv 3) pa_nil)) pe_int (nomark _)))))) (pss_one (ps_ret pe_bl)) pss_nil)
    (pss_one (ps_ret (pe_and (pe_cmpR op_lt (pe_callB (cr_max rfl) rfl m_max boot_max37 (pa_cons (pe_slice sl_list (pv 3) po_none (po_some pe_int)) pa_nil)) (pe_ix (r := rIxA K) ix_any (pv 1) pe_int (fun _ _ => rfl)) (nomark _)) (pe_one (pe_cmpR op_lt (pe_callB (cr_max rfl) rfl m_max boot_max37 (pa_cons (pe_slice sl_list (pv 3) (po_some pe_int) po_none) pa_nil)) (pe_ix (r := rIxA K) ix_any (pv 1) pe_int (fun _ _ => rfl)) (nomark _))))))))), ?_⟩
  have esp : ((Str.ofString " ").length == 0) = false := by decide +kernel
  refine ⟨_, rfl, ⟨x, rfl⟩, x, _, rfl, rfl, esp, by rw [sizeLine_eq]; omega, fun L nL => ?_⟩
  have hsp := split_sp x
  have hpos := split_pos x (Str.ofString " ")
  have hsl := split_le x (Str.ofString " ")
  have hpt : ∀ y ∈ Txt.split x (Str.ofString " "), y.length ≤ x.length := fun y hy => part_short hy
  generalize Txt.split x (Str.ofString " ") = ws at *
  obtain ⟨w0, wr, rfl⟩ : ∃ w0 wr, ws = w0 :: wr := by
    cases ws with
    | nil => simp at hpos
    | cons a r => exact ⟨a, r, rfl⟩
  have s1 := same_new nL (o := .lst ((w0 :: wr).map V.str))
  have eL : (upd H L (.lst ((w0 :: wr).map V.str))) L = some (.lst ((w0 :: wr).map V.str)) := upd_same
  generalize upd H L (.lst ((w0 :: wr).map V.str)) = H1 at s1 eL
  refine at_g (σ' := [some (.str x), some (.ref sz), some (.ref L), none]) rfl ?_
  have hrow : rowIn (some (TL.tl x)) (TL.tl (Str.ofString "lock")) 4 = if TL.tl w0 = TL.tl (Str.ofString "lock") ∧ wr.length = 4 then numsIn (wr.map TL.tl) else none := by
    have hw : wordsOf (some (TL.tl x)) = TL.tl w0 :: wr.map TL.tl := hsp.symm
    unfold rowIn
    simp only [hw]
    simp
  have hd : gateIn r b (some (TL.tl x)) = match rowIn (some (TL.tl x)) (TL.tl (Str.ofString "lock")) 4 with | none => none | some ns => gate4 r b ns := rfl
  rw [hrow] at hd
  have no : (if TL.tl w0 = TL.tl (Str.ofString "lock") ∧ wr.length = 4 then numsIn (wr.map TL.tl) else none) = none → ∀ G, Same H G → Q (.bl false) G := fun h G s => by
    have := q G s
    rw [hd, h] at this
    exact this
  refine ⟨_, rfl, 1, rfl, L, _, rfl, SqL.of eL, fun p np => ?_⟩
  rw [cut_from1, List.map_cons, List.drop_succ_cons, List.drop_zero]
  have s2 := same_new np (o := .lst (wr.map V.str))
  have e2 : (upd H1 p (.lst (wr.map V.str))) p = some (.lst (wr.map V.str)) := upd_same
  have eL2 := s2 _ _ eL
  have s12 := s1.trans s2
  generalize upd H1 p (.lst (wr.map V.str)) = H2 at s2 e2 eL2 s12
  refine nil_go ⟨p, wr, rfl, SqL.of e2, fun y hy => by have := hpt y (List.mem_cons_of_mem _ hy); rw [sizeLine_eq]; omega, by rw [List.length_cons] at hsl; omega, fun H3 hn s3 => ?_, fun ns M H3 hs s3 nM eM => ?_⟩
  · refine at_g (σ' := [some (.str x), some (.ref sz), some (.ref L), some .non]) rfl ?_
    have eL3 := s3 _ _ eL2
    refine ⟨_, rfl, L, _, 0, _, rfl, rfl, .inl (SqL.of eL3), atI_int (by decide) rfl, rfl, _, rfl, ?_⟩
    have nn := no (by rw [hn]; split <;> rfl) _ (s12.trans s3)
    rw [dec_str]
    by_cases h : TL.tl w0 = TL.tl (Str.ofString "lock")
    · rw [decide_eq_true h]
      exact iteF ⟨_, rfl, rfl, _, rfl, iteT (iteT nn)⟩
    · rw [decide_eq_false h]
      exact iteT (iteT nn)
  · refine at_g (σ' := [some (.str x), some (.ref sz), some (.ref L), some (.ref M)]) rfl ?_
    have eL3 := s3 _ _ eL2
    have nl : ns.length = wr.length := by rw [numsIn_len hs, List.length_map]
    refine ⟨_, rfl, L, _, 0, _, rfl, rfl, .inl (SqL.of eL3), atI_int (by decide) rfl, rfl, _, rfl, ?_⟩
    have s13 := s12.trans s3
    rw [dec_str]
    by_cases h : TL.tl w0 = TL.tl (Str.ofString "lock")
    rotate_left
    · rw [decide_eq_false h]
      exact iteT (iteT (no (if_neg fun z => h z.1) _ s13))
    rw [decide_eq_true h]
    refine iteF ⟨_, rfl, rfl, _, rfl, iteF ⟨_, rfl, nil_go ⟨M, _, rfl, .inl (SqL.of eM), rfl, _, rfl, ?_⟩⟩⟩
    rw [List.length_map, show decide (V.int ((ns.length : Nat) : Int) = V.int 4) = decide (ns.length = 4) from dec_int' _ 4, nl]
    by_cases h2 : wr.length = 4
    rotate_left
    · rw [decide_eq_false h2]
      exact iteT (no (if_neg fun z => h2 z.2) _ s13)
    rw [decide_eq_true h2]
    have hq : ∀ G, Same H G → Q (.bl (gate4 r b ns).isSome) G := fun G s => by
      have hq := q G s
      rw [hd, if_pos ⟨h, h2⟩, hs] at hq
      exact hq
    rw [h2] at nl
    match ns, nl with
    | [a, c, y, z], _ =>
    refine iteF ⟨_, rfl, 2, rfl, M, _, rfl, SqL.of eM, fun p1 np1 => ?_⟩
    have s4 := same_new np1 (o := .lst (cutV ([a, c, y, z].map fun n => V.int (n : Nat)) none (some 2)))
    have ec : cutV ([a, c, y, z].map fun n => V.int (n : Nat)) none (some 2) = [((a : Nat) : Int), ((c : Nat) : Int)].map V.int := rfl
    have ed : cutV ([a, c, y, z].map fun n => V.int (n : Nat)) (some 2) none = [((y : Nat) : Int), ((z : Nat) : Int)].map V.int := rfl
    have e4 : (upd H3 p1 (.lst (cutV ([a, c, y, z].map fun n => V.int (n : Nat)) none (some 2)))) p1 = some (.lst ([((a : Nat) : Int), ((c : Nat) : Int)].map V.int)) := by rw [ec]; exact upd_same
    have eM4 := s4 _ _ eM
    have s14 := s13.trans s4
    generalize upd H3 p1 (.lst (cutV ([a, c, y, z].map fun n => V.int (n : Nat)) none (some 2))) = H4 at s4 e4 eM4 s14
    refine nil_go ⟨p1, [((a : Nat) : Int), ((c : Nat) : Int)], rfl, SqL.of e4, by simp, fun m hm hle => ?_⟩
    have hm1 : decide (m < ((r : Nat) : Int)) = decide (a < r ∧ c < r) := by
      have l1 := hle _ (List.mem_cons_self (a := ((a : Nat) : Int)) (l := [((c : Nat) : Int)]))
      have l2 := hle _ (List.mem_cons_of_mem ((a : Nat) : Int) (List.mem_cons_self (a := ((c : Nat) : Int)) (l := [])))
      simp only [List.mem_cons, List.not_mem_nil, or_false] at hm
      by_cases q : a < r ∧ c < r
      · rw [decide_eq_true q]; exact decide_eq_true (by rcases hm with rfl | rfl <;> omega)
      · rw [decide_eq_false q]; exact decide_eq_false (by omega)
    refine ⟨_, rfl, sz, _, 0, _, rfl, rfl, Same.sq2 s14 hsz, atI_int (by decide) rfl, _, _, rfl, rfl, _, rfl, ?_⟩
    rw [hm1]
    by_cases q1 : a < r ∧ c < r
    rotate_left
    · rw [decide_eq_false q1]
      have hq' := hq H4 s14
      rw [show gate4 r b [a, c, y, z] = none from if_neg fun w => q1 ⟨w.1, w.2.1⟩] at hq'
      exact iteF hq'
    rw [decide_eq_true q1]
    refine iteT ⟨_, rfl, 2, rfl, M, _, rfl, SqL.of eM4, fun p2 np2 => ?_⟩
    have s5 := same_new np2 (o := .lst (cutV ([a, c, y, z].map fun n => V.int (n : Nat)) (some 2) none))
    have e5 : (upd H4 p2 (.lst (cutV ([a, c, y, z].map fun n => V.int (n : Nat)) (some 2) none))) p2 = some (.lst ([((y : Nat) : Int), ((z : Nat) : Int)].map V.int)) := by rw [ed]; exact upd_same
    have s15 := s14.trans s5
    generalize upd H4 p2 (.lst (cutV ([a, c, y, z].map fun n => V.int (n : Nat)) (some 2) none)) = H5 at s5 e5 s15
    refine nil_go ⟨p2, [((y : Nat) : Int), ((z : Nat) : Int)], rfl, SqL.of e5, by simp, fun m hm hle => ?_⟩
    have hm2 : decide (m < ((b : Nat) : Int)) = (gate4 r b [a, c, y, z]).isSome := by
      have l1 := hle _ (List.mem_cons_self (a := ((y : Nat) : Int)) (l := [((z : Nat) : Int)]))
      have l2 := hle _ (List.mem_cons_of_mem ((y : Nat) : Int) (List.mem_cons_self (a := ((z : Nat) : Int)) (l := [])))
      simp only [List.mem_cons, List.not_mem_nil, or_false] at hm
      by_cases q : y < b ∧ z < b
      · rw [show gate4 r b [a, c, y, z] = some _ from if_pos ⟨q1.1, q1.2, q.1, q.2⟩]; exact decide_eq_true (by rcases hm with rfl | rfl <;> omega)
      · rw [show gate4 r b [a, c, y, z] = none from if_neg fun w => q ⟨w.2.2.1, w.2.2.2⟩]; exact decide_eq_false (by omega)
    refine ⟨_, rfl, sz, _, 1, _, rfl, rfl, Same.sq2 s15 hsz, atI_int (by decide) rfl, _, _, rfl, rfl, ?_⟩
    show Q (.bl (decide (m < ((b : Nat) : Int)))) _
    rw [hm2]
    exact hq H5 s15
end
end XL
namespace XL
open PySem PySem.Spec PyProof.Rows L2
/-! ### zip of three, each a list or a tuple -/
def SqB (K : PySem.W.Frag) (b : Bool) (H : Hp) (a : Addr) (xs : List V) : Prop := match b with | true => SqL K H a xs | false => SqT K H a xs
def ItB (b : Bool) (h : Heap) (it a : Addr) (i : Nat) : Prop := match b with | true => h.IsListIter it a i | false => h.IsTupleIter it a i
def SeqB (b : Bool) (h : Heap) (a : Addr) (its : Array Value) : Prop := match b with | true => h.IsList a its | false => h.IsTuple a its
theorem sqB_of {K : PySem.W.Frag} {H : Hp} {a : Addr} {xs : List V} (h : Sq2 K H a xs) : ∃ b, SqB K b H a xs := by
  rcases h with h | h
  · exact ⟨true, h⟩
  · exact ⟨false, h⟩
theorem Same.sqB {K : PySem.W.Frag} {b : Bool} {H H' : Hp} {a : Addr} {xs : List V} (s : Same H H') (h : SqB K b H a xs) : SqB K b H' a xs := by
  cases b with
  | true => exact s.seq h
  | false => exact Same.tup s h
theorem ItB.obj {b : Bool} {h : Heap} {it a : Addr} {i : Nat} (q : ItB b h it a i) : ∃ o, h.get? it = some o ∧ ∀ v, o.data ≠ .cell v := by
  cases b with
  | true => obtain ⟨o, e, _, d⟩ := q; exact ⟨o, e, fun v z => by rw [d] at z; cases z⟩
  | false => obtain ⟨o, e, _, d⟩ := q; exact ⟨o, e, fun v z => by rw [d] at z; cases z⟩
theorem ItB.at {b : Bool} {h h' : Heap} {it a : Addr} {i : Nat} (q : ItB b h it a i) (k : ∀ o, h.get? it = some o → h'.get? it = some o) : ItB b h' it a i := by
  cases b with
  | true => exact Heap.IsListIter.at q k
  | false => exact Heap.IsTupleIter.at q k
theorem drawsB {prog : Program} {w : World} {A : Around} (hA : A.handled = none) (b : Bool) (it a : Addr) (hne : a ≠ it) (its : Array Value) : Draws prog w A it [it, a] its.size (fun i v => its[i]? = some v) (fun i h => ItB b h it a i ∧ SeqB b h a its) := by
  cases b with
  | true => exact Draws.list hA it a hne its
  | false => exact Draws.tuple hA it a hne its
theorem seqB_of {X : Cx} {pins : List (Addr × Obj)} {σ : L2.St} {H : Hp} {s : Shared} {a : Addr} {xs : List V} {b : Bool} (I : Inv X pins σ H s) (h : SqB X.K b H a xs) : ∃ its, Vals xs its ∧ SeqB b s.heap a its.toArray ∧ a < s.heap.objs.size := by
  cases b with
  | true =>
    obtain ⟨its, rv, p, _⟩ := I.list h
    exact ⟨its, rv, p.isList, p.lt⟩
  | false =>
    obtain ⟨its, rv, p, _⟩ := I.tuple h
    obtain ⟨o, ho, _⟩ := id p
    exact ⟨its, rv, p, Heap.lt_size ho⟩
theorem sqB_inj {X : Cx} {pins : List (Addr × Obj)} {σ : L2.St} {H : Hp} {s : Shared} {a : Addr} {xs ys : List V} {b : Bool} (I : Inv X pins σ H s) (h : SqB X.K b H a xs) (h' : SqB X.K b H a ys) : xs = ys := by
  cases b with
  | true => exact I.list_inj h h'
  | false => exact I.tuple_inj h h'
theorem beginsB (b : Bool) (a : Addr) (its : Array Value) : ∃ o, Begins (.ref a) o (fun h => SeqB b h a its) ∧ ∀ (h : Heap) (it : Addr), h.get? it = some o → ItB b h it a 0 := by
  cases b with
  | true => exact ⟨_, begins_list a its, fun h it e => ⟨_, e, rfl, rfl⟩⟩
  | false => exact ⟨_, begins_tuple a its, fun h it e => ⟨_, e, rfl, rfl⟩⟩
def Itz3B (K : PySem.W.Frag) (x1 x2 x3 : Bool) (a b c : Addr) : It :=
  ⟨fun i H => ∃ (xs ys zs : List V) (x y z : V), SqB K x1 H a xs ∧ SqB K x2 H b ys ∧ SqB K x3 H c zs ∧ xs[i]? = some x ∧ ys[i]? = some y ∧ zs[i]? = some z,
    fun i H v H' => ∃ T x y z, v = .ref T ∧ H T = none ∧ H' = upd H T (.tup [x, y, z]) ∧ (∀ xs, SqB K x1 H a xs → xs[i]? = some x) ∧ (∀ ys, SqB K x2 H b ys → ys[i]? = some y) ∧ ∀ zs, SqB K x3 H c zs → zs[i]? = some z,
    fun i H => ∃ xs ys zs : List V, SqB K x1 H a xs ∧ SqB K x2 H b ys ∧ SqB K x3 H c zs ∧ i ≤ xs.length ∧ i ≤ ys.length ∧ i ≤ zs.length ∧ (i = xs.length ∨ i = ys.length ∨ i = zs.length)⟩
theorem turn_zip3B {P : Program} {w : World} {K : PySem.W.Frag} {elts : List Expr} {kk : Nat} {tpos : Pos} {x1 x2 x3 : Bool} {a b c z TI TO i1 i2 i3 : Addr} (S : ZipSep3 z TI TO i1 i2 i3 [i1, a] [i2, b] [i3, c]) (na : a ≠ i1) (nb : b ≠ i2) (nc : c ≠ i3) :
    Turn P w K (.Tuple elts kk tpos) (Itz3B K x1 x2 x3 a b c) [z, TI, TO, i1, i2, i3] z (fun i h => IsZip h z TI TO .none ∧ IsTupOf3 h TI (.ref i1) (.ref i2) (.ref i3) ∧ (∃ x y u, IsTupOf3 h TO x y u) ∧ ItB x1 h i1 a i ∧ ItB x2 h i2 b i ∧ ItB x3 h i3 c i) where
  mem := by simp
  obj := fun i h st c hc => by
    obtain ⟨hz, hTI, ⟨x, y, u, hTO⟩, h1, h2, h3⟩ := st
    have e' : c = z ∨ c = TI ∨ c = TO ∨ c = i1 ∨ c = i2 ∨ c = i3 := by simpa using hc
    rcases e' with q | q | q | q | q | q
    · rw [q]; exact ⟨_, hz, fun v q => nomatch q⟩
    · rw [q]; exact ⟨_, hTI, fun v q => nomatch q⟩
    · rw [q]; exact ⟨_, hTO, fun v q => nomatch q⟩
    · rw [q]; exact ItB.obj h1
    · rw [q]; exact ItB.obj h2
    · rw [q]; exact ItB.obj h3
  keep := fun i h h' st k => by
    obtain ⟨hz, hTI, ⟨x, y, u, hTO⟩, h1, h2, h3⟩ := st
    exact ⟨k z (by simp) _ hz, k TI (by simp) _ hTI, ⟨x, y, u, k TO (by simp) _ hTO⟩, ItB.at h1 fun o q => k i1 (by simp) o q, ItB.at h2 fun o q => k i2 (by simp) o q, ItB.at h3 fun o q => k i3 (by simp) o q⟩
  item := by
    intro X hP hw hK hc i pins s σ H E I hf st hg
    subst hP hw hK
    obtain ⟨hz, hTI, ⟨x0, y0, u0, hTO⟩, h1, h2, h3⟩ := st
    obtain ⟨xs, ys, zs, x, y, z', hqx, hqy, hqz, hx, hy, hzz⟩ := hg
    obtain ⟨its, rv, p, _⟩ := seqB_of I hqx
    obtain ⟨its2, rv2, p2, _⟩ := seqB_of I hqy
    obtain ⟨its3, rv3, p3, _⟩ := seqB_of I hqz
    obtain ⟨u, hu, ru⟩ := rv.get hx
    obtain ⟨u2, hu2, ru2⟩ := rv2.get hy
    obtain ⟨u3, hu3, ru3⟩ := rv3.get hzz
    have hzl : z < s.heap.objs.size := Heap.lt_size hz
    have lt : ∀ {l : List Value} {v : Value}, l[i]? = some v → i < l.toArray.size := fun {l v} e => by rw [List.size_toArray]; exact (List.getElem?_eq_some_iff.mp e).1
    refine wpAny_pyNext_zipD3_item S (drawsB (A := X.A.in1) (I.ok.hd hc) x1 i1 a na its.toArray) (drawsB (A := X.A.in1) (I.ok.hd hc) x2 i2 b nb its2.toArray) (drawsB (A := X.A.in1) (I.ok.hd hc) x3 i3 c nc its3.toArray) hz hTI hTO ⟨h1, p⟩ ⟨h2, p2⟩ ⟨h3, p3⟩ (lt hu) (lt hu2) (lt hu3) fun v1 v2 v3 h' tk y1 y2 y3 zh TO' d1 d2 d3 hT hsz hk => ?_
    have ev : ∀ {l : List Value} {v v' : Value}, l.toArray[i]? = some v' → l[i]? = some v → v' = v := fun {l v v'} e1 e2 => by
      rw [List.getElem?_toArray, e2] at e1; exact (Option.some.inj e1).symm
    obtain rfl := ev y1 hu
    obtain rfl := ev y2 hu2
    obtain rfl := ev y3 hu3
    refine ⟨_, rfl, wpAny_letOwnedTupleGo_zip (s := { s with heap := h', toks := tk }) zh fun h'' z'' sb => ?_⟩
    have hT2 : h''.get? s.heap.objs.size = some { cls := .type "tuple", data := .seq #[v1, v2, v3] } := (sb.2 _ (Nat.ne_of_gt hzl)).trans hT
    have new : ObjOk X.prog X.w (upd H s.heap.objs.size (.tup [x, y, z'])) h'' s.heap.objs.size (.tup [x, y, z']) :=
      ⟨by show 3 ≤ sizeLine; decide, [v1, v2, v3], .cons ru (.cons ru2 (.cons ru3 .nil)), ⟨_, hT2, rfl, _, rfl⟩⟩
    have I1 : Inv X pins σ (upd H s.heap.objs.size (.tup [x, y, z'])) { s with heap := h'', toks := tk } :=
      I.turnedNew (ch := [z, TI, TO, i1, i2, i3]) (fun c o hb q => (sb.2 c (fun q' => hb (by simp [q']))).trans (hk c o (fun q' => hb (by simp [q'])) (fun q' => hb (by simp [q'])) (fun q' => hb (by simp [q'])) (fun q' => hb (by simp [q'])) (fun q' => hb (by simp [q'])) q)) hf (Nat.le_refl _) new
    refine ⟨.ref s.heap.objs.size, _, I1, rfl, ⟨_, x, y, z', rfl, I.hok.fresh (Nat.le_refl _), rfl, fun l hl => by rw [sqB_inj I hl hqx]; exact hx, fun l hl => by rw [sqB_inj I hl hqy]; exact hy, fun l hl => by rw [sqB_inj I hl hqz]; exact hzz⟩, ⟨z'', ?_, ⟨v1, v2, v3, ?_⟩, ?_, ?_, ?_⟩, fun c hcm => ?_⟩
    · exact (sb.2 _ S.TIz).trans (hk _ _ S.TIz S.TITO S.TIi1 S.TIi2 S.TIi3 hTI)
    · exact (sb.2 _ S.TOz).trans TO'
    · exact ItB.at d1.1 fun o q => (sb.2 _ (Ne.symm S.zi1)).trans q
    · exact ItB.at d2.1 fun o q => (sb.2 _ (Ne.symm S.zi2)).trans q
    · exact ItB.at d3.1 fun o q => (sb.2 _ (Ne.symm S.zi3)).trans q
    · have hlt : c < s.heap.objs.size := by
        have e' : c = z ∨ c = TI ∨ c = TO ∨ c = i1 ∨ c = i2 ∨ c = i3 := by simpa using hcm
        rcases e' with q | q | q | q | q | q
        · rw [q]; exact hzl
        · rw [q]; exact Heap.lt_size hTI
        · rw [q]; exact Heap.lt_size hTO
        · rw [q]; obtain ⟨_, e1, _⟩ := ItB.obj h1; exact Heap.lt_size e1
        · rw [q]; obtain ⟨_, e2, _⟩ := ItB.obj h2; exact Heap.lt_size e2
        · rw [q]; obtain ⟨_, e3, _⟩ := ItB.obj h3; exact Heap.lt_size e3
      rw [upd_ne (Nat.ne_of_lt hlt)]
      exact (hf c hcm).1
  done := by
    intro X hP hw hK hc i pins s σ H E I hf st hg
    subst hP hw hK
    obtain ⟨hz, hTI, ⟨x0, y0, u0, hTO⟩, h1, h2, h3⟩ := st
    obtain ⟨xs, ys, zs, hqx, hqy, hqz, e1, e2, e3, hend⟩ := hg
    obtain ⟨its, rv, p, _⟩ := seqB_of I hqx
    obtain ⟨its2, rv2, p2, _⟩ := seqB_of I hqy
    obtain ⟨its3, rv3, p3, _⟩ := seqB_of I hqz
    have l1 := rv.length
    have l2 := rv2.length
    have l3 := rv3.length
    exact wpAny_pyNext_zipD3_end S (drawsB (A := X.A.in1) (I.ok.hd hc) x1 i1 a na its.toArray) (drawsB (A := X.A.in1) (I.ok.hd hc) x2 i2 b nb its2.toArray) (drawsB (A := X.A.in1) (I.ok.hd hc) x3 i3 c nc its3.toArray) hz hTI hTO ⟨h1, p⟩ ⟨h2, p2⟩ ⟨h3, p3⟩ (by rw [List.size_toArray]; omega) (by rw [List.size_toArray]; omega) (by rw [List.size_toArray]; omega) (by rw [List.size_toArray, List.size_toArray, List.size_toArray]; omega)
      fun h' tk hk => ⟨rfl, I.turnedL (t' := tk) (ch := [z, TI, TO, i1, i2, i3]) (fun c o hb q =>
      hk c o (fun q' => hb (by simp [q'])) (fun q' => hb (by simp [q'])) (fun q' => hb (by simp [q'])) (fun q' => hb (by simp [q'])) (fun q' => hb (by simp [q'])) q) hf⟩
  self := fun A i s Q E st h => wpAny_pyIter_zip st.1 h
theorem walk_zip3B {K : PySem.W.Frag} {x1 x2 x3 : Bool} {a b c : Addr} {xs ys zs : List V} {n : Nat} (hn : n = min (min xs.length ys.length) zs.length) : Walk (Itz3B K x1 x2 x3 a b c) n (fun H => SqB K x1 H a xs ∧ SqB K x2 H b ys ∧ SqB K x3 H c zs) (YTrip (fun i => xs[i]?) (fun i => ys[i]?) (fun i => zs[i]?)) := by
  subst hn
  refine ⟨fun i _ hi q => ?_, fun _ q => ⟨xs, ys, zs, q.1, q.2.1, q.2.2, by omega, by omega, by omega, by omega⟩, fun i H v H' _ q y => ?_⟩
  · have h1 : i < xs.length := by omega
    have h2 : i < ys.length := by omega
    have h3 : i < zs.length := by omega
    exact ⟨xs, ys, zs, xs[i], ys[i], zs[i], q.1, q.2.1, q.2.2, by simp [h1], by simp [h2], by simp [h3]⟩
  · obtain ⟨T, x, y, z, h1, h2, h3, h4, h5, h6⟩ := y
    exact ⟨T, x, y, z, h1, h2, h3, h4 xs q.1, h5 ys q.2.1, h6 zs q.2.2⟩
def iZ3B (K : PySem.W.Frag) (ta : TA) : TI := fun σ H R => ta σ H fun vs H1 => ∃ a b c x1 x2 x3 xs ys zs, vs = [.ref a, .ref b, .ref c] ∧ SqB K x1 H1 a xs ∧ SqB K x2 H1 b ys ∧ SqB K x3 H1 c zs ∧
  ∀ J, Walk J (min (min xs.length ys.length) zs.length) (fun H => Same H1 H) (YTrip (fun i => xs[i]?) (fun i => ys[i]?) (fun i => zs[i]?)) → R J H1
theorem pi_z3B {X : Cx} {e e2 e3 : Expr} {ta : TA} {p pos tpos : Pos} {elts : List Expr} {kk : Nat} (hg : Gl X "zip") (hm : X.mg "zip" = none) (ha : PA X [e, e2, e3] ta)
    (hs : starEach [e, e2, e3] X.env = (false, eval e X.env) :: starEach [e2, e3] X.env := by rfl) (hpl : (backTo pos (starEach [e2, e3] X.env)).any (·.1) = false := by rfl) :
    PI X (.Tuple elts kk tpos) (.Call (.Name "zip" p) [e, e2, e3] [] pos) (iZ3B X.K ta) := by
  refine ⟨fun pins s σ H R I h => ?_⟩
  refine Call_ (ld_blt I hg hm PyProof.Rows.boot_zip (PyProof.Rows.callWith_type1 (thn (ha.run pos pins s σ H _ I h) fun us s1 ⟨vs, H1, I1, r1, q1⟩ => ?_) hs hpl))
  obtain ⟨a, b, c, x1, x2, x3, xs, ys, zs, ex, hqx, hqy, hqz, q⟩ := q1
  subst ex
  cases r1 with
  | cons r rr =>
    cases rr with
    | cons r' rr =>
      cases rr with
      | cons r'' rr =>
        cases rr
        cases r
        cases r'
        cases r''
        obtain ⟨its, rv, p1, la⟩ := seqB_of I1 hqx
        obtain ⟨its2, rv2, p2, lb⟩ := seqB_of I1 hqy
        obtain ⟨its3, rv3, p3, lc⟩ := seqB_of I1 hqz
        obtain ⟨o1, B1, k1⟩ := beginsB x1 a its.toArray
        obtain ⟨o2, B2, k2⟩ := beginsB x2 b its2.toArray
        obtain ⟨o3, B3, k3⟩ := beginsB x3 c its3.toArray
        have S := zip_sep3 (N := s1.heap.objs.size) (fp1 := [a]) (fp2 := [b]) (fp3 := [c]) (fun x hx => by rw [List.mem_singleton.mp hx]; exact la) (fun x hx => by rw [List.mem_singleton.mp hx]; exact lb) (fun x hx => by rw [List.mem_singleton.mp hx]; exact lc)
        refine zip_begins3 B1 B2 B3 p1 p2 p3 fun h' hz hTI hTO h1 h2 h3 hsz hk => wpAny_pyIter_zip hz ?_
        have I2 : Inv X pins σ H1 { s1 with heap := h' } := I1.kept (t' := s1.toks) hk
        refine ⟨s1.heap.objs.size + 5, [s1.heap.objs.size + 5, s1.heap.objs.size + 3, s1.heap.objs.size + 4, s1.heap.objs.size, s1.heap.objs.size + 1, s1.heap.objs.size + 2], _, _, H1, rfl, I2, turn_zip3B S (Nat.ne_of_lt la) (Nat.ne_of_lt (Nat.lt_succ_of_lt lb)) (Nat.ne_of_lt (Nat.lt_succ_of_lt (Nat.lt_succ_of_lt lc))), ⟨hz, hTI, ⟨_, _, _, hTO⟩, k1 _ _ h1, k2 _ _ h2, k3 _ _ h3⟩, fun x hcm => ?_, q _ ((walk_zip3B rfl).mono (fun H s => ⟨Same.sqB s hqx, Same.sqB s hqy, Same.sqB s hqz⟩) fun _ _ _ _ _ _ y => y)⟩
        have e' : x = s1.heap.objs.size + 5 ∨ x = s1.heap.objs.size + 3 ∨ x = s1.heap.objs.size + 4 ∨ x = s1.heap.objs.size ∨ x = s1.heap.objs.size + 1 ∨ x = s1.heap.objs.size + 2 := by simpa using hcm
        have hle : s1.heap.objs.size ≤ x := by
          rcases e' with z | z | z | z | z | z
          · rw [z]; exact Nat.le_add_right _ _
          · rw [z]; exact Nat.le_add_right _ _
          · rw [z]; exact Nat.le_add_right _ _
          · rw [z]; exact Nat.le_refl _
          · rw [z]; exact Nat.le_add_right _ _
          · rw [z]; exact Nat.le_add_right _ _
        exact I1.fpOk hle (I1.hok.fresh hle)
end XL
namespace XL
open PySem PySem.Spec PyProof.Rows L2
/-! ### enumerate of a list or a tuple, nothing of it changed meanwhile -/
def iEnumA (K : PySem.W.Frag) (ta : TA) : TI := fun σ H R => ta σ H fun vs H1 => ∃ a xs bb, ∃ C : Hp → Prop, vs = [.ref a] ∧ SqB K bb H1 a xs ∧ (∀ H, C H → SqB K bb H a xs) ∧
  ∀ J, Walk J xs.length C (YPair (fun i => some (.int (i : Nat))) (fun i => xs[i]?)) → R J H1
theorem pi_enumA {X : Cx} {e : Expr} {ta : TA} {p pos tpos : Pos} {elts : List Expr} {kk : Nat} (hg : Gl X "enumerate") (hm : X.mg "enumerate" = none) (ha : PA X [e] ta) (hs : starEach [e] X.env = [(false, eval e X.env)] := by rfl) :
    PI X (.Tuple elts kk tpos) (.Call (.Name "enumerate" p) [e] [] pos) (iEnumA X.K ta) := by
  refine ⟨fun pins s σ H R I h => ?_⟩
  refine Call_ (ld_blt I hg hm boot_enumerate (PyProof.Rows.callWith_type1 (thn (ha.run pos pins s σ H _ I h) fun us s1 ⟨vs, H1, I1, r1, q1⟩ => ?_) hs rfl))
  obtain ⟨a, xs, bb, C, ex, qa, hC, q⟩ := q1
  subst ex
  cases r1 with
  | cons r rr =>
    cases rr
    cases r
    have fresh2 : ∀ b, b ∈ [s1.heap.objs.size + 1, s1.heap.objs.size] → FpOk X pins H1 b := fun b hb => by
      have e' : b = s1.heap.objs.size + 1 ∨ b = s1.heap.objs.size := by simpa using hb
      have hle : s1.heap.objs.size ≤ b := by
        rcases e' with z | z
        · rw [z]; exact Nat.le_add_right _ _
        · rw [z]; exact Nat.le_refl _
      exact I1.fpOk hle (I1.hok.fresh hle)
    cases bb with
    | true =>
      have hq : SqL X.K H1 a xs := qa
      obtain ⟨its, rv, p', hz⟩ := I1.list hq
      refine call_enumerate_list p'.isList fun h' he hit hsz hk => wpAny_pyIter_enum he ?_
      have I2 : Inv X pins σ H1 { s1 with heap := h' } := I1.kept (t' := s1.toks) hk
      exact ⟨s1.heap.objs.size + 1, [s1.heap.objs.size + 1, s1.heap.objs.size], _, _, H1, rfl, I2, turn_enum a (s1.heap.objs.size + 1) s1.heap.objs.size, ⟨⟨.none, he⟩, hit, Nat.succ_ne_self _⟩, fresh2, q _ (walk_enum.mono (fun H s => hC H s) fun _ _ _ _ _ _ y => y)⟩
    | false =>
      have hq : SqT X.K H1 a xs := qa
      obtain ⟨its, rv, p', hz⟩ := I1.tuple hq
      refine PySem.XEn.begins1 (begins_tuple a its.toArray) (show s1.heap.IsTuple a its.toArray from p') fun h' he hit hsz hk => wpAny_pyIter_enum he ?_
      have I2 : Inv X pins σ H1 { s1 with heap := h' } := I1.kept (t' := s1.toks) hk
      exact ⟨s1.heap.objs.size + 1, [s1.heap.objs.size + 1, s1.heap.objs.size], _, _, H1, rfl, I2, turn_enumT a (s1.heap.objs.size + 1) s1.heap.objs.size, ⟨⟨.none, he⟩, ⟨_, hit, rfl, rfl⟩, Nat.succ_ne_self _⟩, fresh2, q _ (walk_enumT.mono (fun H s => hC H s) fun _ _ _ _ _ _ y => y)⟩
end XL
namespace XL
open PySem PySem.Spec PyProof.Rows L2
abbrev sRd : Stmt := topS 37
theorem rowIn_nums {t : List Nat} {w : List Nat} {n : Nat} {ns : List Nat} (h : rowIn (some t) w n = some ns) : numsIn ((TL.spl [32] 0 [] t).drop 1) = some ns := by
  unfold rowIn at h
  split at h
  · exact h
  · cases h
theorem head_some {t : List Nat} {r b : Nat} (h : headIn (some t) = some (r, b)) : numsIn ((TL.spl [32] 0 [] t).drop 1) = some [r, b] := by
  unfold headIn at h
  cases e : rowIn (some t) (TL.tl (Str.ofString "canal")) 2 with
  | none => rw [e] at h; cases h
  | some ns =>
    rw [e] at h
    have hl := rowIn_leq e
    match ns, hl with
    | [x, y], _ =>
    have h' : (if x = 0 ∨ y = 0 then none else some (x, y)) = some (r, b) := h
    split at h'
    · cases h'
    · cases h'
      exact rowIn_nums e
theorem gate_some {t : List Nat} {r b : Nat} {l : Lk} (h : gateIn r b (some t) = some l) : ∃ a c x y : Nat, numsIn ((TL.spl [32] 0 [] t).drop 1) = some [a, c, x, y] ∧ endsV l = [a, c, x, y].map fun n => V.int (n : Nat) := by
  unfold gateIn at h
  cases e : rowIn (some t) (TL.tl (Str.ofString "lock")) 4 with
  | none => rw [e] at h; cases h
  | some ns =>
    rw [e] at h
    have hl := rowIn_leq e
    match ns, hl with
    | [a, c, x, y], _ =>
    have h' : (if a < r ∧ c < r ∧ x < b ∧ y < b then some (((a : Nat) : Int), ((c : Nat) : Int), ((x : Nat) : Int), ((y : Nat) : Int)) else none) = some l := h
    split at h'
    · cases h'
      exact ⟨a, c, x, y, rowIn_nums e, rfl⟩
    · cases h'
section
variable {P : Program} {w : World} {K : PySem.W.Frag} {mg : Str → Option Value} {base : Heap}
abbrev nRd : List Str := ["_law_sheet", "_law_lines", "_law_sizes", "_law_gates", "_law_at", "_law_line"]
theorem scRd : FnScope nRd ["_law_sheet"] (defScope sRd) := ⟨rfl, rfl, rfl, by decide +kernel, rfl, by decide +kernel, by decide +kernel⟩
def spRd (K : PySem.W.Frag) : Sp := fun vs H Q _ => ∃ (x : Str), vs = [.str x] ∧ x.length ≤ 90000 ∧ Asc x ∧
  (∀ (i : Nat) (H' : Hp), readT (TL.tl x) = .error i → Same H H' → Q (.int (i : Nat)) H') ∧
  (∀ (c : Cn) (p : Addr) (H' : Hp), readT (TL.tl x) = .ok c → Same H H' → Dp K H' (.ref p) (cnD c) → Q (.ref p) H')
theorem ok_rd {f fh fg fl : Addr} {fd fdh fdg fdl : FuncData} {k : Nat} (F : Fun K "_law_read" "_law_read" sRd f fd) (Ih : Fns P w K mg base k "_law_is_head" ["_law_line"] (spIh K) fh fdh) (Ig : Fns P w K mg base k "_law_is_gate" ["_law_line", "_law_sizes"] (spIg K) fg fdg) (Ls : Fns P w K mg base k "_law_numbers_in" ["_law_words"] (spLs K) fl fdl) (m_tuple : mg "tuple" = none) (m_enumerate : mg "enumerate" = none) : FnOk P w K mg base CX0 (k + 1) f fd ["_law_sheet"] (spRd K) := by
  refine F.ok scRd (fun vs H Q E h => ?_) (fun cdv A outer s0 H vs Q E hr h => ?_)
  · obtain ⟨x, rfl, _⟩ := h
    rfl
  obtain ⟨x, rfl, hx, hA, qe, qs⟩ := h
  refine ⟨_, (pss_cons (ps_set (i := 1) scRd.nd rfl (.inl rfl) (pe_split (pv 0) pe_str))
    (pss_cons (ps_if (pt_not (pt_val (pe_fn Ih hr rfl (pa_cons (pe_ix (r := rIxA K) ix_any (pv 1) pe_int (fun _ _ => rfl)) pa_nil)))) (pss_one (ps_ret pe_int)) pss_nil)
    (pss_cons (ps_par (i := 2) (j := 3) rfl scRd.nd rfl rfl (by decide) rfl rfl (pa_cons (pe_fn Ls hr rfl (pa_cons (pe_slice sl_list (pe_split (pe_ix (r := rIxA K) ix_any (pv 1) pe_int (fun _ _ => rfl)) pe_str) (po_some pe_int) po_none) pa_nil)) (pa_cons (pe_lst pa_nil) pa_nil)) rfl)
    (pss_cons (ps_for PassesOwn.never rfl (pi_enumA rfl m_enumerate (pa_cons (pe_slice sl_list (pv 1) (po_some pe_int) po_none) pa_nil)) (pg_any rfl (pgs_cons (pg_name (i := 4) scRd.nd rfl (.inl rfl)) (pgs_cons (pg_name (i := 5) scRd.nd rfl (.inl rfl)) pgs_nil)))
    (pss_cons (ps_if (pt_not (pt_val (pe_fn Ig hr rfl (pa_cons (pv 5) (pa_cons (pv 2) pa_nil))))) (pss_one (ps_ret (pe_op op_add (pv 4) pe_int))) pss_nil)
    (pss_one (ps_expr (pe_bm PySem.F.plainAttrs_list PySem.F.slot_list_append PySem.F.type_list_append mt_append (pv 3) (pa_cons (pe_callTy (r := rTupA K) call_tupleA rfl m_tuple boot_tuple (pa_cons (pe_fn Ls hr rfl (pa_cons (pe_slice (r := rSlL K) sl_list (pe_split (pv 5) pe_str) (po_some pe_int) po_none) pa_nil)) pa_nil)) pa_nil))))))
    (pss_one (ps_ret (pe_tup (pa_cons (pe_ix (r := rIxA K) ix_any (pv 2) pe_int (fun _ _ => rfl)) (pa_cons (pe_ix (r := rIxA K) ix_any (pv 2) pe_int (fun _ _ => rfl)) (pa_cons (pe_callTy (r := rTupA K) call_tupleA rfl m_tuple boot_tuple (pa_cons (pv 3) pa_nil)) pa_nil)))))))))), ?_⟩
  have enl : ((Str.ofString "\n").length == 0) = false := by decide +kernel
  have esp : ((Str.ofString " ").length == 0) = false := by decide +kernel
  obtain ⟨hl1, hl2⟩ := lines_ok hx hA
  have hpt : ∀ y ∈ Txt.split x (Str.ofString "\n"), y.length ≤ x.length := fun y hy => part_short hy
  have hls := split_nl x
  have hps := split_pos x (Str.ofString "\n")
  refine ⟨_, rfl, ⟨x, rfl⟩, x, _, rfl, rfl, enl, by rw [sizeLine_eq]; omega, fun L nL => ?_⟩
  unfold readT at qe qs
  rw [← hls] at qe qs
  generalize Txt.split x (Str.ofString "\n") = ls at *
  obtain ⟨t0, lr, rfl⟩ : ∃ t0 lr, ls = t0 :: lr := by
    cases ls with
    | nil => simp at hps
    | cons a r => exact ⟨a, r, rfl⟩
  have s1 := same_new nL (o := .lst ((t0 :: lr).map V.str))
  have eL : (upd H L (.lst ((t0 :: lr).map V.str))) L = some (.lst ((t0 :: lr).map V.str)) := upd_same
  generalize upd H L (.lst ((t0 :: lr).map V.str)) = H1 at s1 eL
  refine at_g (σ' := [some (.str x), some (.ref L), none, none, none, none]) rfl ?_
  have t0l := hpt t0 List.mem_cons_self
  have rc : readC ((t0 :: lr).map TL.tl) = (match headIn (some (TL.tl t0)) with | none => .error 0 | some (r, b) => match gatesIn r b (lr.map TL.tl) 1 with | .error j => .error j | .ok gs => .ok ⟨(r : Nat), (b : Nat), gs⟩) := rfl
  rw [rc] at qe qs
  refine ⟨_, rfl, L, _, 0, _, rfl, rfl, .inl (SqL.of eL), atI_int (by decide) rfl, nil_go ⟨t0, rfl, by omega, fun H2 s2 => ⟨_, rfl, ?_⟩⟩⟩
  have s12 := s1.trans s2
  have eL2 := s2 _ _ eL
  cases hh : headIn (some (TL.tl t0)) with
  | none =>
    rw [hh] at qe
    exact iteT (qe 0 H2 rfl s12)
  | some rb =>
    obtain ⟨r, b⟩ := rb
    rw [hh] at qe qs
    dsimp only at qe qs
    have hn0 := head_some hh
    refine iteF ⟨_, rfl, L, _, 0, _, rfl, rfl, .inl (SqL.of eL2), atI_int (by decide) rfl, ⟨t0, rfl⟩, t0, _, rfl, rfl, esp, by rw [sizeLine_eq]; omega, fun p np => ?_⟩
    have q1 := same_new np (o := .lst ((Txt.split t0 (Str.ofString " ")).map V.str))
    have f1 : (upd H2 p (.lst ((Txt.split t0 (Str.ofString " ")).map V.str))) p = some (.lst ((Txt.split t0 (Str.ofString " ")).map V.str)) := upd_same
    generalize upd H2 p (.lst ((Txt.split t0 (Str.ofString " ")).map V.str)) = F1 at q1 f1
    refine ⟨1, rfl, p, _, rfl, SqL.of f1, fun p2 np2 => ?_⟩
    rw [cut_from1, ← List.map_drop]
    have q2 := same_new np2 (o := .lst (((Txt.split t0 (Str.ofString " ")).drop 1).map V.str))
    have hd : ((Txt.split t0 (Str.ofString " ")).drop 1).map TL.tl = (TL.spl [32] 0 [] (TL.tl t0)).drop 1 := by rw [List.map_drop, split_sp]
    refine nil_go ⟨p2, (Txt.split t0 (Str.ofString " ")).drop 1, rfl, SqL.of upd_same, fun y hy => ?_, ?_, fun F3 hn s3 => ?_, fun ns' M F3 hs s3 nM eM => ?_⟩
    · have := part_short (List.mem_of_mem_drop hy)
      rw [sizeLine_eq]; omega
    · have := split_le t0 (Str.ofString " ")
      rw [List.length_drop]; omega
    · rw [hd, hn0] at hn; cases hn
    rw [hd, hn0] at hs
    obtain rfl := Option.some.inj hs
    have s13 := s12.trans (q1.trans (q2.trans s3))
    have eL3 := (q1.trans (q2.trans s3)) _ _ eL2
    clear q1 q2 s3 f1 np np2 nM s12 eL2 s2
    refine ⟨(by show 0 ≤ sizeLine; decide), fun D nD => ?_⟩
    have nDH : H D = none := s13.free nD
    have s4 := same_new nD (o := .lst [])
    have eD : (upd F3 D (.lst [])) D = some (.lst ([] : List V)) := upd_same
    have eL4 := s4 _ _ eL3
    have eM4 := s4 _ _ eM
    have s14 := s13.trans s4
    refine nil_go ⟨_, _, rfl, ?_⟩
    refine at_s (σ' := [some (.str x), some (.ref L), some (.ref M), some (.ref D), none, none]) rfl ?_
    have LD : L ≠ D := fun z => by rw [← z, eL3] at nD; cases nD
    have MD : M ≠ D := fun z => by rw [← z, eM] at nD; cases nD
    generalize upd F3 D (.lst ([] : List V)) = F4 at eD eL4 eM4 s14
    clear s4 nD eM eL3 s13
    refine ⟨_, rfl, 1, rfl, L, _, rfl, SqL.of eL4, fun p np => ?_⟩
    rw [cut_from1, List.map_cons, List.drop_succ_cons, List.drop_zero]
    have s5 := same_new np (o := .lst (lr.map V.str))
    have ep : (upd F4 p (.lst (lr.map V.str))) p = some (.lst (lr.map V.str)) := upd_same
    have eD5 := s5 _ _ eD
    have eM5 := s5 _ _ eM4
    have pD : p ≠ D := fun z => by rw [z, eD] at np; cases np
    have s15 := s14.trans s5
    generalize upd F4 p (.lst (lr.map V.str)) = G at ep eD5 eM5 s15
    clear s5 np eD eL4 eM4 s14
    have lrl : lr.length ≤ 100000 := by rw [List.length_cons] at hl2; omega
    have lrat : ∀ j : Nat, (lr.map TL.tl)[j]? = (lr[j]?).map TL.tl := fun j => by rw [List.getElem?_map]
    refine nil_go ⟨p, _, true, fun Z => Z p = some (.lst (lr.map V.str)), rfl, SqL.of ep, fun Z e => SqL.of e, fun J wk => for_it wk (fun i σ Z => ∃ (y4 y5 : Option V) (zs : List V), σ = [some (.str x), some (.ref L), some (.ref M), some (.ref D), y4, y5] ∧ (∀ a o, a ≠ D → G a = some o → Z a = some o) ∧ Z D = some (.lst zs) ∧ zs.length = i ∧ ∀ (j : Nat) (z : V), zs[j]? = some z → ∃ (l : Lk) (q : Addr), gateIn r b (lr.map TL.tl)[j]? = some l ∧ z = V.ref q ∧ Z q = some (.tup (endsV l))) ⟨none, none, [], rfl, fun a o _ e => e, eD5, rfl, fun j z hz => by cases hz⟩ (fun j σ Z _ h => ?_) (fun j z σ Z Z' hj h hy => ?_) (fun σ Z h => ?_)⟩
    · obtain ⟨_, _, _, _, sZ, _⟩ := h
      exact sZ _ _ pD ep
    · obtain ⟨y4, y5, zs, rfl, sZ, eZ, zl, hz⟩ := h
      obtain ⟨tp, u1, u2, rfl, ntp, rfl, e1, e2⟩ := hy
      obtain rfl := (Option.some.inj e1).symm
      have e2 : (lr.map V.str)[j]? = some u2 := e2
      rw [List.getElem?_map] at e2
      obtain ⟨y, ey, rfl⟩ := Option.map_eq_some_iff.mp e2
      refine ⟨tp, _, rfl, .inr (.inl (.inl upd_same)), rfl, _, _, rfl, _, _, rfl, rfl, ?_⟩
      refine at_s (σ' := [some (.str x), some (.ref L), some (.ref M), some (.ref D), some (.int (j : Nat)), some (.str y)]) rfl ?_
      rw [List.length_map] at hj
      have sZ2 := same_new ntp (o := .tup [.int (j : Nat), .str y])
      generalize upd Z tp (.tup [.int (j : Nat), .str y]) = Z2 at sZ2
      have eMZ := sZ _ _ MD eM5
      have yl := hpt y (List.mem_cons_of_mem _ (List.mem_of_getElem? ey))
      have base : ∀ Z3 : Hp, Same Z2 Z3 → Same H Z3 := fun Z3 s a o e => s _ _ (sZ2 _ _ (sZ _ _ (fun z => by rw [z, nDH] at e; cases e) (s15 _ _ e)))
      refine ⟨_, rfl, _, rfl, nil_go ⟨y, M, r, b, rfl, by omega, .inl (SqL.of (sZ2 _ _ eMZ)), fun Z3 s3 => ⟨_, rfl, ?_⟩⟩⟩
      have gat : (lr.map TL.tl)[j]? = some (TL.tl y) := by rw [lrat, ey]; rfl
      cases hg : gateIn r b (some (TL.tl y)) with
      | none =>
        refine iteT ⟨_, rfl, _, _, rfl, rfl, ?_⟩
        have er : gatesIn r b (lr.map TL.tl) 1 = .error (1 + j) := gatesIn_err (by rw [List.length_map]; exact hj) (fun m hm => by
          obtain ⟨u, eu⟩ : ∃ u, zs[m]? = some u := ⟨_, List.getElem?_eq_getElem (by omega)⟩
          obtain ⟨l, _, h1, _⟩ := hz m u eu
          exact ⟨l, h1⟩) (by rw [gat]; exact hg)
        have q := qe (1 + j) Z3 (by rw [er]) (base Z3 s3)
        show Q (.int (((j : Nat) : Int) + 1)) Z3
        rw [show (((j : Nat) : Int) + 1) = ((1 + j : Nat) : Int) by omega]
        exact q
      | some l =>
        obtain ⟨n1, n2, n3, n4, hnum, hends⟩ := gate_some hg
        have eD3 := s3 _ _ (sZ2 _ _ eZ)
        refine iteF ⟨_, rfl, .inl ⟨rfl, _, SqL.of eD3⟩, ?_⟩
        refine ⟨_, rfl, ⟨y, rfl⟩, y, _, rfl, rfl, esp, by rw [sizeLine_eq]; omega, fun p4 np4 => ?_⟩
        have q1 := same_new np4 (o := .lst ((Txt.split y (Str.ofString " ")).map V.str))
        have f1 : (upd Z3 p4 (.lst ((Txt.split y (Str.ofString " ")).map V.str))) p4 = some (.lst ((Txt.split y (Str.ofString " ")).map V.str)) := upd_same
        generalize upd Z3 p4 (.lst ((Txt.split y (Str.ofString " ")).map V.str)) = F1 at q1 f1
        refine ⟨1, rfl, p4, _, rfl, SqL.of f1, fun p5 np5 => ?_⟩
        rw [cut_from1, ← List.map_drop]
        have q2 := same_new np5 (o := .lst (((Txt.split y (Str.ofString " ")).drop 1).map V.str))
        have hd2 : ((Txt.split y (Str.ofString " ")).drop 1).map TL.tl = (TL.spl [32] 0 [] (TL.tl y)).drop 1 := by rw [List.map_drop, split_sp]
        refine nil_go ⟨p5, (Txt.split y (Str.ofString " ")).drop 1, rfl, SqL.of upd_same, fun u hu => ?_, ?_, fun F5 hn s5 => ?_, fun ns2 M2 F5 hs2 s5 nM2 eM2 => ?_⟩
        · have := part_short (List.mem_of_mem_drop hu)
          rw [sizeLine_eq]; omega
        · have := split_le y (Str.ofString " ")
          rw [List.length_drop]; omega
        · rw [hd2, hnum] at hn; cases hn
        rw [hd2, hnum] at hs2
        obtain rfl := Option.some.inj hs2
        refine nil_go ⟨M2, _, rfl, .inl ⟨SqL.of eM2, fun t nt => ?_⟩⟩
        have s6 := same_new nt (o := .tup ([n1, n2, n3, n4].map fun n => V.int (n : Nat)))
        have et : (upd F5 t (.tup ([n1, n2, n3, n4].map fun n => V.int (n : Nat)))) t = some (.tup (endsV l)) := by rw [hends]; exact upd_same
        have s36 := q1.trans (q2.trans (s5.trans s6))
        generalize upd F5 t (.tup ([n1, n2, n3, n4].map fun n => V.int (n : Nat))) = F6 at s6 et s36
        have s26 := s3.trans s36
        have eD6 := s36 _ _ eD3
        refine nil_go ⟨D, _, _, rfl, rfl, eD6, by rw [sizeLine_eq]; omega, ?_⟩
        have tD : t ≠ D := fun w => by rw [w, eD6] at et; cases et
        refine ⟨_, _, zs ++ [.ref t], rfl, fun a o na e => ?_, upd_same, by rw [List.length_append, zl]; rfl, fun m u hu => ?_⟩
        · rw [upd_ne na]
          exact s26 _ _ (sZ2 _ _ (sZ _ _ na e))
        · by_cases hm : m < zs.length
          · rw [List.getElem?_append_left hm] at hu
            obtain ⟨l', q, h1, h2, h3⟩ := hz m u hu
            have h6 := s26 _ _ (sZ2 _ _ h3)
            refine ⟨l', q, h1, h2, ?_⟩
            rw [upd_ne (fun w => by rw [w, eD6] at h6; cases h6)]
            exact h6
          · have hml : m < (zs ++ [V.ref t]).length := (List.getElem?_eq_some_iff.mp hu).1
            rw [List.length_append, List.length_singleton] at hml
            have em : m = zs.length := by omega
            rw [em, List.getElem?_append_right (Nat.le_refl _), Nat.sub_self] at hu
            obtain rfl := Option.some.inj hu
            refine ⟨l, t, by rw [em, zl, gat]; exact hg, rfl, ?_⟩
            rw [upd_ne tD]
            exact et
    · obtain ⟨y4, y5, zs, rfl, sZ, eZ, zl, hz⟩ := h
      rw [List.length_map] at zl
      have eMZ := sZ _ _ MD eM5
      have sHZ : Same H Z := fun a o e => sZ _ _ (fun w => by rw [w, nDH] at e; cases e) (s15 _ _ e)
      obtain ⟨gs, egl, hgs⟩ := pick_list (R := fun i z l => ∃ q, gateIn r b (lr.map TL.tl)[i]? = some l ∧ z = V.ref q ∧ Z q = some (.tup (endsV l))) hz
      have rdok : gatesIn r b (lr.map TL.tl) 1 = .ok gs := gatesIn_ok (by rw [egl, zl, List.length_map]) (fun j hj3 => by
        rw [List.length_map] at hj3
        obtain ⟨z, ez⟩ : ∃ z, zs[j]? = some z := ⟨_, List.getElem?_eq_getElem (by omega)⟩
        obtain ⟨l, h1, q, h2, _⟩ := hgs j z ez
        rw [h2, h1])
      have hzd : DpAll K Z zs (gs.map lkD) := dpall (by rw [List.length_map, egl]) fun i z hz => by
        obtain ⟨l, h1, q, _, rfl, h3⟩ := hgs i z hz
        exact ⟨lkD l, by rw [List.getElem?_map, h1]; rfl, dp_lk (.inl (.inl h3))⟩
      refine ⟨_, rfl, M, _, 0, _, rfl, rfl, .inl (SqL.of eMZ), atI_int (by decide) rfl, _, rfl, M, _, 1, _, rfl, rfl, .inl (SqL.of eMZ), atI_int (by decide) rfl, _, rfl, nil_go ⟨D, zs, rfl, .inl ⟨SqL.of eZ, fun t nt => nil_go ⟨(by show 3 ≤ sizeLine; decide), fun p3 np3 => ?_⟩⟩⟩⟩
      have s3 := same_new nt (o := .tup zs)
      have s4 := same_new np3 (o := .tup [.int (r : Nat), .int (b : Nat), .ref t])
      have et := s4 _ _ (show (upd Z t (.tup zs)) t = some (.tup zs) from upd_same)
      exact qs _ p3 _ (by rw [rdok]) (sHZ.trans (s3.trans s4)) (.tup (.inl (.inl upd_same)) (.cons (.int _) (.cons (.int _) (.cons (.tup (.inl (.inl et)) (DpAll.same (s3.trans s4) _ hzd)) .nil))))
end
end XL
namespace XL
open PySem PySem.Spec PyProof.Rows L2 LamX
abbrev sKr : Stmt := topS 38
/-- the thirteen texts -/
def ss13 : List Str := [Str.ofString "", Str.ofString "canal", Str.ofString "canal 0 1", Str.ofString "canal 1 1 1", Str.ofString "canal 01 1", Str.ofString "canal 1 1\n", Str.ofString "canal 2 1\nlock 0 1 0 1", Str.ofString "canal 2 1\nlock 0 1 0 0\nlock 2 0 0 0", Str.ofString "canal  1 1", Str.ofString " canal 1 1", Str.ofString "canal 1 1 ", Str.ofString "canal -1 1", Str.ofString "canal 99999999999999 1"]
/-- what is told of each -/
def rr13 : List Nat := [0, 0, 0, 0, 0, 1, 1, 2, 0, 0, 0, 0, 0]
theorem ss13_reads : ss13.map (fun x => readT (TL.tl x)) = rr13.map fun i => (Except.error i : Except Nat Cn) := by rfl
theorem ss13_ok : ∀ y ∈ ss13, y.length ≤ 90000 ∧ Asc y := by
  unfold Asc ss13
  decide +kernel
def greatS : Str := Str.ofString "canal 9999999999999 1"
theorem great_reads : readT (TL.tl greatS) = .ok ⟨9999999999999, 1, []⟩ := by rfl
theorem great_ok : greatS.length ≤ 90000 ∧ Asc greatS := by
  unfold Asc greatS
  decide +kernel
theorem extN_tp {H H' : Hp} (e : ExtN H H') : Tp H H' := ⟨fun a xs q => e _ _ q (fun ps z => by cases z), fun a o xs q => e _ _ q (fun ps z => by cases z)⟩
theorem seq_stayN {K : PySem.W.Frag} {H1 H : Hp} {a : Addr} {xs : List V} (e : H1 a = some (.lst xs)) (h : H a = some (.lst xs)) : (¬ SqT K H1 a xs → SqL K H1 a xs → SqL K H a xs) ∧ (SqT K H1 a xs → SqT K H a xs) := by
  refine ⟨fun _ _ => SqL.of h, fun z => ?_⟩
  rcases z with (z | ⟨o, z⟩) | z
  · rw [e] at z; cases z
  · rw [e] at z; cases z
  · exact .inr z
def resD : Except Nat Cn → PyData
  | .error i => .int (i : Nat)
  | .ok c => cnD c
theorem noL_res : ∀ e, noL (resD e) = true
  | .error i => rfl
  | .ok c => noL_cn c
theorem okD_lk (n : Nat) (l : Lk) : okD (n + 2) (lkD l) := ⟨by show 4 ≤ 1000; decide, fun d h => by
  simp only [List.mem_cons, List.not_mem_nil, or_false] at h
  rcases h with rfl | rfl | rfl | rfl <;> exact trivial⟩
theorem okD_cn (n : Nat) {c : Cn} (h : c.ls.length ≤ 1000) : okD (n + 4) (cnD c) := ⟨by show 3 ≤ 1000; decide, fun d hd => by
  simp only [List.mem_cons, List.not_mem_nil, or_false] at hd
  rcases hd with rfl | rfl | rfl
  · exact trivial
  · exact trivial
  · refine ⟨by rw [List.length_map]; exact h, fun e he => ?_⟩
    obtain ⟨l, _, rfl⟩ := List.mem_map.mp he
    exact okD_lk n l⟩
section
variable {P : Program} {w : World} {K : PySem.W.Frag} {mg : Str → Option Value} {base : Heap}
abbrev nKr : List Str := ["_law_some", "_law_due", "_law_found", "_law_sheet"]
theorem scKr : FnScope nKr [] (defScope sKr) := ⟨rfl, rfl, rfl, by decide +kernel, rfl, by decide +kernel, by decide +kernel⟩
abbrev qKr : Str := (envOfC "_law_known_right" (defScope sKr) 0 0 .none).qual ++ "<lambda>"
def spKr (T : List (Addr × Str)) : Sp := fun vs H Q _ => vs = [] ∧ Tabs T H ∧ ∀ H' : Hp, ExtN H H' → Tabs T H' → Q (.bl true) H'
theorem ok_kr {f fs fi ft cF tb CR CL CS CK CO : Addr} {fd fds fdi fdt : FuncData} {T : List (Addr × Str)} (F : FunC K "_law_known_right" "_law_known_right" sKr f fd cF)
    (S : Fns P w K mg base 11 "_law_same" ["_law_found", "_law_due"] (spSame K 11) fs fds) (Si : FnX P w K mg base 9 "canal_in" ["text"] (spSi K CR) fi fdi)
    (W : ToldK K mg CR CL CS CK CO ft fdt) (TB : TabB base mg cF tb) (hmT : (tb, qKr) ∈ T) (huT : ∀ p ∈ T, p.1 = tb → p.2 = qKr) : FnG P w K mg base 12 f fd [] (spKr T) := by
  refine okGC F scKr (fun vs H Q E h => ?_) (fun A outer s0 H vs Q E hG hr h => ?_)
  · obtain ⟨rfl, _⟩ := h
    rfl
  obtain ⟨rfl, tab, q⟩ := h
  have hrS : Room 9 _ := hr.mono (by omega)
  refine ⟨_, (pss_cons (ps_set (i := 0) scKr.nd rfl (.inl rfl) (pe_lst (pa_cons pe_str (pa_cons pe_str (pa_cons pe_str (pa_cons pe_str (pa_cons pe_str (pa_cons pe_str (pa_cons pe_str pa_nil)))))))))
    (pss_cons (ps_set (i := 0) scKr.nd rfl (.inl rfl) (pe_op op_cat (pv 0) (pe_lst (pa_cons pe_str (pa_cons pe_str (pa_cons pe_str (pa_cons pe_str (pa_cons pe_str pa_nil))))))))
    (pss_cons (ps_expr (pe_bm PySem.F.plainAttrs_list PySem.F.slot_list_append PySem.F.type_list_append mt_append (pv 0) (pa_cons pe_str pa_nil)))
    (pss_cons (ps_set (i := 1) scKr.nd rfl (.inl rfl) (pe_lst (pa_cons pe_int (pa_cons pe_int (pa_cons pe_int (pa_cons pe_int (pa_cons pe_int (pa_cons pe_int (pa_cons pe_int (pa_cons pe_int (pa_cons pe_int (pa_cons pe_int (pa_cons pe_int (pa_cons pe_int (pa_cons pe_int pa_nil)))))))))))))))
    (pss_cons (ps_setLc (i := 2) (own := [("_law_sheet", 3)]) (g := gName 3) (tt := tYes) rfl scKr.nd rfl rfl (sw_true rfl rfl rfl (by decide +kernel)) (pi_seq (pv 0)) (blkOk_by (own := [("_law_sheet", 3)]) (N := nKr) (sc := defScope sKr) (by decide +kernel)) (fun _ _ _ _ _ => (pg_name (i := 3) scKr.nd rfl (.inr rfl))) (fun _ _ _ _ _ => pts_nil) (fun _ _ _ _ _ => pe_hide (pe_told (k := 9) (t := fun E => tCall (spSi K CR) [] E (tCons (tVar 3) tNil)) W TB rfl hmT huT hr rfl (lamS_by (by rfl)) (fun A outer s H E f c' hr2 => pe_call Si.ok hr2 rfl Si.g Si.k Si.b .nil (passes_call (takes_of rfl rfl rfl rfl) fun _ _ _ _ h => h) (pa_cons (pv 3) pa_nil)))))
    (pss_one (ps_ret (pe_and (pe_fn S hr rfl (pa_cons (pv 2) (pa_cons (pv 1) pa_nil))) (pe_one (pe_fn S hr rfl (pa_cons (pe_call Si.ok hrS rfl Si.g Si.k Si.b .nil passL (pa_cons pe_str pa_nil)) (pa_cons (pe_tup (pa_cons pe_int (pa_cons pe_int (pa_cons (pe_tup pa_nil) pa_nil)))) pa_nil)))))))))))), ?_⟩
  refine ⟨(by show 7 ≤ sizeLine; decide), fun L1 n1 => ?_⟩
  refine at_g (σ' := [some (.ref L1), none, none, none]) rfl ?_
  refine ⟨_, rfl, (by show 5 ≤ sizeLine; decide), fun L2 n2 => ?_⟩
  have t1 := same_new n1 (o := .lst ((ss13.take 7).map V.str))
  have t2 := same_new n2 (o := .lst (((ss13.drop 7).take 5).map V.str))
  have f1 := t2 _ _ (show (upd H L1 (.lst ((ss13.take 7).map V.str))) L1 = _ from upd_same)
  refine ⟨L1, L2, _, _, rfl, rfl, f1, upd_same, (by show 7 + 5 ≤ sizeLine; decide), fun L3 n3 => ?_⟩
  have t3 := (t1.trans t2).trans (same_new n3 (o := .lst ((ss13.take 12).map V.str)))
  refine at_g (σ' := [some (.ref L3), none, none, none]) rfl ?_
  have n3H : H L3 = none := (t1.trans t2).free n3
  refine at_h (fun Z => Same H Z ∧ Z L3 = some (.lst ((ss13.take 12).map V.str))) ⟨t3, upd_same⟩ fun G3 hG3 => ?_
  clear t3 f1 t1 t2 n1 n2 n3
  obtain ⟨t3, f3⟩ := hG3
  refine ⟨_, rfl, .inl ⟨rfl, _, SqL.of f3⟩, cons_c (nil_go ⟨L3, _, _, rfl, rfl, f3, (by show 12 < sizeLine; decide), ?_⟩)⟩
  have g3 : (upd G3 L3 (.lst (((ss13.take 12).map V.str) ++ [V.str (Str.ofString "canal 99999999999999 1")]))) L3 = some (.lst (ss13.map V.str)) := upd_same
  have u3 : Same H (upd G3 L3 (.lst (((ss13.take 12).map V.str) ++ [V.str (Str.ofString "canal 99999999999999 1")]))) := fun b o e => by rw [upd_ne fun z => by rw [z, n3H] at e; cases e]; exact t3 _ _ e
  generalize upd G3 L3 (.lst (((ss13.take 12).map V.str) ++ [V.str (Str.ofString "canal 99999999999999 1")])) = G4 at g3 u3
  clear t3 f3 n3H
  refine ⟨(by show 13 ≤ sizeLine; decide), fun D nD => ?_⟩
  have s5 := same_new nD (o := .lst (rr13.map fun i => V.int (i : Nat)))
  refine at_g (σ' := [some (.ref L3), some (.ref D), none, none]) rfl ?_
  refine at_h (fun Z => Same G4 Z ∧ Z D = some (.lst (rr13.map fun i => V.int (i : Nat)))) ⟨s5, upd_same⟩ fun G5 hG5 => ?_
  clear s5 nD
  obtain ⟨s5, eD⟩ := hG5
  have g5 := s5 _ _ g3
  have sH5 := u3.trans s5
  have tab5 := tab.ext sH5
  clear u3 g3 s5
  refine ⟨_, rfl, L3, _, rfl, .inl (SqL.of g5), fun J wk => lc_map wk (fun A B => ExtN A B ∧ Tabs T B) (fun a b => ⟨a.1.trans b.1, b.2⟩) (fun i z F => ∃ n : Nat, rr13[i]? = some n ∧ z = .int (n : Nat)) (fun i y A B r h => h) (by show 13 < sizeLine; decide) ⟨ExtN.refl _, tab5⟩ (fun F D' acc r nF => seq_stayN g5 (by rw [upd_ne fun z => by rw [← z, r.1 _ _ g5 fun ps z => by cases z] at nF; cases nF]; exact r.1 _ _ g5 fun ps z => by cases z)) (fun j z D' acc F H' hj nD' r nF hy B hB => ?_) (fun D' zs F nD' r nF hl hR => ?_)⟩
  · obtain ⟨rfl, hz⟩ := hy
    rw [List.getElem?_map] at hz
    obtain ⟨y, ey, rfl⟩ := Option.map_eq_some_iff.mp hz
    obtain ⟨y1, y2⟩ := ss13_ok y (List.mem_of_getElem? ey)
    obtain ⟨n, en, rd⟩ : ∃ n, rr13[j]? = some n ∧ readT (TL.tl y) = .error n := by
      have h : (ss13.map fun x => readT (TL.tl x))[j]? = (rr13.map fun i => (Except.error i : Except Nat Cn))[j]? := congrArg (fun l => l[j]?) ss13_reads
      rw [List.getElem?_map, List.getElem?_map, ey] at h
      cases e : rr13[j]? with
      | none => rw [e] at h; cases h
      | some n => rw [e] at h; exact ⟨n, rfl, Option.some.inj h⟩
    refine hB _ F rfl nF fun Qt hq => ?_
    refine ⟨r.2, fun H5 eN tN H6 s6 => ?_⟩
    have e6 : ExtN F H6 := eN.trans (ExtN.of s6)
    have tN6 := tN.ext s6
    refine ⟨_, rfl, nil_go ⟨y, rfl, y1, y2, fun i dd H7 hi s7 e7 => ⟨rfl, dd, i, rfl, e7, fun H8 s8 => ?_⟩, fun c pp H7 hok s7 hp => ?_⟩⟩
    · rw [rd] at hi
      obtain rfl : n = i := by injection hi
      exact hq _ _ ⟨e6.trans (ExtN.of (s7.trans s8)), tN6.ext (s7.trans s8)⟩ ⟨n, en, rfl⟩
    · rw [rd] at hok; cases hok
  rw [List.length_map] at hl
  have ez : zs = rr13.map fun i => V.int (i : Nat) := by
    refine List.ext_getElem? fun i => ?_
    rw [List.getElem?_map]
    cases e : zs[i]? with
    | none =>
      rw [List.getElem?_eq_none_iff] at e
      rw [List.getElem?_eq_none_iff.mpr (show rr13.length ≤ i from by have h13 : rr13.length = 13 := rfl; have : ss13.length = 13 := rfl; omega)]; rfl
    | some z =>
      obtain ⟨n, h1, rfl⟩ := hR i z e
      rw [h1]; rfl
  have sF := same_new nF (o := .lst zs)
  have x6 : ExtN H (upd F D' (.lst zs)) := (ExtN.of sH5).trans (r.1.trans (ExtN.of sF))
  have t6 : Tabs T (upd F D' (.lst zs)) := r.2.ext sF
  have eD6 := sF _ _ (r.1 _ _ eD fun ps z => by cases z)
  have eF6 : (upd F D' (.lst zs)) D' = some (.lst (rr13.map fun i => V.int (i : Nat))) := by rw [ez]; exact upd_same
  generalize upd F D' (.lst zs) = G6 at x6 t6 eD6 eF6
  clear hR hl nF r sF
  refine at_g (σ' := [some (.ref L3), some (.ref D), some (.ref D'), none]) rfl ?_
  have dal : ∀ ns : List Nat, DpAll K G6 (ns.map fun i => V.int (i : Nat)) (ns.map fun i => PyData.int (i : Nat)) := fun ns => by
    induction ns with
    | nil => exact .nil
    | cons n ns ih => exact .cons (.int _) ih
  refine ⟨_, rfl, _, rfl, nil_go ⟨.ref D', .ref D, .list (rr13.map fun i => PyData.int (i : Nat)), rfl, .lst (SqL.of eF6) (dal _), .lst (SqL.of eD6) (dal _), ⟨by decide, fun d hd => ?_⟩, fun G7 s7 => ⟨true, rfl, iteT ?_⟩⟩⟩
  · obtain ⟨n, _, rfl⟩ := List.mem_map.mp hd
    exact trivial
  refine ⟨greatS, rfl, great_ok.1, great_ok.2, fun i dd H8 er => ?_, fun c p H8 okc s8 hp => ?_⟩
  · rw [great_reads] at er; cases er
  rw [great_reads] at okc
  obtain rfl : (⟨9999999999999, 1, []⟩ : Cn) = c := by injection okc
  trace_state
  refine ⟨(by show 0 ≤ sizeLine; decide), fun e0 ne0 => ⟨(by show 3 ≤ sizeLine; decide), fun p2 np2 => ?_⟩⟩
  have s9 := same_new ne0 (o := .tup [])
  have s10 := same_new np2 (o := .tup [.int 9999999999999, .int 1, .ref e0])
  have ee := s10 _ _ (show (upd H8 e0 (.tup [])) e0 = some (.tup []) from upd_same)
  refine nil_go ⟨.ref p, .ref p2, cnD ⟨9999999999999, 1, []⟩, rfl, Dp.same (s9.trans s10) _ hp, .tup (.inl (.inl upd_same)) (.cons (.int _) (.cons (.int _) (.cons (.tup (.inl (.inl ee)) .nil) .nil))), okD_cn 7 (by decide), fun H9 s11 => ?_⟩
  have s := s7.trans (s8.trans (s9.trans (s10.trans s11)))
  exact q _ (x6.trans (ExtN.of s)) (t6.ext s)
end
end XL
namespace XL
open PySem PySem.Spec PyProof.Rows L2 LamX
/-! ### what is written is read again -/
theorem row_words {w : Str} {ns : List Nat} (hw : 32 ∉ TL.tl w) : wordsOf (some (TL.tl (rowT w ns))) = TL.tl w :: ns.map TL.numL := by
  show TL.spl [32] 0 [] (TL.tl (rowT w ns)) = _
  rw [rowT_tl]
  refine TL.spl_join (by simp) fun p hp => ?_
  rcases List.mem_cons.mp hp with rfl | hp
  · exact hw
  · obtain ⟨n, _, rfl⟩ := List.mem_map.mp hp
    exact TL.numL_free (.inl (by decide))
theorem row_back {w : Str} {ns : List Nat} (hw : 32 ∉ TL.tl w) (hn : ∀ n ∈ ns, n < 10 ^ 13) : rowIn (some (TL.tl (rowT w ns))) (TL.tl w) ns.length = some ns := by
  unfold rowIn
  simp only [row_words hw]
  simp [numsIn_of hn]
theorem row_plain {w : Str} {ns : List Nat} (hw : 10 ∉ TL.tl w) : 10 ∉ TL.tl (rowT w ns) := fun h => by
  rw [rowT_tl] at h
  rcases joinL_sub _ _ _ h with h | ⟨p, hp, h⟩
  · simp at h
  · rcases List.mem_cons.mp hp with rfl | hp
    · exact hw h
    · obtain ⟨n, _, rfl⟩ := List.mem_map.mp hp
      exact TL.numL_free (.inl (by decide)) h
theorem txt_lines (c : Cn) : TL.spl [10] 0 [] (TL.tl (txC c)) = TL.tl (rowT (Str.ofString "canal") [c.r.toNat, c.b.toNat]) :: c.ls.map fun l => TL.tl (rowT (Str.ofString "lock") (lk4 l)) := by
  have e : TL.tl (Str.ofString "\n") = [10] := by decide +kernel
  unfold txC
  rw [tl_joinT, e, List.map_cons, List.map_map]
  refine TL.spl_join (by simp) fun p hp => ?_
  rcases List.mem_cons.mp hp with rfl | hp
  · exact row_plain (by decide +kernel)
  · obtain ⟨l, _, rfl⟩ := List.mem_map.mp hp
    exact row_plain (by decide +kernel)
theorem txt_back {c : Cn} (ok : okCn 100 100 c) : readT (TL.tl (txC c)) = .ok c := by
  have h1 := ok.r1; have h2 := ok.r2; have h3 := ok.b1; have h4 := ok.b2
  have hh : headIn (some (TL.tl (rowT (Str.ofString "canal") [c.r.toNat, c.b.toNat]))) = some (c.r.toNat, c.b.toNat) := by
    unfold headIn
    rw [show rowIn (some (TL.tl (rowT (Str.ofString "canal") [c.r.toNat, c.b.toNat]))) (TL.tl (Str.ofString "canal")) 2 = some [c.r.toNat, c.b.toNat] from row_back (ns := [c.r.toNat, c.b.toNat]) (by decide +kernel) fun n hn => by
      simp only [List.mem_cons, List.not_mem_nil, or_false] at hn
      rcases hn with rfl | rfl <;> omega]
    exact if_neg (by omega)
  have hg : ∀ l ∈ c.ls, gateIn c.r.toNat c.b.toNat (some (TL.tl (rowT (Str.ofString "lock") (lk4 l)))) = some l := fun l hl => by
    have okl := ok.l l hl
    unfold gateIn
    rw [show rowIn (some (TL.tl (rowT (Str.ofString "lock") (lk4 l)))) (TL.tl (Str.ofString "lock")) 4 = some (lk4 l) from row_back (ns := lk4 l) (by decide +kernel) fun n hn => by
      have := lk4_lt okl ok.r2 ok.b2 n hn
      omega]
    have := okl.a0; have := okl.a1; have := okl.c0; have := okl.c1; have := okl.x0; have := okl.x1; have := okl.y0; have := okl.y1
    show (if l.1.toNat < c.r.toNat ∧ l.2.1.toNat < c.r.toNat ∧ l.2.2.1.toNat < c.b.toNat ∧ l.2.2.2.toNat < c.b.toNat then some (((l.1.toNat : Nat) : Int), ((l.2.1.toNat : Nat) : Int), ((l.2.2.1.toNat : Nat) : Int), ((l.2.2.2.toNat : Nat) : Int)) else none) = some l
    rw [if_pos (by omega), Int.toNat_of_nonneg okl.a0, Int.toNat_of_nonneg okl.c0, Int.toNat_of_nonneg okl.x0, Int.toNat_of_nonneg okl.y0]
  unfold readT
  rw [txt_lines]
  unfold readC
  rw [show (TL.tl (rowT (Str.ofString "canal") [c.r.toNat, c.b.toNat]) :: c.ls.map fun l => TL.tl (rowT (Str.ofString "lock") (lk4 l)))[0]? = some (TL.tl (rowT (Str.ofString "canal") [c.r.toNat, c.b.toNat])) from rfl, hh]
  dsimp only
  rw [List.drop_succ_cons, List.drop_zero, gatesIn_ok (gs := c.ls) (by rw [List.length_map]) (fun j hj => by
    rw [List.length_map] at hj
    rw [List.getElem?_map, List.getElem?_eq_getElem hj]
    exact hg _ (List.getElem_mem hj))]
  dsimp only
  rw [Int.toNat_of_nonneg (by omega), Int.toNat_of_nonneg (by omega)]
theorem txt_plain (c : Cn) : Asc (txC c) := fun x hc => by
  have e : TL.tl (Str.ofString "\n") = [10] := by decide +kernel
  unfold txC at hc
  rw [tl_joinT, e] at hc
  have key : ∀ (w : Str) (ns : List Nat), Asc w → x ∈ TL.tl (rowT w ns) → x < 128 := fun w ns hw h => by
    rw [rowT_tl] at h
    rcases joinL_sub _ _ _ h with h | ⟨p, hp, h⟩
    · rw [List.mem_singleton.mp h]; decide
    · rcases List.mem_cons.mp hp with rfl | hp
      · exact hw x h
      · obtain ⟨n, _, rfl⟩ := List.mem_map.mp hp
        have := TL.numL_digits n x h
        omega
  rcases joinL_sub _ _ _ hc with h | ⟨p, hp, h⟩
  · rw [List.mem_singleton.mp h]; decide
  · rw [List.map_cons, List.map_map] at hp
    rcases List.mem_cons.mp hp with rfl | hp
    · exact key _ _ (by intro c hc; revert c; decide +kernel) h
    · obtain ⟨l, _, rfl⟩ := List.mem_map.mp hp
      exact key _ _ (by intro c hc; revert c; decide +kernel) h
end XL
namespace XL
open PySem PySem.Spec PyProof.Rows L2
/-- f(), of a def that keeps its promise where no repr is under way -/
theorem pe_callG0 {X : Cx} {k : Nat} {f : Addr} {fd : FuncData} {sp : Sp} {x : Str} {p pos : Pos} (hG : X.A.guards = some []) (F : FnG X.prog X.w X.K X.mg X.base k f fd [] sp) (hr : Room k X.A) (hg : Gl X x) (hm : X.mg x = some (.ref f)) (hk : PySem.W.keepIn X.K (.ref f) = true) (hb : Binds X.K fd [] [])
    (hdb : (x == ("__debug__" : Str)) = false := by decide) : PE X (.Call (.Name x p) [] [] pos) (tCall sp [] E0 tNil) := by
  constructor
  intro pins s σ H Q I q
  refine wpAny_Call_Name_kw (ld_glob I hg hm ?_ hdb)
  refine PySem.W.callWith_K0 I.kIn hk ?_
  have q' : sp [] H Q E0 := q
  have hb' : BindsTo s fd ⟨[], []⟩ ([].zip []) := hb s [] I.kIn rfl
  refine wpAny_call (codeAny_mono (F.run X.A X.stack s H ⟨[], []⟩ [] [] Q E0 hG hr I.env0 hb' .nil q') fun r s' hq => ?_)
  rcases r with e | fl
  · exact False.elim hq
  · cases fl with
    | ret u => exact I.after hq
    | next => exact False.elim hq
    | brk => exact False.elim hq
    | cont => exact False.elim hq
end XL
namespace XL
open PySem PySem.Spec PyProof.Rows L2 LamX
theorem okD_two (n : Nat) {d : PyData} (h : okD n d) : okD (n + 1) (.list [d, d]) := ⟨by show 2 ≤ 1000; decide, fun e he => by
  simp only [List.mem_cons, List.not_mem_nil, or_false] at he
  rcases he with rfl | rfl <;> exact h⟩
/-! ### how long texts are, how many locks a text tells -/
theorem one_sign : ∀ n, n < 10 → (numS n).length = 1 := by decide +kernel
theorem rowT_one {x : Str} {ns : List Nat} (hn : ∀ n ∈ ns, n < 10) : (rowT x ns).length ≤ x.length + 2 * ns.length + 1 := by
  have h := join_len (Str.ofString " ") (x :: ns.map numS)
  have e1 : (Str.ofString " ").length = 1 := by decide +kernel
  have e2 := sum_le (xs := (ns.map numS).map (·.length)) (b := 1) fun y hy => by
    obtain ⟨z, hz, rfl⟩ := List.mem_map.mp hy
    obtain ⟨n, hn', rfl⟩ := List.mem_map.mp hz
    exact Nat.le_of_eq (one_sign n (hn n hn'))
  rw [List.length_map, List.length_map] at e2
  rw [List.map_cons, List.sum_cons, List.length_cons, List.length_map, e1] at h
  show (Txt.join _ _).length ≤ _
  omega
theorem txC_small {c : Cn} (h : okCn 8 10 c) : (txC c).length ≤ 200 := by
  have h1 := join_len (Str.ofString "\n") (rowT (Str.ofString "canal") [c.r.toNat, c.b.toNat] :: c.ls.map fun l => rowT (Str.ofString "lock") (lk4 l))
  have e : (Str.ofString "\n").length = 1 := by decide +kernel
  have e5 : (Str.ofString "canal").length = 5 := by decide +kernel
  have e4 : (Str.ofString "lock").length = 4 := by decide +kernel
  have g0 := rowT_one (x := Str.ofString "canal") (ns := [c.r.toNat, c.b.toNat]) fun n hn => by
    have := h.r2; have := h.b2
    simp only [List.mem_cons, List.not_mem_nil, or_false] at hn
    rcases hn with rfl | rfl <;> omega
  have g1 := sum_le (xs := (c.ls.map fun l => rowT (Str.ofString "lock") (lk4 l)).map (·.length)) (b := 13) fun y hy => by
    obtain ⟨z, hz, rfl⟩ := List.mem_map.mp hy
    obtain ⟨l, hl, rfl⟩ := List.mem_map.mp hz
    have okl := h.l l hl
    have := rowT_one (x := Str.ofString "lock") (ns := lk4 l) fun n hn => by
      have := h.r2; have := h.b2; have := okl.a0; have := okl.a1; have := okl.c0; have := okl.c1; have := okl.x0; have := okl.x1; have := okl.y0; have := okl.y1
      simp only [lk4, List.mem_cons, List.not_mem_nil, or_false] at hn
      rcases hn with rfl | rfl | rfl | rfl <;> omega
    rw [e4, show (lk4 l).length = 4 from rfl] at this
    exact this
  rw [List.length_map, List.length_map] at g1
  have g0' : (rowT (Str.ofString "canal") [c.r.toNat, c.b.toNat]).length ≤ 10 := by rw [e5] at g0; exact g0
  rw [e, List.length_cons, List.length_map, List.map_cons, List.sum_cons] at h1
  have := h.n
  show (Txt.join _ _).length ≤ _
  omega
theorem gate_line {r b : Nat} {t : List Nat} {l : Lk} (h : gateIn r b (some t) = some l) : 8 ≤ t.length := by
  unfold gateIn at h
  cases e : rowIn (some t) (TL.tl (Str.ofString "lock")) 4 with
  | none => rw [e] at h; cases h
  | some ns =>
    unfold rowIn at e
    split at e
    · rename_i q
      have hs := spl_sum 32 t []
      have e4 : (TL.tl (Str.ofString "lock")).length = 4 := by decide +kernel
      have q1 : (TL.spl [32] 0 [] t).take 1 = [TL.tl (Str.ofString "lock")] := q.1
      have q2 : ((TL.spl [32] 0 [] t).drop 1).length = 4 := q.2
      generalize TL.spl [32] 0 [] t = ws at hs q1 q2
      match ws, q1, q2 with
      | w :: wr, q1, q2 =>
      rw [List.take_succ_cons, List.take_zero] at q1
      obtain rfl : w = TL.tl (Str.ofString "lock") := by injection q1
      rw [List.drop_succ_cons, List.drop_zero] at q2
      rw [List.map_cons, List.sum_cons, List.length_cons, e4, q2, List.length_nil] at hs
      omega
    · cases e
theorem gates_len {r b : Nat} : ∀ {ls : List (List Nat)} {i : Nat} {gs : List Lk}, gatesIn r b ls i = .ok gs → gs.length = ls.length ∧ 8 * ls.length ≤ (ls.map (·.length)).sum
  | [], i, gs, h => by
    unfold gatesIn at h
    cases h
    exact ⟨rfl, Nat.zero_le _⟩
  | l :: ls, i, gs, h => by
    unfold gatesIn at h
    cases e : gateIn r b (some l) with
    | none => rw [e] at h; cases h
    | some g =>
      rw [e] at h
      dsimp only at h
      cases e2 : gatesIn r b ls (i + 1) with
      | error j => rw [e2] at h; cases h
      | ok gs2 =>
        rw [e2] at h
        cases h
        obtain ⟨h1, h2⟩ := gates_len e2
        have := gate_line e
        rw [List.length_cons, List.length_cons, List.map_cons, List.sum_cons]
        omega
theorem read_len {t : List Nat} {c : Cn} (h : readT t = .ok c) : 9 * c.ls.length ≤ t.length + 1 := by
  unfold readT readC at h
  have hs := spl_sum 10 t []
  generalize TL.spl [10] 0 [] t = ls at hs h
  cases e : headIn ls[0]? with
  | none => rw [e] at h; cases h
  | some rb =>
    obtain ⟨r, b⟩ := rb
    rw [e] at h
    dsimp only at h
    cases e2 : gatesIn r b (ls.drop 1) 1 with
    | error j => rw [e2] at h; cases h
    | ok gs =>
      rw [e2] at h
      cases h
      obtain ⟨h1, h2⟩ := gates_len e2
      show 9 * gs.length ≤ _
      match ls, hs, h1, h2 with
      | [], _, h1, _ => rw [h1]; simp
      | w :: wr, hs, h1, h2 =>
        rw [List.drop_succ_cons, List.drop_zero] at h1 h2
        rw [List.map_cons, List.sum_cons, List.length_cons, List.length_nil] at hs
        omega
theorem okD_res (n : Nat) {x : Str} {e : Except Nat Cn} (h : readT (TL.tl x) = e) (hx : x.length ≤ 8000) : okD (n + 4) (resD e) := by
  match e, h with
  | .error i, _ => exact trivial
  | .ok c, h =>
    have := read_len h
    rw [← TL.len_tl] at this
    exact okD_cn n (by omega)
/-- a list that came later is written -/
theorem Dt.put {T : List (Addr × Str)} {b p : Addr} {H H' : Hp} {xs0 xs : List V} (d : Dt T b H H') (nG : ∀ o, H p = some o → ∃ ps, o = .tbl ps) (n : p ≠ b) (e : H' p = some (.lst xs0)) : Dt T b H (upd H' p (.lst xs)) := by
  obtain ⟨x, y, z, eb⟩ := d.box
  refine ⟨⟨x, y, z, by rw [upd_ne fun q => n q.symm]; exact eb⟩, fun a o na ea m => ?_, fun q hq => ?_⟩
  · by_cases h : a = p
    · rw [h] at ea
      obtain ⟨ps, hps⟩ := nG o ea
      exact absurd hps (m ps)
    · rw [upd_ne h]; exact d.ext a o na ea m
  · obtain ⟨ps, h1, h2, h3⟩ := d.tab q hq
    refine ⟨ps, by rw [upd_ne fun z => by rw [z, e] at h1; cases h1]; exact h1, h2, fun pos cv hc => ?_⟩
    obtain ⟨c, e1, e2⟩ := h3 pos cv hc
    exact ⟨c, e1, by rw [upd_ne fun z => by rw [z, e] at e2; exact codeO_lst _ (Option.some.inj e2).symm]; exact e2⟩
/-- what is known of the canal v -/
structure Md (K : PySem.W.Frag) (T : List (Addr × Str)) (bx : Addr) (H G : Hp) (c : Cn) (v : V) : Prop where
  okc : okCn 8 10 c
  dt : Dt T bx H G
  dv : Dp K G v (cnD c)
section
variable {K : PySem.W.Frag} {T : List (Addr × Str)} {bx : Addr} {H G G' : Hp} {c : Cn} {v : V}
theorem Md.step (h : Md K T bx H G c v) (d : Dt T bx G G') : Md K T bx H G' c v := ⟨h.okc, h.dt.trans d, Dp.tp (d.tp h.dt.box) _ (noL_cn c) h.dv⟩
theorem Md.sm (h : Md K T bx H G c v) (s : Same G G') : Md K T bx H G' c v := h.step (Dt.sm h.dt.box h.dt.tab s)
variable {Q : VK} {z : Str} {e : Except Nat Cn} {CR : Addr}
theorem si_res (zl : z.length ≤ 90000) (za : Asc z) (he : readT (TL.tl z) = e) (q : ∀ (p : V) (H' : Hp), Same H H' → Dp K H' p (resD e) → Q p H') :
    spSi K CR [.str z] H Q (fun cls d H2 => cls = .ref CR ∧ ∃ (dd : Addr) (i : Nat), d = some dd ∧ H2 dd = some (.xd [("at", .int (i : Nat))]) ∧ ∀ H3 : Hp, Same H2 H3 → Q (.int (i : Nat)) H3) :=
  ⟨z, rfl, zl, za, fun i dd H' er s ed => ⟨rfl, dd, i, rfl, ed, fun H3 s3 => q _ _ (s.trans s3) (by rw [← he, er]; exact .int _)⟩, fun c p H' er s hp => q _ _ s (by rw [← he, er]; exact hp)⟩
theorem rd_res {E : XK} (zl : z.length ≤ 90000) (za : Asc z) (he : readT (TL.tl z) = e) (q : ∀ (p : V) (H' : Hp), Same H H' → Dp K H' p (resD e) → Q p H') :
    spRd K [.str z] H Q E :=
  ⟨z, rfl, zl, za, fun i H' er s => q _ _ s (by rw [← he, er]; exact .int _), fun c p H' er s hp => q _ _ s (by rw [← he, er]; exact hp)⟩
/-- a text that is a canal's is read to it -/
theorem si_ok {E : XK} (zl : z.length ≤ 90000) (za : Asc z) (he : readT (TL.tl z) = .ok c) (q : ∀ (p : Addr) (H' : Hp), Same H H' → Dp K H' (.ref p) (cnD c) → Q (.ref p) H') : spSi K CR [.str z] H Q E :=
  ⟨z, rfl, zl, za, fun i dd H' er => (by rw [he] at er; cases er), fun c' p H' er s hp => by
    rw [he] at er
    obtain rfl : c = c' := by injection er
    exact q p H' s hp⟩
end
end XL
namespace XL
open PySem PySem.Spec PyProof.Rows L2 LamX
abbrev sRight : Stmt := topS 39
section
variable {P : Program} {w : World} {K : PySem.W.Frag} {mg : Str → Option Value} {base : Heap}
abbrev nRight : List Str := ["_law_box_here", "_law_turn", "_law_ship_way", "_law_due", "_law_told_here", "_law_again", "_law_bent", "_law_twice"]
theorem scRight : FnScope nRight ["_law_box_here"] (defScope sRight) := ⟨rfl, rfl, rfl, by decide +kernel, rfl, by decide +kernel, by decide +kernel⟩
abbrev qRight : Str := (envOfC "_law_right" (defScope sRight) 0 0 .none).qual ++ "<lambda>"
def spRight (T : List (Addr × Str)) : Sp := fun vs H Q _ => ∃ b : Addr, vs = [.ref b] ∧ Bx H b ∧ Tabs T H ∧ ∀ H' : Hp, Dt T b H H' → Q (.bl true) H'
theorem ok_right {f fc ftk fwr fsx fl fs fsi fsp frd fkr ft cR tb CR CL CS CK CO : Addr} {fd fdc fdtk fdwr fdsx fdl fds fdsi fdsp fdrd fdkr fdt : FuncData} {T : List (Addr × Str)} (F : FunC K "_law_right" "_law_right" sRight f fd cR)
    (C : Fns P w K mg base 12 "_law_canal" ["_law_box_here", "_law_wide", "_law_utmost"] (spCanal K) fc fdc)
    (Tk : Fns P w K mg base 12 "_law_take" ["_law_box_here", "_law_size"] spTake ftk fdtk) (Wr : Fns P w K mg base 12 "_law_written" ["_law_ship_way"] (spSt K) fwr fdwr)
    (Sx : Fns P w K mg base 12 "canal_text" ["canal"] (spSt K) fsx fdsx) (kb_canal_text : KBinds K fdsx ["canal"] ["canal"] g1 g1)
    (L : Fns P w K mg base 12 "_law_lists" ["_law_what"] (spLists K 12) fl fdl)
    (S : Fns P w K mg base 12 "_law_same" ["_law_found", "_law_due"] (spSame K 12) fs fds)
    (Si : FnX P w K mg base 10 "canal_in" ["text"] (spSi K CR) fsi fdsi) (kb_canal_in : KBinds K fdsi ["text"] ["text"] g1 g1)
    (Sp : Fns P w K mg base 12 "_law_spoilt" ["_law_box_here", "_law_sheet"] spSp fsp fdsp) (Rd : Fns P w K mg base 12 "_law_read" ["_law_sheet"] (spRd K) frd fdrd)
    (Kr : FnG P w K mg base 12 fkr fdkr [] (spKr T)) (gKr : mg "_law_known_right" = some (.ref fkr)) (kKr : PySem.W.keepIn K (.ref fkr) = true) (bKr : Binds K fdkr [] [])
    (W : ToldK K mg CR CL CS CK CO ft fdt) (TB : TabB base mg cR tb) (hmT : (tb, qRight) ∈ T) (huT : ∀ p ∈ T, p.1 = tb → p.2 = qRight)
    (m_range : mg "range" = none) : FnG P w K mg base 13 f fd ["_law_box_here"] (spRight T) := by
  refine okGC F scRight (fun vs H Q E h => ?_) (fun A outer s0 H vs Q E hG hr h => ?_)
  · obtain ⟨b, rfl, _⟩ := h
    rfl
  obtain ⟨b, rfl, hb, tab, q⟩ := h
  have hrS : Room 10 _ := hr.mono (by omega)
  have hrT := hr
  refine ⟨_, (pss_cons (ps_for PassesOwn.never rfl (pi_range1 rfl m_range (pa_cons pe_int pa_nil)) (pg_name (i := 1) scRight.nd rfl (.inl rfl))
    (pss_cons (ps_set (i := 2) scRight.nd rfl (.inl rfl) (pe_fn C hr rfl (pa_cons (pv 0) (pa_cons pe_int (pa_cons pe_int pa_nil)))))
    (pss_cons (ps_set (i := 3) scRight.nd rfl (.inl rfl) (pe_fn Wr hr rfl (pa_cons (pv 2) pa_nil)))
    (pss_cons (ps_set (i := 4) scRight.nd rfl (.inl rfl) (pe_lst (pa_cons (pe_fn Sx hr rfl (pa_cons (pv 2) pa_nil)) (pa_cons (pe_fn Sx hr rfl (pa_cons (pe_fn L hr rfl (pa_cons (pv 2) pa_nil)) pa_nil)) (pa_cons (pe_callK0 Sx.ok hr rfl Sx.g Sx.k kb_canal_text pass0 (pk_cons (pv 2) pk_nil)) pa_nil)))))
    (pss_cons (ps_if (pt_not (pt_val (pe_fn S hr rfl (pa_cons (pe_op op_cat (pv 4) (pe_lst (pa_cons (pe_call Si.ok hrS rfl Si.g Si.k Si.b .nil passL (pa_cons (pv 3) pa_nil)) (pa_cons (pe_callK0 Si.ok hrS rfl Si.g Si.k kb_canal_in passL (pk_cons (pv 3) pk_nil)) pa_nil)))) (pa_cons (pe_op op_cat (pe_op op_rep (pe_lst (pa_cons (pv 3) pa_nil)) pe_int) (pe_op op_rep (pe_lst (pa_cons (pv 2) pa_nil)) pe_int)) pa_nil))))) (pss_one (ps_ret pe_bl)) pss_nil)
    (pss_one (ps_for PassesOwn.never rfl (pi_range1 rfl m_range (pa_cons pe_int pa_nil)) (pg_name (i := 5) scRight.nd rfl (.inl rfl))
    (pss_cons (ps_set (i := 6) scRight.nd rfl (.inr rfl) (pe_fn Sp hr rfl (pa_cons (pv 0) (pa_cons (pv 3) pa_nil))))
    (pss_cons (ps_set (i := 6) scRight.nd rfl (.inr rfl) (pe_ifExp (pt_cmpR op_eq (pe_fn Tk hrT rfl (pa_cons (pv 0) (pa_cons pe_int pa_nil))) pe_int (nomark _)) (pe_fn Sp hr rfl (pa_cons (pv 0) (pa_cons (pv 6) pa_nil))) (pv 6)))
    (pss_cons (ps_setLc (i := 4) (own := [("_law_twice", 7)]) (g := gName 7) (tt := tYes) rfl scRight.nd rfl rfl (sw_true rfl rfl rfl (by decide +kernel)) (pi_range1 rfl m_range (pa_cons pe_int pa_nil)) (blkOk_by (own := [("_law_twice", 7)]) (N := nRight) (sc := defScope sRight) (by decide +kernel)) (fun _ _ _ _ _ => (pg_name (i := 7) scRight.nd rfl (.inl rfl))) (fun _ _ _ _ _ => pts_nil) (fun _ _ _ _ _ => pe_hide (pe_told (k := 10) (t := fun E => tCall (spSi K CR) [] E (tCons (tVar 6) tNil)) W TB rfl hmT huT hr rfl (lamS_by (by rfl)) (fun A outer s H E f c' hr2 => pe_call Si.ok hr2 rfl Si.g Si.k Si.b .nil (passes_call (takes_of rfl rfl rfl rfl) fun _ _ _ _ h => h) (pa_cons (pv 6) pa_nil)))))
    (pss_one (ps_if (pt_not (pt_val (pe_fn S hr rfl (pa_cons (pv 4) (pa_cons (pe_op op_rep (pe_lst (pa_cons (pe_fn Rd hr rfl (pa_cons (pv 6) pa_nil)) pa_nil)) pe_int) pa_nil))))) (pss_one (ps_ret pe_bl)) pss_nil))))))))))))
    (pss_one (ps_ret (pe_callG0 hG Kr hr rfl gKr kKr bKr)))), ?_⟩
  refine ⟨_, rfl, by decide, by decide, for_it walk_range (fun i σ Z => ∃ y1 y2 y3 y4 y5 y6 y7 : Option V, σ = [some (.ref b), y1, y2, y3, y4, y5, y6, y7] ∧ Dt T b H Z) ⟨none, none, none, none, none, none, none, rfl, Dt.refl hb tab⟩ (fun _ _ _ _ _ => trivial) (fun i x σ Z Z' hi h hy => ?_) (fun σ Z h => ?_)⟩
  rotate_left
  · obtain ⟨y1, y2, y3, y4, y5, y6, y7, rfl, dZ⟩ := h
    exact ⟨rfl, dZ.tab, fun H' e t => q H' (dZ.trans (Dt.ex dZ.box e t))⟩
  obtain ⟨y1, y2, y3, y4, y5, y6, y7, rfl, dZ⟩ := h
  obtain ⟨rfl, rfl⟩ := hy
  refine at_g (σ' := [some (.ref b), some (.int (0 + (i : Int))), y2, y3, y4, y5, y6, y7]) rfl ?_
  dsimp only
  refine seq2 (fun σ G => ∃ (v : V) (c : Cn), σ = [some (.ref b), some (.int (0 + (i : Int))), some v, some (.str (txC c)), y4, y5, y6, y7] ∧ Md K T b H G c v) (fun N hN => ?_) (fun σ G h => ?_)
  · refine ⟨_, rfl, b, 8, 10, rfl, dZ.box, by decide, by decide, by decide, fun c v H1 okc d1 hc => ?_⟩
    refine at_g (σ' := [some (.ref b), some (.int (0 + (i : Int))), some v, y3, y4, y5, y6, y7]) rfl ?_
    have oc : okCn 100 100 c := ⟨okc.r1, by have := okc.r2; omega, okc.b1, by have := okc.b2; omega, by have := okc.n; omega, okc.l⟩
    have dZ1 := dZ.trans (Dt.dr dZ.box dZ.tab d1)
    refine ⟨_, rfl, nil_go ⟨v, c, rfl, cnAny_t hc, oc, fun H2 s2 => ?_⟩⟩
    refine at_g (σ' := [some (.ref b), some (.int (0 + (i : Int))), some v, some (.str (txC c)), y4, y5, y6, y7]) rfl ?_
    exact hN _ _ ⟨v, c, rfl, okc, dZ1.trans (Dt.sm dZ1.box dZ1.tab s2), Dp.same s2 _ hc⟩
  obtain ⟨v, c, rfl, M⟩ := h
  clear dZ
  have oc : okCn 100 100 c := ⟨M.okc.r1, by have := M.okc.r2; omega, M.okc.b1, by have := M.okc.b2; omega, by have := M.okc.n; omega, M.okc.l⟩
  have txl := txC_small M.okc
  have txa := txt_plain c
  have txb := txt_back oc
  have kc : ∀ n, okD (n + 4) (cnD c) := fun n => okD_cn n (by have := M.okc.n; omega)
  generalize htx : txC c = tx at txl txa txb
  refine seq2 (fun σ G' => ∃ y4 : V, σ = [some (.ref b), some (.int (0 + (i : Int))), some v, some (.str tx), some y4, y5, y6, y7] ∧ Md K T b H G' c v) (fun N hN => ?_) (fun σ G' h => ?_)
  · refine ⟨_, rfl, nil_go ⟨v, c, rfl, cnAny_t M.dv, oc, fun H1 s1 => ?_⟩⟩
    rw [htx]
    refine ⟨_, rfl, nil_go ⟨v, _, rfl, Dp.same s1 _ M.dv, kc 8, fun lv H2 s2 hlv => ?_⟩⟩
    refine nil_go ⟨lv, c, rfl, cnAny_l hlv, oc, fun H3 s3 => ?_⟩
    rw [htx]
    refine ⟨_, rfl, v, c, rfl, cnAny_t (Dp.same (s1.trans (s2.trans s3)) _ M.dv), oc, fun H4 s4 => ?_⟩
    rw [htx]
    refine nil_go ⟨(by show 3 ≤ sizeLine; decide), fun q1 nq1 => ?_⟩
    have s5 := same_new nq1 (o := .lst [.str tx, .str tx, .str tx])
    have e5 : (upd H4 q1 (.lst [.str tx, .str tx, .str tx])) q1 = some (.lst [.str tx, .str tx, .str tx]) := upd_same
    have M5 := M.sm (s1.trans (s2.trans (s3.trans (s4.trans s5))))
    generalize upd H4 q1 (.lst [.str tx, .str tx, .str tx]) = H5 at s5 e5 M5
    clear s1 s2 s3 s4 s5 nq1 hlv
    refine at_g (σ' := [some (.ref b), some (.int (0 + (i : Int))), some v, some (.str tx), some (.ref q1), y5, y6, y7]) rfl ?_
    refine ⟨_, rfl, _, rfl, nil_go (si_ok (by omega) txa txb fun p H6 s6 hp => ?_)⟩
    refine ⟨_, rfl, nil_go (si_ok (by omega) txa txb fun p' H7 s7 hp' => ?_)⟩
    have M7 := M5.sm (s6.trans s7)
    have e7 := (s6.trans s7) _ _ e5
    have hp7 := Dp.same s7 _ hp
    clear hp s6 s7 e5
    refine nil_go ⟨(by show 2 ≤ sizeLine; decide), fun q2 nq2 => ?_⟩
    have s9 := same_new nq2 (o := .lst [.ref p, .ref p'])
    refine ⟨q1, q2, _, _, rfl, rfl, s9 _ _ e7, upd_same, (by show 3 + 2 ≤ sizeLine; decide), fun q3 nq3 => ?_⟩
    have s10 := same_new nq3 (o := .lst ([V.str tx, .str tx, .str tx] ++ [V.ref p, V.ref p']))
    have e3 : (upd (upd H7 q2 (.lst [.ref p, .ref p'])) q3 (.lst ([V.str tx, .str tx, .str tx] ++ [V.ref p, V.ref p']))) q3 = some (.lst [.str tx, .str tx, .str tx, .ref p, .ref p']) := upd_same
    have s80 := s9.trans s10
    have M10 := M7.sm s80
    have a3 : Dp K (upd (upd H7 q2 (.lst [.ref p, .ref p'])) q3 (.lst ([V.str tx, .str tx, .str tx] ++ [V.ref p, V.ref p']))) (.ref q3) (.list [.str tx, .str tx, .str tx, cnD c, cnD c]) :=
      .lst (SqL.of e3) (.cons (.str _) (.cons (.str _) (.cons (.str _) (.cons (Dp.same s80 _ hp7) (.cons (Dp.same s80 _ hp') .nil)))))
    generalize upd (upd H7 q2 (.lst [.ref p, .ref p'])) q3 (.lst ([V.str tx, .str tx, .str tx] ++ [V.ref p, V.ref p'])) = Ha at a3 M10
    clear s9 s10 s80 e3 nq2 nq3 hp7 hp' e7 M7
    refine ⟨_, rfl, (by show 1 ≤ sizeLine; decide), fun q4 nq4 => ?_⟩
    have s1 := same_new nq4 (o := .lst [.str tx])
    refine ⟨q4, 3, _, rfl, rfl, upd_same, by decide, by decide, (by show 1 * 3 ≤ sizeLine; decide), fun q5 nq5 => ?_⟩
    have s2 := same_new nq5 (o := .lst [.str tx, .str tx, .str tx])
    refine ⟨_, rfl, (by show 1 ≤ sizeLine; decide), fun q6 nq6 => ?_⟩
    have s3 := same_new nq6 (o := .lst [v])
    refine ⟨q6, 2, _, rfl, rfl, upd_same, by decide, by decide, (by show 1 * 2 ≤ sizeLine; decide), fun q7 nq7 => ?_⟩
    have s4 := same_new nq7 (o := .lst [v, v])
    have e5 := s4 _ _ (s3 _ _ (show (upd (upd Ha q4 (.lst [.str tx])) q5 (.lst [.str tx, .str tx, .str tx])) q5 = some (.lst [.str tx, .str tx, .str tx]) from upd_same))
    refine ⟨q5, q7, _, _, rfl, rfl, e5, upd_same, (by show 3 + 2 ≤ sizeLine; decide), fun q8 nq8 => ?_⟩
    have s5 := same_new nq8 (o := .lst [.str tx, .str tx, .str tx, v, v])
    have s15 := s1.trans (s2.trans (s3.trans (s4.trans s5)))
    have M15 := M10.sm s15
    refine nil_go ⟨.ref q3, .ref q8, _, rfl, Dp.same s15 _ a3, .lst (SqL.of upd_same) (.cons (.str _) (.cons (.str _) (.cons (.str _) (.cons M15.dv (.cons M15.dv .nil))))), ?_, fun H9 s9 => ⟨_, rfl, iteF ?_⟩⟩
    · refine ⟨by show 5 ≤ 1000; decide, fun d hd => ?_⟩
      simp only [List.mem_cons, List.not_mem_nil, or_false] at hd
      rcases hd with rfl | rfl | rfl | rfl | rfl
      · exact trivial
      · exact trivial
      · exact trivial
      · exact kc 7
      · exact kc 7
    · exact hN _ _ ⟨_, rfl, M15.sm s9⟩
  obtain ⟨y4, rfl, M6⟩ := h
  clear M
  refine ⟨_, rfl, by decide, by decide, for_it walk_range (fun k σ Z => ∃ y4 y5 y6 y7 : Option V, σ = [some (.ref b), some (.int (0 + (i : Int))), some v, some (.str tx), y4, y5, y6, y7] ∧ Md K T b H Z c v) ⟨_, _, _, _, rfl, M6⟩ (fun _ _ _ _ _ => trivial) (fun k x σ Z Z' hk h hy => ?_) (fun σ Z h => ?_)⟩
  rotate_left
  · obtain ⟨y4, y5, y6, y7, rfl, M⟩ := h
    exact ⟨_, _, _, _, _, _, _, rfl, M.dt⟩
  obtain ⟨y4, y5, y6, y7, rfl, M⟩ := h
  obtain ⟨rfl, rfl⟩ := hy
  clear M6
  refine at_g (σ' := [some (.ref b), some (.int (0 + (i : Int))), some v, some (.str tx), y4, some (.int (0 + (k : Int))), y6, y7]) rfl ?_
  dsimp only
  refine seq2 (fun σ G => ∃ z : Str, σ = [some (.ref b), some (.int (0 + (i : Int))), some v, some (.str tx), y4, some (.int (0 + (k : Int))), some (.str z), y7] ∧ Asc z ∧ z.length ≤ 8000 ∧ Md K T b H G c v) (fun N hN => ?_) (fun σ G h => ?_)
  · refine ⟨_, rfl, _, rfl, nil_go ⟨b, tx, rfl, M.dt.box, txa, by omega, fun z H1 za zl d1 => ?_⟩⟩
    have M1 := M.step (Dt.dr M.dt.box M.dt.tab d1)
    refine at_g (σ' := [some (.ref b), some (.int (0 + (i : Int))), some v, some (.str tx), y4, some (.int (0 + (k : Int))), some (.str z), y7]) rfl ?_
    refine ⟨_, rfl, cons_c (nil_go ⟨b, 3, rfl, M1.dt.box, by decide, by decide, fun t H2 t0 t1 d2 => ⟨rfl, _, rfl, ?_⟩⟩)⟩
    have M2 := M1.step (Dt.dr M1.dt.box M1.dt.tab d2)
    generalize decide (V.int t = V.int 0) = tt
    cases tt
    rotate_left
    · refine iteT ?_
      refine ⟨_, rfl, _, rfl, nil_go ⟨b, z, rfl, M2.dt.box, za, by omega, fun z' H3 za' zl' d3 => ?_⟩⟩
      refine at_g (σ' := [some (.ref b), some (.int (0 + (i : Int))), some v, some (.str tx), y4, some (.int (0 + (k : Int))), some (.str z'), y7]) rfl ?_
      exact hN _ _ ⟨z', rfl, za', by omega, M2.step (Dt.dr M2.dt.box M2.dt.tab d3)⟩
    · refine iteF ?_
      refine ⟨_, rfl, ?_⟩
      refine at_g (σ' := [some (.ref b), some (.int (0 + (i : Int))), some v, some (.str tx), y4, some (.int (0 + (k : Int))), some (.str z), y7]) rfl ?_
      exact hN _ _ ⟨z, rfl, za, by omega, M2⟩
  obtain ⟨z, rfl, za, zl, M⟩ := h
  generalize he : readT (TL.tl z) = e
  have ke : okD 11 (resD e) := okD_res 7 he zl
  refine ⟨2, rfl, by decide, by decide, lc_map walk_range (fun A B => Bx A b ∧ Dt T b A B) (fun a b => ⟨a.1, a.2.trans b.2⟩) (fun i z F => Dp K F z (resD e)) (fun i y A B r h => Dp.tp (r.2.tp r.1) _ (noL_res e) h) (by decide) ⟨M.dt.box, Dt.refl M.dt.box M.dt.tab⟩ (fun _ _ _ _ _ => trivial) (fun j x D acc F H' hj nD r nF hy B hB => ?_) (fun D zs F nD r nF hl hR => ?_)⟩
  · obtain ⟨rfl, rfl⟩ := hy
    refine hB _ F rfl nF fun Qt hq => ?_
    refine told_go r.2.box r.2.tab fun G2 d2 => ?_
    exact ⟨_, rfl, nil_go (si_res (by omega) za he fun p H3 s3 hp => hq _ _ ⟨r.2.box, d2.trans (Dt.sm d2.box d2.tab s3)⟩ hp)⟩
  obtain ⟨p1, p2, rfl⟩ : ∃ p1 p2, zs = [p1, p2] := by
    match zs, hl with
    | [a, b], _ => exact ⟨a, b, rfl⟩
  have h1 := Dp.same (same_new nF (o := .lst [p1, p2])) _ (hR 0 p1 rfl)
  have h2 := Dp.same (same_new nF (o := .lst [p1, p2])) _ (hR 1 p2 rfl)
  have M8 := (M.step r.2).sm (same_new nF (o := .lst [p1, p2]))
  have e8 : (upd F D (.lst [p1, p2])) D = some (.lst [p1, p2]) := upd_same
  generalize upd F D (.lst [p1, p2]) = H8 at h1 h2 M8 e8
  clear hR hl r nF nD
  refine at_g (σ' := [some (.ref b), some (.int (0 + (i : Int))), some v, some (.str tx), some (.ref D), some (.int (0 + (k : Int))), some (.str z), y7]) rfl ?_
  refine ⟨_, rfl, _, rfl, nil_go (rd_res (by omega) za he fun p3 H9 s9 hp3 => ?_)⟩
  refine nil_go ⟨(by show 1 ≤ sizeLine; decide), fun q4 nq4 => ⟨q4, 2, _, rfl, rfl, upd_same, by decide, by decide, (by show 1 * 2 ≤ sizeLine; decide), fun q5 nq5 => ?_⟩⟩
  have s10 := same_new nq4 (o := .lst [p3])
  have s11 := same_new nq5 (o := .lst [p3, p3])
  have s91 := s9.trans (s10.trans s11)
  have hp3' := Dp.same (s10.trans s11) _ hp3
  refine nil_go ⟨.ref D, .ref q5, .list [resD e, resD e], rfl, .lst (SqL.of (s91 _ _ e8)) (.cons (Dp.same s91 _ h1) (.cons (Dp.same s91 _ h2) .nil)), .lst (SqL.of upd_same) (.cons hp3' (.cons hp3' .nil)), okD_two 11 ke, fun H12 s12 => ⟨_, rfl, iteF ?_⟩⟩
  exact ⟨_, _, _, _, rfl, M8.sm (s91.trans s12)⟩
end
end XL
namespace XL
open PySem PySem.Spec PyProof.Rows L2 LamX
abbrev sLaw : Stmt := topS 40
section
variable {P : Program} {w : World} {K : PySem.W.Frag} {mg : Str → Option Value} {base : Heap}
abbrev nLaw : List Str := ["_law_script", "_law_cells_here", "_law_k"]
theorem scLaw : FnScope nLaw ["_law_script"] (defScope sLaw) := ⟨rfl, rfl, rfl, by decide +kernel, rfl, by decide +kernel, by decide +kernel⟩
def spLaw (K : PySem.W.Frag) (T : List (Addr × Str)) : Sp := fun vs H Q _ => ∃ (a : Addr) (ns : List Int), vs = [.ref a] ∧ SqL K H a (ns.map V.int) ∧ ns.length ≤ 63 ∧ LamX.Tabs T H ∧ ∀ H', Q (.bl true) H'
theorem ok_law {T : List (Addr × Str)} {f fc fx fr : Addr} {fd fdc fdx fdr : FuncData} (F : Fun K "law" "law" sLaw f fd)
    (C : Fns P w K mg base 13 "_law_cells" ["_law_script", "_law_utmost"] (spCells K) fc fdc) (B : Fns P w K mg base 13 "_law_box" ["_law_cells_here", "_law_k"] (spBox K) fx fdx)
    (R : FnG P w K mg base 13 fr fdr ["_law_box_here"] (spRight T)) (gR : mg "_law_right" = some (.ref fr)) (kR : PySem.W.keepIn K (.ref fr) = true) (bR : Binds K fdr ["_law_box_here"] []) (me : mg "len" = none) (ma : mg "all" = none) (mr : mg "range" = none) :
    FnG P w K mg base 14 f fd ["_law_script"] (spLaw K T) := by
  refine okG F scLaw (fun vs H Q E h => ?_) (fun cdv A outer s H vs Q E hG hr h => ?_)
  · obtain ⟨a, ns, rfl, _⟩ := h
    rfl
  obtain ⟨a, ns, rfl, ha, hn, tab, q⟩ := h
  refine ⟨_, pss_cons (ps_set (i := 1) scLaw.nd rfl (.inr rfl) (pe_fn C hr rfl (pa_cons (pv 0) (pa_cons pe_int pa_nil))))
    (pss_one (ps_ret (pe_callB (cr_all rfl) rfl ma boot_all (pa_cons (pe_lc (own := [("_law_k", 2)]) (g := gName 2) (tt := tYes) rfl scLaw.nd (pi_range1 rfl mr (pa_cons (pe_callB call_len_seq rfl me PySem.boot_len (pa_cons (pv 1) pa_nil)) pa_nil)) (blkOk_by (own := [("_law_k", 2)]) (N := nLaw) (sc := defScope sLaw) (by decide +kernel))
        (fun _ _ _ _ _ => pg_name (i := 2) scLaw.nd rfl (Or.inl rfl)) (fun _ _ _ _ _ => pts_nil) (fun _ _ _ _ _ => pe_hide (pe_callG hG R hr rfl gR kR bR (pa_cons (pe_fn B hr rfl (pa_cons (pv 1) (pa_cons (pv 2) pa_nil))) pa_nil)))) pa_nil)))), ?_⟩
  refine ⟨_, rfl, a, ns, 3, rfl, ha, hn, by decide, by decide, fun p zs H1 s1 np ep z1 z2 => ?_⟩
  refine at_g (σ' := [some (.ref a), some (.ref p), none]) rfl ?_
  refine ⟨_, rfl, p, _, rfl, .inl (SqL.of ep), _, rfl, by rw [List.length_map]; omega, by rw [List.length_map]; omega, lc_map walk_range (fun A B => ExtN A B ∧ Tabs T B) (fun a b => ⟨a.1.trans b.1, b.2⟩) (fun i y F => y = .bl true) (fun i y A B _ p => p) (by rw [List.length_map]; exact Nat.lt_of_le_of_lt z2 (by decide)) ⟨ExtN.refl _, tab.ext s1⟩ (fun _ _ _ _ _ => trivial) (fun j x D acc F H' hj nD sF nF hy B hB => ?_) (fun D ys F nD sF nF hl hR => ?_)⟩
  · obtain ⟨rfl, rfl⟩ := hy
    have hj' : j < zs.length := by rw [List.length_map] at hj; omega
    refine hB _ F rfl nF fun Qt hq => ?_
    refine ⟨_, rfl, _, rfl, p, zs, j, by show [V.ref p, V.int (0 + (j : Int))] = _; rw [Int.zero_add], SqL.of (sF.1 _ _ ep fun ps z => by cases z), hj', fun b x y nb => ?_⟩
    refine ⟨b, rfl, ⟨x, y, 0, upd_same⟩, sF.2.ext (same_new nb), fun F' d => hq _ _ ⟨fun c o e m => ?_, d.tab⟩ rfl⟩
    have hc : c ≠ b := ne_of_none e nb
    exact d.ext c o hc (by rw [upd_ne hc]; exact e) m
  · refine ⟨D, List.replicate ys.length true, rfl, ?_, ?_⟩
    · rw [← eq_true_map ys hR]; exact SqL.of upd_same
    · rw [all_true]
      exact q _
end

theorem two_mem {α : Type} {a b p : α} (h : p ∈ [a, b]) : p = a ∨ p = b := by
  simpa using h
theorem tab_mk {q : Program} {loose : List Str} {mean : ExcName → Option Value} {mg mb : Str → Option Value} {h : Heap} {K : PySem.W.Frag} {d : DefRec} {x : Str} {c p f : Addr} {oc ob : Value} {od oo : Option Addr} {sl os : Array (Option Value)} {fd : FuncData} {vs : Array Value} (TP : Top q loose mean mg mb h) (X : K.In h)
    (hr : (recsOf q).find? (fun e => e.name == x) = some d) (a : PySem.W.nsIn K mainGlobals x = some (some (.ref f))) (l : K.lookup f = some ⟨oc, od, .func fd, sl⟩) (lc : K.lookup c = some ⟨ob, oo, .fields vs, os⟩) (vp : (vs[11]? : Option Value) = some (.ref p)) (hc : fd.code = .ref c := by rfl) :
    PySem.W.CodeHd h c p ∧ h.get? p = some (PySem.W.tabObj #[]) := by
  refine PySem.W.tab_of TP X hr ?_
  unfold PySem.W.tabIn
  rw [a]
  dsimp only
  rw [l]
  dsimp only
  rw [hc]
  dsimp only
  rw [lc]
  dsimp only
  rw [vp]
set_option maxHeartbeats 4000000 in
theorem all_mk {l : PySem.W.OpenLaw} {w : World} {K : PySem.W.Frag} {h : Heap} {mg : Str → Option Value} {fa f1 f2 f3 f4 f5 f6 f7 f8 f9 f10 f11 f12 f13 f14 f15 f16 f17 f18 f19 f20 f21 f22 f23 f24 f25 f26 f27 f28 f29 : Addr} (X : K.In h) {loose : List Str} {mean : ExcName → Option Value} {mb : Str → Option Value} (hfa : mg "law" = some (.ref fa))
    {od1 an1 : Option Addr} {sl1 : Array (Option Value)} {oc1 kV1 dc1 pm1 cd1 ct1 : Value}
    {od2 an2 : Option Addr} {sl2 : Array (Option Value)} {oc2 kV2 dc2 pm2 cd2 ct2 : Value}
    {od3 an3 : Option Addr} {sl3 : Array (Option Value)} {oc3 kV3 dc3 pm3 cd3 ct3 : Value}
    {od4 an4 : Option Addr} {sl4 : Array (Option Value)} {oc4 kV4 dc4 pm4 cd4 ct4 : Value}
    {od5 an5 : Option Addr} {sl5 : Array (Option Value)} {oc5 kV5 dc5 pm5 cd5 ct5 : Value}
    {od6 an6 : Option Addr} {sl6 : Array (Option Value)} {oc6 kV6 dc6 pm6 cd6 ct6 : Value}
    {od7 an7 : Option Addr} {sl7 : Array (Option Value)} {oc7 kV7 dc7 pm7 cd7 ct7 : Value}
    {od8 an8 : Option Addr} {sl8 : Array (Option Value)} {oc8 kV8 dc8 pm8 cd8 ct8 : Value}
    {od9 an9 : Option Addr} {sl9 : Array (Option Value)} {oc9 kV9 dc9 pm9 cd9 ct9 : Value}
    {od10 an10 : Option Addr} {sl10 : Array (Option Value)} {oc10 kV10 dc10 pm10 cd10 ct10 : Value}
    {od11 an11 : Option Addr} {sl11 : Array (Option Value)} {oc11 kV11 dc11 pm11 cd11 ct11 : Value}
    {od12 an12 : Option Addr} {sl12 : Array (Option Value)} {oc12 kV12 dc12 pm12 cd12 ct12 : Value}
    {od13 an13 : Option Addr} {sl13 : Array (Option Value)} {oc13 kV13 dc13 pm13 cd13 ct13 : Value}
    {od14 an14 : Option Addr} {sl14 : Array (Option Value)} {oc14 kV14 dc14 pm14 cd14 ct14 : Value}
    {od15 an15 : Option Addr} {sl15 : Array (Option Value)} {oc15 kV15 dc15 pm15 cd15 ct15 : Value}
    {od16 an16 : Option Addr} {sl16 : Array (Option Value)} {oc16 kV16 dc16 pm16 cd16 ct16 : Value}
    {od17 an17 : Option Addr} {sl17 : Array (Option Value)} {oc17 kV17 dc17 pm17 cd17 ct17 : Value}
    {od18 an18 : Option Addr} {sl18 : Array (Option Value)} {oc18 kV18 dc18 pm18 cd18 ct18 : Value}
    {od19 an19 : Option Addr} {sl19 : Array (Option Value)} {oc19 kV19 dc19 pm19 cd19 ct19 : Value}
    {od20 an20 : Option Addr} {sl20 : Array (Option Value)} {oc20 kV20 dc20 pm20 cd20 ct20 : Value}
    {od21 an21 : Option Addr} {sl21 : Array (Option Value)} {oc21 kV21 dc21 pm21 cd21 ct21 : Value}
    {od22 an22 : Option Addr} {sl22 : Array (Option Value)} {oc22 kV22 dc22 pm22 cd22 ct22 : Value}
    {od23 an23 : Option Addr} {sl23 : Array (Option Value)} {oc23 kV23 dc23 pm23 cd23 ct23 : Value}
    {od24 an24 : Option Addr} {sl24 : Array (Option Value)} {oc24 kV24 dc24 pm24 cd24 ct24 : Value}
    {od25 an25 : Option Addr} {sl25 : Array (Option Value)} {oc25 kV25 dc25 pm25 cd25 ct25 : Value}
    {od26 an26 : Option Addr} {sl26 : Array (Option Value)} {oc26 kV26 dc26 pm26 cd26 ct26 : Value}
    {od27 an27 : Option Addr} {sl27 : Array (Option Value)} {oc27 kV27 dc27 pm27 ct27 : Value}
    {od28 an28 : Option Addr} {sl28 : Array (Option Value)} {oc28 kV28 dc28 pm28 ct28 : Value}
    {od29 an29 : Option Addr} {sl29 : Array (Option Value)} {oc29 kV29 dc29 pm29 cd29 ct29 : Value}
    {t_FIGURES t_MOST_FIGURES : Tok}
    {cB eB cL cS cK cO : Addr} {xodB xanB : Option Addr} {xslB : Array (Option Value)} {xocB xkVB xdcB xpmB xcdB xctB : Value} {nmB qB : Str} {NB : Addr} {bbB : List Value} {snB : List Str} {subB : List Value} {abB : Bool} {colB : Option Bool} {ddB : Option Addr} {maB mbB mcB mdB meB : Option Value} {nmL qL : Str} {NL : Addr} {bbL bmmL : List Value} {snL : List Str} {subL : List Value} {abL : Bool} {colL : Option Bool} {ddL : Option Addr} {maL mbL mcL mdL meL : Option Value} {nwL : String} {nmS qS : Str} {NS : Addr} {bbS bmmS : List Value} {snS : List Str} {subS : List Value} {abS : Bool} {colS : Option Bool} {ddS : Option Addr} {maS mbS mcS mdS meS : Option Value} {nwS : String} {nmK qK : Str} {NK : Addr} {bbK bmmK : List Value} {snK : List Str} {subK : List Value} {abK : Bool} {colK : Option Bool} {ddK : Option Addr} {maK mbK mcK mdK meK : Option Value} {nwK : String} {nmO qO : Str} {NO : Addr} {bbO bmmO : List Value} {snO : List Str} {subO : List Value} {abO : Bool} {colO : Option Bool} {ddO : Option Addr} {maO mbO mcO mdO meO : Option Value} {nwO : String} {cF cR pF pR : Addr} {obF obR : Value} {ooF ooR : Option Addr} {vsF vsR : Array Value} {osF osR : Array (Option Value)} {q : Program} {drF drR : DefRec}
    (a1 : PySem.W.nsIn K mainGlobals "is_number" = some (some (.ref f1)))
    (l1 : K.lookup f1 = some ⟨oc1, od1, .func (PySem.W.fnOf "is_number" "is_number" (defArgs sNum) (defBody sNum) (defScope sNum) .none kV1 dc1 pm1 an1 cd1 ct1), sl1⟩)
    (d1 : PySem.W.codeIn K cd1 "is_number" = true)
    (k1 : PySem.W.keepIn K (.ref f1) = true)
    (a2 : PySem.W.nsIn K mainGlobals "is_place" = some (some (.ref f2)))
    (l2 : K.lookup f2 = some ⟨oc2, od2, .func (PySem.W.fnOf "is_place" "is_place" (defArgs sPl) (defBody sPl) (defScope sPl) .none kV2 dc2 pm2 an2 cd2 ct2), sl2⟩)
    (d2 : PySem.W.codeIn K cd2 "is_place" = true)
    (k2 : PySem.W.keepIn K (.ref f2) = true)
    (a3 : PySem.W.nsIn K mainGlobals "is_tuple_of" = some (some (.ref f3)))
    (l3 : K.lookup f3 = some ⟨oc3, od3, .func (PySem.W.fnOf "is_tuple_of" "is_tuple_of" (defArgs sTo) (defBody sTo) (defScope sTo) .none kV3 dc3 pm3 an3 cd3 ct3), sl3⟩)
    (d3 : PySem.W.codeIn K cd3 "is_tuple_of" = true)
    (k3 : PySem.W.keepIn K (.ref f3) = true)
    (a4 : PySem.W.nsIn K mainGlobals "is_lock" = some (some (.ref f4)))
    (l4 : K.lookup f4 = some ⟨oc4, od4, .func (PySem.W.fnOf "is_lock" "is_lock" (defArgs sIl) (defBody sIl) (defScope sIl) .none kV4 dc4 pm4 an4 cd4 ct4), sl4⟩)
    (d4 : PySem.W.codeIn K cd4 "is_lock" = true)
    (k4 : PySem.W.keepIn K (.ref f4) = true)
    (a5 : PySem.W.nsIn K mainGlobals "number_in" = some (some (.ref f5)))
    (l5 : K.lookup f5 = some ⟨oc5, od5, .func (PySem.W.fnOf "number_in" "number_in" (defArgs sNi) (defBody sNi) (defScope sNi) .none kV5 dc5 pm5 an5 cd5 ct5), sl5⟩)
    (d5 : PySem.W.codeIn K cd5 "number_in" = true)
    (k5 : PySem.W.keepIn K (.ref f5) = true)
    (a6 : PySem.W.nsIn K mainGlobals "row_text" = some (some (.ref f6)))
    (l6 : K.lookup f6 = some ⟨oc6, od6, .func (PySem.W.fnOf "row_text" "row_text" (defArgs sRt) (defBody sRt) (defScope sRt) .none kV6 dc6 pm6 an6 cd6 ct6), sl6⟩)
    (d6 : PySem.W.codeIn K cd6 "row_text" = true)
    (k6 : PySem.W.keepIn K (.ref f6) = true)
    (a7 : PySem.W.nsIn K mainGlobals "row_numbers" = some (some (.ref f7)))
    (l7 : K.lookup f7 = some ⟨oc7, od7, .func (PySem.W.fnOf "row_numbers" "row_numbers" (defArgs sRn) (defBody sRn) (defScope sRn) .none kV7 dc7 pm7 an7 cd7 ct7), sl7⟩)
    (d7 : PySem.W.codeIn K cd7 "row_numbers" = true)
    (k7 : PySem.W.keepIn K (.ref f7) = true)
    (a8 : PySem.W.nsIn K mainGlobals "lock_row" = some (some (.ref f8)))
    (l8 : K.lookup f8 = some ⟨oc8, od8, .func (PySem.W.fnOf "lock_row" "lock_row" (defArgs sLr) (defBody sLr) (defScope sLr) .none kV8 dc8 pm8 an8 cd8 ct8), sl8⟩)
    (d8 : PySem.W.codeIn K cd8 "lock_row" = true)
    (k8 : PySem.W.keepIn K (.ref f8) = true)
    (a9 : PySem.W.nsIn K mainGlobals "canal_rows" = some (some (.ref f9)))
    (l9 : K.lookup f9 = some ⟨oc9, od9, .func (PySem.W.fnOf "canal_rows" "canal_rows" (defArgs sCr) (defBody sCr) (defScope sCr) .none kV9 dc9 pm9 an9 cd9 ct9), sl9⟩)
    (d9 : PySem.W.codeIn K cd9 "canal_rows" = true)
    (k9 : PySem.W.keepIn K (.ref f9) = true)
    (a10 : PySem.W.nsIn K mainGlobals "canal_text" = some (some (.ref f10)))
    (l10 : K.lookup f10 = some ⟨oc10, od10, .func (PySem.W.fnOf "canal_text" "canal_text" (defArgs sCt) (defBody sCt) (defScope sCt) .none kV10 dc10 pm10 an10 cd10 ct10), sl10⟩)
    (d10 : PySem.W.codeIn K cd10 "canal_text" = true)
    (k10 : PySem.W.keepIn K (.ref f10) = true)
    (a11 : PySem.W.nsIn K mainGlobals "canal_in" = some (some (.ref f11)))
    (l11 : K.lookup f11 = some ⟨oc11, od11, .func (PySem.W.fnOf "canal_in" "canal_in" (defArgs sCi) (defBody sCi) (defScope sCi) .none kV11 dc11 pm11 an11 cd11 ct11), sl11⟩)
    (d11 : PySem.W.codeIn K cd11 "canal_in" = true)
    (k11 : PySem.W.keepIn K (.ref f11) = true)
    (a12 : PySem.W.nsIn K mainGlobals "_law_box" = some (some (.ref f12)))
    (l12 : K.lookup f12 = some ⟨oc12, od12, .func (PySem.W.fnOf "_law_box" "_law_box" (defArgs sBox) (defBody sBox) (defScope sBox) .none kV12 dc12 pm12 an12 cd12 ct12), sl12⟩)
    (d12 : PySem.W.codeIn K cd12 "_law_box" = true)
    (k12 : PySem.W.keepIn K (.ref f12) = true)
    (a13 : PySem.W.nsIn K mainGlobals "_law_take" = some (some (.ref f13)))
    (l13 : K.lookup f13 = some ⟨oc13, od13, .func (PySem.W.fnOf "_law_take" "_law_take" (defArgs sTake) (defBody sTake) (defScope sTake) .none kV13 dc13 pm13 an13 cd13 ct13), sl13⟩)
    (d13 : PySem.W.codeIn K cd13 "_law_take" = true)
    (k13 : PySem.W.keepIn K (.ref f13) = true)
    (a14 : PySem.W.nsIn K mainGlobals "_law_cells" = some (some (.ref f14)))
    (l14 : K.lookup f14 = some ⟨oc14, od14, .func (PySem.W.fnOf "_law_cells" "_law_cells" (defArgs sCells) (defBody sCells) (defScope sCells) .none kV14 dc14 pm14 an14 cd14 ct14), sl14⟩)
    (d14 : PySem.W.codeIn K cd14 "_law_cells" = true)
    (k14 : PySem.W.keepIn K (.ref f14) = true)
    (a15 : PySem.W.nsIn K mainGlobals "_law_of" = some (some (.ref f15)))
    (l15 : K.lookup f15 = some ⟨oc15, od15, .func (PySem.W.fnOf "_law_of" "_law_of" (defArgs sOf) (defBody sOf) (defScope sOf) .none kV15 dc15 pm15 an15 cd15 ct15), sl15⟩)
    (d15 : PySem.W.codeIn K cd15 "_law_of" = true)
    (k15 : PySem.W.keepIn K (.ref f15) = true)
    (a16 : PySem.W.nsIn K mainGlobals "_law_same" = some (some (.ref f16)))
    (l16 : K.lookup f16 = some ⟨oc16, od16, .func (PySem.W.fnOf "_law_same" "_law_same" (defArgs sSame) (defBody sSame) (defScope sSame) .none kV16 dc16 pm16 an16 cd16 ct16), sl16⟩)
    (d16 : PySem.W.codeIn K cd16 "_law_same" = true)
    (k16 : PySem.W.keepIn K (.ref f16) = true)
    (a17 : PySem.W.nsIn K mainGlobals "_law_lists" = some (some (.ref f17)))
    (l17 : K.lookup f17 = some ⟨oc17, od17, .func (PySem.W.fnOf "_law_lists" "_law_lists" (defArgs sLists) (defBody sLists) (defScope sLists) .none kV17 dc17 pm17 an17 cd17 ct17), sl17⟩)
    (d17 : PySem.W.codeIn K cd17 "_law_lists" = true)
    (k17 : PySem.W.keepIn K (.ref f17) = true)
    (a18 : PySem.W.nsIn K mainGlobals "_law_canal" = some (some (.ref f18)))
    (l18 : K.lookup f18 = some ⟨oc18, od18, .func (PySem.W.fnOf "_law_canal" "_law_canal" (defArgs sCanal) (defBody sCanal) (defScope sCanal) .none kV18 dc18 pm18 an18 cd18 ct18), sl18⟩)
    (d18 : PySem.W.codeIn K cd18 "_law_canal" = true)
    (k18 : PySem.W.keepIn K (.ref f18) = true)
    (a19 : PySem.W.nsIn K mainGlobals "_law_number_in" = some (some (.ref f19)))
    (l19 : K.lookup f19 = some ⟨oc19, od19, .func (PySem.W.fnOf "_law_number_in" "_law_number_in" (defArgs sLn) (defBody sLn) (defScope sLn) .none kV19 dc19 pm19 an19 cd19 ct19), sl19⟩)
    (d19 : PySem.W.codeIn K cd19 "_law_number_in" = true)
    (k19 : PySem.W.keepIn K (.ref f19) = true)
    (a20 : PySem.W.nsIn K mainGlobals "_law_numbers_in" = some (some (.ref f20)))
    (l20 : K.lookup f20 = some ⟨oc20, od20, .func (PySem.W.fnOf "_law_numbers_in" "_law_numbers_in" (defArgs sLs) (defBody sLs) (defScope sLs) .none kV20 dc20 pm20 an20 cd20 ct20), sl20⟩)
    (d20 : PySem.W.codeIn K cd20 "_law_numbers_in" = true)
    (k20 : PySem.W.keepIn K (.ref f20) = true)
    (a21 : PySem.W.nsIn K mainGlobals "_law_is_head" = some (some (.ref f21)))
    (l21 : K.lookup f21 = some ⟨oc21, od21, .func (PySem.W.fnOf "_law_is_head" "_law_is_head" (defArgs sIh) (defBody sIh) (defScope sIh) .none kV21 dc21 pm21 an21 cd21 ct21), sl21⟩)
    (d21 : PySem.W.codeIn K cd21 "_law_is_head" = true)
    (k21 : PySem.W.keepIn K (.ref f21) = true)
    (a22 : PySem.W.nsIn K mainGlobals "_law_is_gate" = some (some (.ref f22)))
    (l22 : K.lookup f22 = some ⟨oc22, od22, .func (PySem.W.fnOf "_law_is_gate" "_law_is_gate" (defArgs sIg) (defBody sIg) (defScope sIg) .none kV22 dc22 pm22 an22 cd22 ct22), sl22⟩)
    (d22 : PySem.W.codeIn K cd22 "_law_is_gate" = true)
    (k22 : PySem.W.keepIn K (.ref f22) = true)
    (a23 : PySem.W.nsIn K mainGlobals "_law_spoilt" = some (some (.ref f23)))
    (l23 : K.lookup f23 = some ⟨oc23, od23, .func (PySem.W.fnOf "_law_spoilt" "_law_spoilt" (defArgs sSp) (defBody sSp) (defScope sSp) .none kV23 dc23 pm23 an23 cd23 ct23), sl23⟩)
    (d23 : PySem.W.codeIn K cd23 "_law_spoilt" = true)
    (k23 : PySem.W.keepIn K (.ref f23) = true)
    (a24 : PySem.W.nsIn K mainGlobals "_law_told" = some (some (.ref f24)))
    (l24 : K.lookup f24 = some ⟨oc24, od24, .func (PySem.W.fnOf "_law_told" "_law_told" (defArgs sTd) (defBody sTd) (defScope sTd) .none kV24 dc24 pm24 an24 cd24 ct24), sl24⟩)
    (d24 : PySem.W.codeIn K cd24 "_law_told" = true)
    (k24 : PySem.W.keepIn K (.ref f24) = true)
    (a25 : PySem.W.nsIn K mainGlobals "_law_written" = some (some (.ref f25)))
    (l25 : K.lookup f25 = some ⟨oc25, od25, .func (PySem.W.fnOf "_law_written" "_law_written" (defArgs sWr) (defBody sWr) (defScope sWr) .none kV25 dc25 pm25 an25 cd25 ct25), sl25⟩)
    (d25 : PySem.W.codeIn K cd25 "_law_written" = true)
    (k25 : PySem.W.keepIn K (.ref f25) = true)
    (a26 : PySem.W.nsIn K mainGlobals "_law_read" = some (some (.ref f26)))
    (l26 : K.lookup f26 = some ⟨oc26, od26, .func (PySem.W.fnOf "_law_read" "_law_read" (defArgs sRd) (defBody sRd) (defScope sRd) .none kV26 dc26 pm26 an26 cd26 ct26), sl26⟩)
    (d26 : PySem.W.codeIn K cd26 "_law_read" = true)
    (k26 : PySem.W.keepIn K (.ref f26) = true)
    (a27 : PySem.W.nsIn K mainGlobals "_law_known_right" = some (some (.ref f27)))
    (l27 : K.lookup f27 = some ⟨oc27, od27, .func (PySem.W.fnOf "_law_known_right" "_law_known_right" (defArgs sKr) (defBody sKr) (defScope sKr) .none kV27 dc27 pm27 an27 (.ref cF) ct27), sl27⟩)
    (d27 : PySem.W.codeIn K (.ref cF) "_law_known_right" = true)
    (k27 : PySem.W.keepIn K (.ref f27) = true)
    (a28 : PySem.W.nsIn K mainGlobals "_law_right" = some (some (.ref f28)))
    (l28 : K.lookup f28 = some ⟨oc28, od28, .func (PySem.W.fnOf "_law_right" "_law_right" (defArgs sRight) (defBody sRight) (defScope sRight) .none kV28 dc28 pm28 an28 (.ref cR) ct28), sl28⟩)
    (d28 : PySem.W.codeIn K (.ref cR) "_law_right" = true)
    (k28 : PySem.W.keepIn K (.ref f28) = true)
    (a29 : PySem.W.nsIn K mainGlobals "law" = some (some (.ref f29)))
    (l29 : K.lookup f29 = some ⟨oc29, od29, .func (PySem.W.fnOf "law" "law" (defArgs sLaw) (defBody sLaw) (defScope sLaw) .none kV29 dc29 pm29 an29 cd29 ct29), sl29⟩)
    (d29 : PySem.W.codeIn K cd29 "law" = true)
    (k29 : PySem.W.keepIn K (.ref f29) = true)
    (z_abs : PySem.W.nsIn K mainGlobals "abs" = some none)
    (z_all : PySem.W.nsIn K mainGlobals "all" = some none)
    (z_bool : PySem.W.nsIn K mainGlobals "bool" = some none)
    (z_enumerate : PySem.W.nsIn K mainGlobals "enumerate" = some none)
    (z_int : PySem.W.nsIn K mainGlobals "int" = some none)
    (z_isinstance : PySem.W.nsIn K mainGlobals "isinstance" = some none)
    (z_len : PySem.W.nsIn K mainGlobals "len" = some none)
    (z_list : PySem.W.nsIn K mainGlobals "list" = some none)
    (z_max : PySem.W.nsIn K mainGlobals "max" = some none)
    (z_range : PySem.W.nsIn K mainGlobals "range" = some none)
    (z_str : PySem.W.nsIn K mainGlobals "str" = some none)
    (z_tuple : PySem.W.nsIn K mainGlobals "tuple" = some none)
    (z_zip : PySem.W.nsIn K mainGlobals "zip" = some none)
    (z_ValueError : PySem.W.nsIn K mainGlobals "ValueError" = some none)
    (z_LookupError : PySem.W.nsIn K mainGlobals "LookupError" = some none)
    (v_FIGURES : PySem.W.nsIn K mainGlobals "FIGURES" = some (some (.str "0123456789" t_FIGURES)))
    (v_MOST_FIGURES : PySem.W.nsIn K mainGlobals "MOST_FIGURES" = some (some (.int 13 t_MOST_FIGURES)))
    (caB : PySem.W.nsIn K mainGlobals "BadRow" = some (some (.ref cB)))
    (clB : K.lookup cB = some (excClassObj nmB qB cB NB bbB [.type "ValueError", .type "Exception", .type "BaseException", .type "object"] true snB subB abB colB ddB maB mbB mcB mdB meB "ValueError.__new__"))
    (csB : PySem.W.findIn K (.ref cB) "__setattr__" = some (some (.builtin "object.__setattr__")))
    (cgB : PySem.W.findIn K (.ref cB) "__getattribute__" = some (some (.builtin "BaseException.__getattribute__")))
    (ctB_ : PySem.W.findIn K (.ref cB) "__getattr__" = some none)
    (ckB : PySem.W.keepIn K (.ref cB) = true)
    (ccB : PySem.W.findIn K (.ref cB) "__class__" = some (some (.builtin "object.__class__")))
    (ciB : PySem.W.findIn K (.ref cB) "__init__" = some (some (.ref eB)))
    (cfB : PySem.W.typeIn K (.ref eB) = some (.type "function"))
    (cyB : PySem.W.typeIn K (.ref cB) = some (.type "type"))
    (chB : PySem.W.hasDictIn K cB = true)
    (cnB : PySem.W.findIn K (.ref cB) "at" = some none)
    (elB : K.lookup eB = some ⟨xocB, xodB, .func (PySem.W.fnOf "__init__" "BadRow.__init__" (defArgs sIR) (defBody sIR) (defScope sIR) .none xkVB xdcB xpmB xanB xcdB xctB), xslB⟩)
    (edB : PySem.W.codeIn K xcdB "BadRow.__init__" = true)
    (ekB : PySem.W.keepIn K (.ref eB) = true)
    (caL : PySem.W.nsIn K mainGlobals "Loose" = some (some (.ref cL)))
    (clL : K.lookup cL = some (excClassObj nmL qL cL NL bbL bmmL true snL subL abL colL ddL maL mbL mcL mdL meL nwL))
    (cyL : PySem.W.typeIn K (.ref cL) = some (.type "type"))
    (cbL : PySem.W.subIn K (.ref cL) (.type "BaseException") = some true)
    (chL : PySem.W.hasDictIn K cL = true)
    (caS : PySem.W.nsIn K mainGlobals "NoBasin" = some (some (.ref cS)))
    (clS : K.lookup cS = some (excClassObj nmS qS cS NS bbS bmmS true snS subS abS colS ddS maS mbS mcS mdS meS nwS))
    (cyS : PySem.W.typeIn K (.ref cS) = some (.type "type"))
    (cbS : PySem.W.subIn K (.ref cS) (.type "BaseException") = some true)
    (chS : PySem.W.hasDictIn K cS = true)
    (caK : PySem.W.nsIn K mainGlobals "NoLock" = some (some (.ref cK)))
    (clK : K.lookup cK = some (excClassObj nmK qK cK NK bbK bmmK true snK subK abK colK ddK maK mbK mcK mdK meK nwK))
    (cyK : PySem.W.typeIn K (.ref cK) = some (.type "type"))
    (cbK : PySem.W.subIn K (.ref cK) (.type "BaseException") = some true)
    (chK : PySem.W.hasDictIn K cK = true)
    (caO : PySem.W.nsIn K mainGlobals "Others" = some (some (.ref cO)))
    (clO : K.lookup cO = some (excClassObj nmO qO cO NO bbO bmmO true snO subO abO colO ddO maO mbO mcO mdO meO nwO))
    (cyO : PySem.W.typeIn K (.ref cO) = some (.type "type"))
    (cbO : PySem.W.subIn K (.ref cO) (.type "BaseException") = some true)
    (chO : PySem.W.hasDictIn K cO = true)
    (sg : PySem.W.specialIn K (.builtin "object.__class__") "__get__" = some (some (.builtin "getset_descriptor.__get__")))
    (st : PySem.W.takesIn K (.builtin "object.__class__") = some true)
    (xs1 : PySem.W.subIn K (.ref cB) (.ref cB) = some true)
    (xs2 : PySem.W.subIn K (.ref cB) (.ref cL) = some false)
    (xs3 : PySem.W.subIn K (.ref cB) (.ref cS) = some false)
    (xs4 : PySem.W.subIn K (.ref cB) (.ref cK) = some false)
    (xs5 : PySem.W.subIn K (.ref cB) (.ref cO) = some false)
    (lcF : K.lookup cF = some ⟨obF, ooF, .fields vsF, osF⟩)
    (vpF : (vsF[11]? : Option Value) = some (.ref pF))
    (rqF : (recsOf q).find? (fun e => e.name == PySem.Str.ofString "_law_known_right") = some drF)
    (npF : K.lookup pF = none)
    (lcR : K.lookup cR = some ⟨obR, ooR, .fields vsR, osR⟩)
    (vpR : (vsR[11]? : Option Value) = some (.ref pR))
    (rqR : (recsOf q).find? (fun e => e.name == PySem.Str.ofString "_law_right") = some drR)
    (npR : K.lookup pR = none)
    (xpnd : pF ≠ pR)
    (xLnd : cL ≠ cB)
    (xSnd : cS ≠ cB)
    (xKnd : cK ≠ cB)
    (xOnd : cO ≠ cB)
    (TP : Top q loose mean mg mb h) : LawT l.prog w K 14 63 "_law_script" mg fa h := by
  have G := TP.g
  have tF := tab_mk TP X rqF a27 l27 lcF vpF
  have tR := tab_mk TP X rqR a28 l28 lcR vpR
  have e := hfa.symm.trans (PySem.W.mg_of X G a29)
  cases e
  have F1 := fun_mk (st := sNum) l1 d1 k1
  have b1 := F1.binds (ps := ["thing"]) fun _ _ _ _ _ _ us hl => match us, hl with | [_], _ => rfl
  have g1 := PySem.W.mg_of X G a1
  have F2 := fun_mk (st := sPl) l2 d2 k2
  have b2 := F2.binds (ps := ["thing", "many"]) fun _ _ _ _ _ _ us hl => match us, hl with | [_, _], _ => rfl
  have g2 := PySem.W.mg_of X G a2
  have F3 := fun_mk (st := sTo) l3 d3 k3
  have b3 := F3.binds (ps := ["thing", "many"]) fun _ _ _ _ _ _ us hl => match us, hl with | [_, _], _ => rfl
  have g3 := PySem.W.mg_of X G a3
  have F4 := fun_mk (st := sIl) l4 d4 k4
  have b4 := F4.binds (ps := ["reds", "blues", "thing"]) fun _ _ _ _ _ _ us hl => match us, hl with | [_, _, _], _ => rfl
  have g4 := PySem.W.mg_of X G a4
  have F5 := fun_mk (st := sNi) l5 d5 k5
  have b5 := F5.binds (ps := ["word"]) fun _ _ _ _ _ _ us hl => match us, hl with | [_], _ => rfl
  have g5 := PySem.W.mg_of X G a5
  have F6 := fun_mk (st := sRt) l6 d6 k6
  have b6 := F6.binds (ps := ["word", "numbers"]) fun _ _ _ _ _ _ us hl => match us, hl with | [_, _], _ => rfl
  have g6 := PySem.W.mg_of X G a6
  have F7 := fun_mk (st := sRn) l7 d7 k7
  have b7 := F7.binds (ps := ["rows", "at", "word", "many"]) fun _ _ _ _ _ _ us hl => match us, hl with | [_, _, _, _], _ => rfl
  have g7 := PySem.W.mg_of X G a7
  have F8 := fun_mk (st := sLr) l8 d8 k8
  have b8 := F8.binds (ps := ["rows", "at", "reds", "blues"]) fun _ _ _ _ _ _ us hl => match us, hl with | [_, _, _, _], _ => rfl
  have g8 := PySem.W.mg_of X G a8
  have F9 := fun_mk (st := sCr) l9 d9 k9
  have b9 := F9.binds (ps := ["rows"]) fun _ _ _ _ _ _ us hl => match us, hl with | [_], _ => rfl
  have g9 := PySem.W.mg_of X G a9
  have F10 := fun_mk (st := sCt) l10 d10 k10
  have b10 := F10.binds (ps := ["canal"]) fun _ _ _ _ _ _ us hl => match us, hl with | [_], _ => rfl
  have g10 := PySem.W.mg_of X G a10
  have F11 := fun_mk (st := sCi) l11 d11 k11
  have b11 := F11.binds (ps := ["text"]) fun _ _ _ _ _ _ us hl => match us, hl with | [_], _ => rfl
  have g11 := PySem.W.mg_of X G a11
  have F12 := fun_mk (st := sBox) l12 d12 k12
  have b12 := F12.binds (ps := ["_law_cells_here", "_law_k"]) fun _ _ _ _ _ _ us hl => match us, hl with | [_, _], _ => rfl
  have g12 := PySem.W.mg_of X G a12
  have F13 := fun_mk (st := sTake) l13 d13 k13
  have b13 := F13.binds (ps := ["_law_box_here", "_law_size"]) fun _ _ _ _ _ _ us hl => match us, hl with | [_, _], _ => rfl
  have g13 := PySem.W.mg_of X G a13
  have F14 := fun_mk (st := sCells) l14 d14 k14
  have b14 := F14.binds (ps := ["_law_script", "_law_utmost"]) fun _ _ _ _ _ _ us hl => match us, hl with | [_, _], _ => rfl
  have g14 := PySem.W.mg_of X G a14
  have F15 := fun_mk (st := sOf) l15 d15 k15
  have b15 := F15.binds (ps := ["_law_box_here", "_law_some"]) fun _ _ _ _ _ _ us hl => match us, hl with | [_, _], _ => rfl
  have g15 := PySem.W.mg_of X G a15
  have F16 := fun_mk (st := sSame) l16 d16 k16
  have b16 := F16.binds (ps := ["_law_found", "_law_due"]) fun _ _ _ _ _ _ us hl => match us, hl with | [_, _], _ => rfl
  have g16 := PySem.W.mg_of X G a16
  have F17 := fun_mk (st := sLists) l17 d17 k17
  have b17 := F17.binds (ps := ["_law_what"]) fun _ _ _ _ _ _ us hl => match us, hl with | [_], _ => rfl
  have g17 := PySem.W.mg_of X G a17
  have F18 := fun_mk (st := sCanal) l18 d18 k18
  have b18 := F18.binds (ps := ["_law_box_here", "_law_wide", "_law_utmost"]) fun _ _ _ _ _ _ us hl => match us, hl with | [_, _, _], _ => rfl
  have g18 := PySem.W.mg_of X G a18
  have F19 := fun_mk (st := sLn) l19 d19 k19
  have b19 := F19.binds (ps := ["_law_word"]) fun _ _ _ _ _ _ us hl => match us, hl with | [_], _ => rfl
  have g19 := PySem.W.mg_of X G a19
  have F20 := fun_mk (st := sLs) l20 d20 k20
  have b20 := F20.binds (ps := ["_law_words"]) fun _ _ _ _ _ _ us hl => match us, hl with | [_], _ => rfl
  have g20 := PySem.W.mg_of X G a20
  have F21 := fun_mk (st := sIh) l21 d21 k21
  have b21 := F21.binds (ps := ["_law_line"]) fun _ _ _ _ _ _ us hl => match us, hl with | [_], _ => rfl
  have g21 := PySem.W.mg_of X G a21
  have F22 := fun_mk (st := sIg) l22 d22 k22
  have b22 := F22.binds (ps := ["_law_line", "_law_sizes"]) fun _ _ _ _ _ _ us hl => match us, hl with | [_, _], _ => rfl
  have g22 := PySem.W.mg_of X G a22
  have F23 := fun_mk (st := sSp) l23 d23 k23
  have b23 := F23.binds (ps := ["_law_box_here", "_law_sheet"]) fun _ _ _ _ _ _ us hl => match us, hl with | [_, _], _ => rfl
  have g23 := PySem.W.mg_of X G a23
  have F24 := fun_mk (st := sTd) l24 d24 k24
  have b24 := F24.binds (ps := ["_law_ask"]) fun _ _ _ _ _ _ us hl => match us, hl with | [_], _ => rfl
  have g24 := PySem.W.mg_of X G a24
  have F25 := fun_mk (st := sWr) l25 d25 k25
  have b25 := F25.binds (ps := ["_law_ship_way"]) fun _ _ _ _ _ _ us hl => match us, hl with | [_], _ => rfl
  have g25 := PySem.W.mg_of X G a25
  have F26 := fun_mk (st := sRd) l26 d26 k26
  have b26 := F26.binds (ps := ["_law_sheet"]) fun _ _ _ _ _ _ us hl => match us, hl with | [_], _ => rfl
  have g26 := PySem.W.mg_of X G a26
  have F27 := fun_mk (st := sKr) l27 d27 k27
  have b27 := F27.binds (ps := []) fun _ _ _ _ _ _ us hl => match us, hl with | [], _ => rfl
  have g27 := PySem.W.mg_of X G a27
  have F28 := fun_mk (st := sRight) l28 d28 k28
  have b28 := F28.binds (ps := ["_law_box_here"]) fun _ _ _ _ _ _ us hl => match us, hl with | [_], _ => rfl
  have g28 := PySem.W.mg_of X G a28
  have F29 := fun_mk (st := sLaw) l29 d29 k29
  have m_abs := PySem.W.mg_none_of X G z_abs
  have m_all := PySem.W.mg_none_of X G z_all
  have m_bool := PySem.W.mg_none_of X G z_bool
  have m_enumerate := PySem.W.mg_none_of X G z_enumerate
  have m_int := PySem.W.mg_none_of X G z_int
  have m_isinstance := PySem.W.mg_none_of X G z_isinstance
  have m_len := PySem.W.mg_none_of X G z_len
  have m_list := PySem.W.mg_none_of X G z_list
  have m_max := PySem.W.mg_none_of X G z_max
  have m_range := PySem.W.mg_none_of X G z_range
  have m_str := PySem.W.mg_none_of X G z_str
  have m_tuple := PySem.W.mg_none_of X G z_tuple
  have m_zip := PySem.W.mg_none_of X G z_zip
  have m_ValueError := PySem.W.mg_none_of X G z_ValueError
  have m_LookupError := PySem.W.mg_none_of X G z_LookupError
  have c_FIGURES := PySem.W.mg_of X G v_FIGURES
  have c_MOST_FIGURES := PySem.W.mg_of X G v_MOST_FIGURES
  refine ⟨PySem.W.fnOf "law" "law" (defArgs sLaw) (defBody sLaw) (defScope sLaw) .none kV29 dc29 pm29 an29 cd29 ct29, [(cF, pF), (cR, pR)], spLaw K [(pF, qKr), (pR, qRight)], fun p hp => ?_, fun p hp => ?_, fun s v => .of_eq rfl, fun H a ns hl ht hS => ⟨a, ns, rfl, hS, hl, fun p hp => ?_, fun _ => rfl⟩, fun base _ _ hTB => ?_⟩
  · rcases two_mem hp with rfl | rfl
    · exact tF
    · exact tR
  · rcases two_mem hp with rfl | rfl
    · exact npF
    · exact npR
  · rcases two_mem hp with rfl | rfl
    · exact TabS.nil (ht (cF, pF) (List.mem_cons_self ..))
    · exact TabS.nil (ht (cR, pR) (List.mem_cons_of_mem _ (List.mem_cons_self ..)))
  have TBF := hTB (cF, pF) (List.mem_cons_self ..)
  have TBR := hTB (cR, pR) (List.mem_cons_of_mem _ (List.mem_cons_self ..))
  have hmF : (pF, qKr) ∈ [(pF, qKr), (pR, qRight)] := List.mem_cons_self ..
  have hmR : (pR, qRight) ∈ [(pF, qKr), (pR, qRight)] := List.mem_cons_of_mem _ (List.mem_cons_self ..)
  have huF : ∀ p ∈ [(pF, qKr), (pR, qRight)], p.1 = pF → p.2 = qKr := fun p hp e => by
    rcases two_mem hp with rfl | rfl
    · rfl
    · exact absurd e.symm xpnd
  have huR : ∀ p ∈ [(pF, qKr), (pR, qRight)], p.1 = pR → p.2 = qRight := fun p hp e => by
    rcases two_mem hp with rfl | rfl
    · exact absurd e xpnd
    · rfl
  have xxB : ExK K cB 0 := exk_mk F.excBase_ValueError F.store_ValueError.passes (by decide +kernel) (by decide +kernel) clB csB cgB ctB_ ckB ccB chB sg st
  have yyB := fun_mk (st := sIR) elB edB ekB
  have ybB := yyB.binds (ps := ["self", "at"]) fun _ _ _ _ _ _ us hl => match us, hl with | [_, _], _ => rfl
  have TB : Er l.prog w K mg base "BadRow" 0 cB eB _ ["self", "at"] (spI cB "at") := ⟨xxB, cyB, ciB, cfB, PySem.W.mg_of X G caB, ok_IR yyB xxB cnB m_ValueError, ybB⟩
  have KL : Cl K cL := ⟨⟨_, _, _, _, _, _, _, _, _, _, _, _, _, _, _, _, clL⟩, cyL, cbL, chL⟩
  have KS : Cl K cS := ⟨⟨_, _, _, _, _, _, _, _, _, _, _, _, _, _, _, _, clS⟩, cyS, cbS, chS⟩
  have KK : Cl K cK := ⟨⟨_, _, _, _, _, _, _, _, _, _, _, _, _, _, _, _, clK⟩, cyK, cbK, chK⟩
  have KO : Cl K cO := ⟨⟨_, _, _, _, _, _, _, _, _, _, _, _, _, _, _, _, clO⟩, cyO, cbO, chO⟩
  have KB : Cl K cB := ⟨⟨_, _, _, _, _, _, _, _, _, _, _, _, _, _, _, _, clB⟩, cyB, xxB.exC, chB⟩
  have TT : Tell K mg cB cL cS cK cO := ⟨PySem.W.mg_of X G caB, PySem.W.mg_of X G caL, PySem.W.mg_of X G caS, PySem.W.mg_of X G caK, PySem.W.mg_of X G caO, xxB, exm_cons (exm_of_sub KB xs1) (exm_cons (exm_of_sub KL xs2) (exm_cons (exm_of_sub KS xs3) (exm_cons (exm_of_sub KK xs4) (exm_cons (exm_of_sub KO xs5) rfl)))), kit_self, kit_cons (kit_ne xxB KL xLnd) (kit_cons (kit_ne xxB KS xSnd) (kit_cons (kit_ne xxB KK xKnd) (kit_cons (kit_ne xxB KO xOnd) kit_nil))), kit_py xxB (by decide +kernel) (by decide +kernel), cnB⟩
  have TO : ToldK K mg cB cL cS cK cO f24 _ := ⟨F24, b24, g24, TT, m_isinstance, m_ValueError⟩
  have FCF : FunC K "_law_known_right" "_law_known_right" sKr f27 _ cF := ⟨⟨_, _, _, _, _, _, _, _, rfl, l27, d27⟩⟩
  have FCR : FunC K "_law_right" "_law_right" sRight f28 _ cR := ⟨⟨_, _, _, _, _, _, _, _, rfl, l28, d28⟩⟩
  have v0_law_canal_spCanal_12 : Fns l.prog w K mg base 12 "_law_canal" ["_law_box_here", "_law_wide", "_law_utmost"] (spCanal K) f18 _ := ⟨ok_canal (k := 9) F18 F13 b13 g13 F15 b15 g15 m_len m_list m_tuple m_range, g18, k18, b18⟩
  have v1_law_take_spTake_12 : Fns l.prog w K mg base 12 "_law_take" ["_law_box_here", "_law_size"] (spTake) f13 _ := ⟨ok_take (k := 11) F13, g13, k13, b13⟩
  have v2_law_written_spSt_12 : Fns l.prog w K mg base 12 "_law_written" ["_law_ship_way"] (spSt K) f25 _ := ⟨ok_wr (k := 11) F25 m_str, g25, k25, b25⟩
  have v4_row_text_spRt_11 : Fns l.prog w K mg base 11 "row_text" ["word", "numbers"] (spRt K) f6 _ := ⟨ok_rt (k := 10) F6 m_str, g6, k6, b6⟩
  have v3_canal_text_spSt_12 : Fns l.prog w K mg base 12 "canal_text" ["canal"] (spSt K) f10 _ := ⟨ok_ct (k := 11) F10 v4_row_text_spRt_11, g10, k10, b10⟩
  have v5_law_lists_spLists_12 : Fns l.prog w K mg base 12 "_law_lists" ["_law_what"] (spLists K 12) f17 _ := ⟨ok_lists F17 b17 g17 m_isinstance m_list m_tuple 12, g17, k17, b17⟩
  have v6_law_same_spSame_12 : Fns l.prog w K mg base 12 "_law_same" ["_law_found", "_law_due"] (spSame K 12) f16 _ := ⟨ok_same F16 b16 g16 m_isinstance m_list m_tuple m_zip m_len m_all m_bool m_str m_int 12, g16, k16, b16⟩
  have v10_number_in_spNi_7 : Fns l.prog w K mg base 7 "number_in" ["word"] (spNi) f5 _ := ⟨ok_ni (k := 6) F5 c_FIGURES c_MOST_FIGURES m_len m_all m_int, g5, k5, b5⟩
  have v9_row_numbers_spRn_8 : FnX l.prog w K mg base 8 "row_numbers" ["rows", "at", "word", "many"] (spRn K cB) f7 _ := ⟨ok_rn (k := 5) F7 v10_number_in_spNi_7 TB m_len m_tuple, g7, k7, b7⟩
  have v13_number_in_spNi_6 : Fns l.prog w K mg base 6 "number_in" ["word"] (spNi) f5 _ := ⟨ok_ni (k := 5) F5 c_FIGURES c_MOST_FIGURES m_len m_all m_int, g5, k5, b5⟩
  have v12_row_numbers_spRn_7 : FnX l.prog w K mg base 7 "row_numbers" ["rows", "at", "word", "many"] (spRn K cB) f7 _ := ⟨ok_rn (k := 4) F7 v13_number_in_spNi_6 TB m_len m_tuple, g7, k7, b7⟩
  have v15_is_tuple_of_spTo_6 : Fns l.prog w K mg base 6 "is_tuple_of" ["thing", "many"] (spTo K) f3 _ := ⟨ok_to (k := 5) F3 m_isinstance m_tuple m_len, g3, k3, b3⟩
  have v17_is_number_spNum_5 : Fns l.prog w K mg base 5 "is_number" ["thing"] (spNum) f1 _ := ⟨ok_num (k := 4) F1 m_isinstance m_int m_bool, g1, k1, b1⟩
  have v16_is_place_spPl_6 : Fns l.prog w K mg base 6 "is_place" ["thing", "many"] (spPl) f2 _ := ⟨ok_pl (k := 5) F2 v17_is_number_spNum_5, g2, k2, b2⟩
  have v14_is_lock_spIl_7 : Fns l.prog w K mg base 7 "is_lock" ["reds", "blues", "thing"] (spIl K) f4 _ := ⟨ok_il (k := 6) F4 v15_is_tuple_of_spTo_6 v16_is_place_spPl_6, g4, k4, b4⟩
  have v11_lock_row_spLr_8 : FnX l.prog w K mg base 8 "lock_row" ["rows", "at", "reds", "blues"] (spLr K cB) f8 _ := ⟨ok_lr (k := 5) F8 v12_row_numbers_spRn_7 v14_is_lock_spIl_7 TB, g8, k8, b8⟩
  have v8_canal_rows_spCr_9 : FnX l.prog w K mg base 9 "canal_rows" ["rows"] (spCr K cB) f9 _ := ⟨ok_cr (k := 6) F9 v9_row_numbers_spRn_8 v11_lock_row_spLr_8 TB m_len m_range m_tuple, g9, k9, b9⟩
  have v7_canal_in_spSi_10 : FnX l.prog w K mg base 10 "canal_in" ["text"] (spSi K cB) f11 _ := ⟨ok_si (k := 9) F11 v8_canal_rows_spCr_9, g11, k11, b11⟩
  have v19_law_take_spTake_11 : Fns l.prog w K mg base 11 "_law_take" ["_law_box_here", "_law_size"] (spTake) f13 _ := ⟨ok_take (k := 10) F13, g13, k13, b13⟩
  have v18_law_spoilt_spSp_12 : Fns l.prog w K mg base 12 "_law_spoilt" ["_law_box_here", "_law_sheet"] (spSp) f23 _ := ⟨ok_sp (k := 11) F23 v19_law_take_spTake_11 m_len, g23, k23, b23⟩
  have v23_law_number_in_spNi_9 : Fns l.prog w K mg base 9 "_law_number_in" ["_law_word"] (spNi) f19 _ := ⟨ok_ln (k := 8) F19 m_len m_int m_str, g19, k19, b19⟩
  have v22_law_numbers_in_spLs_10 : Fns l.prog w K mg base 10 "_law_numbers_in" ["_law_words"] (spLs K) f20 _ := ⟨ok_ls (k := 9) F20 v23_law_number_in_spNi_9, g20, k20, b20⟩
  have v21_law_is_head_spIh_11 : Fns l.prog w K mg base 11 "_law_is_head" ["_law_line"] (spIh K) f21 _ := ⟨ok_ih (k := 10) F21 v22_law_numbers_in_spLs_10 m_len, g21, k21, b21⟩
  have v24_law_is_gate_spIg_11 : Fns l.prog w K mg base 11 "_law_is_gate" ["_law_line", "_law_sizes"] (spIg K) f22 _ := ⟨ok_ig (k := 10) F22 v22_law_numbers_in_spLs_10 m_len m_max, g22, k22, b22⟩
  have v26_law_number_in_spNi_10 : Fns l.prog w K mg base 10 "_law_number_in" ["_law_word"] (spNi) f19 _ := ⟨ok_ln (k := 9) F19 m_len m_int m_str, g19, k19, b19⟩
  have v25_law_numbers_in_spLs_11 : Fns l.prog w K mg base 11 "_law_numbers_in" ["_law_words"] (spLs K) f20 _ := ⟨ok_ls (k := 10) F20 v26_law_number_in_spNi_10, g20, k20, b20⟩
  have v20_law_read_spRd_12 : Fns l.prog w K mg base 12 "_law_read" ["_law_sheet"] (spRd K) f26 _ := ⟨ok_rd (k := 11) F26 v21_law_is_head_spIh_11 v24_law_is_gate_spIg_11 v25_law_numbers_in_spLs_11 m_tuple m_enumerate, g26, k26, b26⟩
  have v27_law_same_spSame_11 : Fns l.prog w K mg base 11 "_law_same" ["_law_found", "_law_due"] (spSame K 11) f16 _ := ⟨ok_same F16 b16 g16 m_isinstance m_list m_tuple m_zip m_len m_all m_bool m_str m_int 11, g16, k16, b16⟩
  have v32_number_in_spNi_5 : Fns l.prog w K mg base 5 "number_in" ["word"] (spNi) f5 _ := ⟨ok_ni (k := 4) F5 c_FIGURES c_MOST_FIGURES m_len m_all m_int, g5, k5, b5⟩
  have v31_row_numbers_spRn_6 : FnX l.prog w K mg base 6 "row_numbers" ["rows", "at", "word", "many"] (spRn K cB) f7 _ := ⟨ok_rn (k := 3) F7 v32_number_in_spNi_5 TB m_len m_tuple, g7, k7, b7⟩
  have v34_is_tuple_of_spTo_5 : Fns l.prog w K mg base 5 "is_tuple_of" ["thing", "many"] (spTo K) f3 _ := ⟨ok_to (k := 4) F3 m_isinstance m_tuple m_len, g3, k3, b3⟩
  have v36_is_number_spNum_4 : Fns l.prog w K mg base 4 "is_number" ["thing"] (spNum) f1 _ := ⟨ok_num (k := 3) F1 m_isinstance m_int m_bool, g1, k1, b1⟩
  have v35_is_place_spPl_5 : Fns l.prog w K mg base 5 "is_place" ["thing", "many"] (spPl) f2 _ := ⟨ok_pl (k := 4) F2 v36_is_number_spNum_4, g2, k2, b2⟩
  have v33_is_lock_spIl_6 : Fns l.prog w K mg base 6 "is_lock" ["reds", "blues", "thing"] (spIl K) f4 _ := ⟨ok_il (k := 5) F4 v34_is_tuple_of_spTo_5 v35_is_place_spPl_5, g4, k4, b4⟩
  have v30_lock_row_spLr_7 : FnX l.prog w K mg base 7 "lock_row" ["rows", "at", "reds", "blues"] (spLr K cB) f8 _ := ⟨ok_lr (k := 4) F8 v31_row_numbers_spRn_6 v33_is_lock_spIl_6 TB, g8, k8, b8⟩
  have v29_canal_rows_spCr_8 : FnX l.prog w K mg base 8 "canal_rows" ["rows"] (spCr K cB) f9 _ := ⟨ok_cr (k := 5) F9 v12_row_numbers_spRn_7 v30_lock_row_spLr_7 TB m_len m_range m_tuple, g9, k9, b9⟩
  have v28_canal_in_spSi_9 : FnX l.prog w K mg base 9 "canal_in" ["text"] (spSi K cB) f11 _ := ⟨ok_si (k := 8) F11 v29_canal_rows_spCr_8, g11, k11, b11⟩
  have Ce : Fns l.prog w K mg base 13 "_law_cells" ["_law_script", "_law_utmost"] (spCells K) f14 _ := ⟨ok_cells (k := 12) F14 m_list m_enumerate, g14, k14, b14⟩
  have Bx : Fns l.prog w K mg base 13 "_law_box" ["_law_cells_here", "_law_k"] (spBox K) f12 _ := ⟨ok_box (k := 12) F12 m_abs m_int, g12, k12, b12⟩
  have R := ok_right FCR v0_law_canal_spCanal_12 v1_law_take_spTake_12 v2_law_written_spSt_12 v3_canal_text_spSt_12 (kb1 F10 fun _ _ _ _ _ _ _ => rfl) v5_law_lists_spLists_12 v6_law_same_spSame_12 v7_canal_in_spSi_10 (kb1 F11 fun _ _ _ _ _ _ _ => rfl) v18_law_spoilt_spSp_12 v20_law_read_spRd_12 (ok_kr FCF v27_law_same_spSame_11 v28_canal_in_spSi_9 TO TBF hmF huF) g27 k27 b27 TO TBR hmR huR m_range
  exact ok_law F29 Ce Bx R g28 k28 b28 m_len m_all m_range
end XL
open PySem PySem.W PyProof.Rows
set_option maxRecDepth 100000 in
set_option maxHeartbeats 0 in
theorem PySem.Challenge.cw_crosslocks_k36_canals_as_texts_holds : PySem.Challenge.rw_crosslocks_k36_canals_as_texts.Holds := by
  w_on; o_law; k_head; (case hw => w_witness2)
  k_fill
  refine XL.walkTG (l := PySem.Challenge.rw_crosslocks_k36_canals_as_texts) (n := 63) (k := 14) (x := "_law_script") rfl (by decide) rfl ⟨rfl, by decide, by decide⟩ (fun w h Y => PySem.W.km_in_of Y) ?F
  case F =>
    intro w mean mg mb fa h KX G hmg
    refine' XL.all_mk KX hmg ?a1 ?l1 ?d1 ?k1 ?a2 ?l2 ?d2 ?k2 ?a3 ?l3 ?d3 ?k3 ?a4 ?l4 ?d4 ?k4 ?a5 ?l5 ?d5 ?k5 ?a6 ?l6 ?d6 ?k6 ?a7 ?l7 ?d7 ?k7 ?a8 ?l8 ?d8 ?k8 ?a9 ?l9 ?d9 ?k9 ?a10 ?l10 ?d10 ?k10 ?a11 ?l11 ?d11 ?k11 ?a12 ?l12 ?d12 ?k12 ?a13 ?l13 ?d13 ?k13 ?a14 ?l14 ?d14 ?k14 ?a15 ?l15 ?d15 ?k15 ?a16 ?l16 ?d16 ?k16 ?a17 ?l17 ?d17 ?k17 ?a18 ?l18 ?d18 ?k18 ?a19 ?l19 ?d19 ?k19 ?a20 ?l20 ?d20 ?k20 ?a21 ?l21 ?d21 ?k21 ?a22 ?l22 ?d22 ?k22 ?a23 ?l23 ?d23 ?k23 ?a24 ?l24 ?d24 ?k24 ?a25 ?l25 ?d25 ?k25 ?a26 ?l26 ?d26 ?k26 ?a27 ?l27 ?d27 ?k27 ?a28 ?l28 ?d28 ?k28 ?a29 ?l29 ?d29 ?k29 ?z_abs ?z_all ?z_bool ?z_enumerate ?z_int ?z_isinstance ?z_len ?z_list ?z_max ?z_range ?z_str ?z_tuple ?z_zip ?z_ValueError ?z_LookupError ?v_FIGURES ?v_MOST_FIGURES ?caB ?clB ?csB ?cgB ?ctB_ ?ckB ?ccB ?ciB ?cfB ?cyB ?chB ?cnB ?elB ?edB ?ekB ?caL ?clL ?cyL ?cbL ?chL ?caS ?clS ?cyS ?cbS ?chS ?caK ?clK ?cyK ?cbK ?chK ?caO ?clO ?cyO ?cbO ?chO ?sg ?st ?xs1 ?xs2 ?xs3 ?xs4 ?xs5 ?lcF ?vpF ?rqF ?npF ?lcR ?vpR ?rqR ?npR ?xpnd ?xLnd ?xSnd ?xKnd ?xOnd G
    (case a1 => k_is)
    (case l1 => k_is)
    (case d1 => k_is)
    (case k1 => k_is)
    (case a2 => k_is)
    (case l2 => k_is)
    (case d2 => k_is)
    (case k2 => k_is)
    (case a3 => k_is)
    (case l3 => k_is)
    (case d3 => k_is)
    (case k3 => k_is)
    (case a4 => k_is)
    (case l4 => k_is)
    (case d4 => k_is)
    (case k4 => k_is)
    (case a5 => k_is)
    (case l5 => k_is)
    (case d5 => k_is)
    (case k5 => k_is)
    (case a6 => k_is)
    (case l6 => k_is)
    (case d6 => k_is)
    (case k6 => k_is)
    (case a7 => k_is)
    (case l7 => k_is)
    (case d7 => k_is)
    (case k7 => k_is)
    (case a8 => k_is)
    (case l8 => k_is)
    (case d8 => k_is)
    (case k8 => k_is)
    (case a9 => k_is)
    (case l9 => k_is)
    (case d9 => k_is)
    (case k9 => k_is)
    (case a10 => k_is)
    (case l10 => k_is)
    (case d10 => k_is)
    (case k10 => k_is)
    (case a11 => k_is)
    (case l11 => k_is)
    (case d11 => k_is)
    (case k11 => k_is)
    (case a12 => k_is)
    (case l12 => k_is)
    (case d12 => k_is)
    (case k12 => k_is)
    (case a13 => k_is)
    (case l13 => k_is)
    (case d13 => k_is)
    (case k13 => k_is)
    (case a14 => k_is)
    (case l14 => k_is)
    (case d14 => k_is)
    (case k14 => k_is)
    (case a15 => k_is)
    (case l15 => k_is)
    (case d15 => k_is)
    (case k15 => k_is)
    (case a16 => k_is)
    (case l16 => k_is)
    (case d16 => k_is)
    (case k16 => k_is)
    (case a17 => k_is)
    (case l17 => k_is)
    (case d17 => k_is)
    (case k17 => k_is)
    (case a18 => k_is)
    (case l18 => k_is)
    (case d18 => k_is)
    (case k18 => k_is)
    (case a19 => k_is)
    (case l19 => k_is)
    (case d19 => k_is)
    (case k19 => k_is)
    (case a20 => k_is)
    (case l20 => k_is)
    (case d20 => k_is)
    (case k20 => k_is)
    (case a21 => k_is)
    (case l21 => k_is)
    (case d21 => k_is)
    (case k21 => k_is)
    (case a22 => k_is)
    (case l22 => k_is)
    (case d22 => k_is)
    (case k22 => k_is)
    (case a23 => k_is)
    (case l23 => k_is)
    (case d23 => k_is)
    (case k23 => k_is)
    (case a24 => k_is)
    (case l24 => k_is)
    (case d24 => k_is)
    (case k24 => k_is)
    (case a25 => k_is)
    (case l25 => k_is)
    (case d25 => k_is)
    (case k25 => k_is)
    (case a26 => k_is)
    (case l26 => k_is)
    (case d26 => k_is)
    (case k26 => k_is)
    (case a27 => k_is)
    (case l27 => k_is)
    (case d27 => k_is)
    (case k27 => k_is)
    (case a28 => k_is)
    (case l28 => k_is)
    (case d28 => k_is)
    (case k28 => k_is)
    (case a29 => k_is)
    (case l29 => k_is)
    (case d29 => k_is)
    (case k29 => k_is)
    (case z_abs => k_is)
    (case z_all => k_is)
    (case z_bool => k_is)
    (case z_enumerate => k_is)
    (case z_int => k_is)
    (case z_isinstance => k_is)
    (case z_len => k_is)
    (case z_list => k_is)
    (case z_max => k_is)
    (case z_range => k_is)
    (case z_str => k_is)
    (case z_tuple => k_is)
    (case z_zip => k_is)
    (case z_ValueError => k_is)
    (case z_LookupError => k_is)
    (case v_FIGURES => k_is)
    (case v_MOST_FIGURES => k_is)
    (case caB => k_is)
    (case clB => k_is)
    (case csB => k_is)
    (case cgB => k_is)
    (case ctB_ => k_is)
    (case ckB => k_is)
    (case ccB => k_is)
    (case ciB => k_is)
    (case cfB => k_is)
    (case cyB => k_is)
    (case chB => k_is)
    (case cnB => k_is)
    (case elB => k_is)
    (case edB => k_is)
    (case ekB => k_is)
    (case caL => k_is)
    (case clL => k_is)
    (case cyL => k_is)
    (case cbL => k_is)
    (case chL => k_is)
    (case caS => k_is)
    (case clS => k_is)
    (case cyS => k_is)
    (case cbS => k_is)
    (case chS => k_is)
    (case caK => k_is)
    (case clK => k_is)
    (case cyK => k_is)
    (case cbK => k_is)
    (case chK => k_is)
    (case caO => k_is)
    (case clO => k_is)
    (case cyO => k_is)
    (case cbO => k_is)
    (case chO => k_is)
    (case sg => k_is)
    (case st => k_is)
    (case xs1 => k_is)
    (case xs2 => k_is)
    (case xs3 => k_is)
    (case xs4 => k_is)
    (case xs5 => k_is)
    (case lcF => k_is)
    (case vpF => rfl)
    (case rqF => rfl)
    (case npF => kernel_rfl)
    (case lcR => k_is)
    (case vpR => rfl)
    (case rqR => rfl)
    (case npR => kernel_rfl)
    (case xpnd => decide)
    (case xLnd => decide)
    (case xSnd => decide)
    (case xKnd => decide)
    (case xOnd => decide)

import PyProof.Rows.All
import Wide.All
import OpenK.AllK
import Wide.FinOn
import KE.GoesMore
import KE.KDictZip
import PyProof.ListNew
import PyProof.SeqWrite
import KE.GoesEnum
import HandS.ForMost
import HandS.Zip
import PyProof.ReprRoads
import HandS.Wide
import HandS.IsInst
import HandS.TupAny
import HandS.NoneIn
import HandS.Flow
import HandS.Conv
import HandS.Walk
import HandS.ExcValue
import HandS.Style
import HandS.ExcInit
import HandS.ExcField
import KE.KExcIs
import KE.KExcInit
import KE.KExcSuper
import HandS.ExcIs
import KE.KTryMore
import HandS.WordsExc
import HandS.ExcOwn
import HandS.Dict
import HandS.DictComp
import KE.KeyNested
import KE.KDictKeyed
import KE.KDictDisplayH
import HandS.TupLen
import HandS.Deep
import HandS.Iter
import HandS.SortInts
import KE.SortData
import KE.SortKeyed
import KE.KDictSum
import KE.DataMinMax
import KE.KNest
import HandS.Lambda
import HandS.EndBits
import PyProof.ReprLen
import PySem.Challenge.RW_crosslocks_k31_small_lots_gone_through
set_option Elab.async false
set_option linter.all false
set_option maxRecDepth 100000
namespace XL
open PySem PyProof.Rows
section
variable {prog : Program} {w : World} {A : Around} {E : Value → Shared → Prop} {s : Shared} {z TI TO T i1 i2 : Addr}
variable {fp1 fp2 : List Addr} {n1 n2 i : Nat} {P1 P2 : Nat → Value → Prop} {St1 St2 : Nat → Heap → Prop} {a1 a2 : Value} {f : Bool} {oT : Obj}

/-- one more pair while the one given out before is held -/
theorem held_item {Q : Value → Shared → Prop} (S : ZipSep2 z TI TO i1 i2 fp1 fp2)
    (D1 : Draws prog w A i1 fp1 n1 P1 St1) (D2 : Draws prog w A i2 fp2 n2 P2 St2)
    (hz : IsZipHeld s.heap z TI TO T f) (hT : s.heap.get? T = some oT) (hTI : IsTupOf2 s.heap TI (.ref i1) (.ref i2))
    (st1 : St1 i s.heap) (st2 : St2 i s.heap) (l1 : i < n1) (l2 : i < n2)
    (hQ : ∀ x1 x2 h' tk, P1 i x1 → P2 i x2 → IsZipHeld h' z TI TO T true → St1 (i + 1) h' → St2 (i + 1) h' →
      IsTupOf2 h' s.heap.objs.size x1 x2 → h'.objs.size = s.heap.objs.size + 1 →
      (∀ c o, c ≠ z → c ≠ i1 → c ≠ i2 → s.heap.get? c = some o → h'.get? c = some o) →
      Q (.ref s.heap.objs.size) { s with heap := h', toks := tk }) :
    wpAny (model prog w) A (Builtin.«zip.__next__» ⟨[.ref z], []⟩) (fun fin s' => ∃ v, fin = .done (.ret v) ∧ Q v s') E s := by
  obtain ⟨hp, g, d, tk0, os⟩ := s
  show wpAny _ _ (field (.ref z) 2 >>= _) _ _ _
  refine wpAny_bind (wpAny_field hz rfl (x := .bool false) rfl ?_); show wpAny _ _ (field (.ref z) 3 >>= _) _ _ _
  refine wpAny_bind (wpAny_field hz rfl (x := .ref TI) rfl ?_); refine wpAny_bind (wpAny_seqItems hTI rfl ?_)
  show wpAny _ _ (Builtin.SmallTypes.ownedTupleIsFree (.ref z) >>= _) _ _ _
  refine wpAny_bind (wpAny_tupleHeld_zip hz hT fun g0 hz0 hs0 => ?_); simp only [Bool.false_eq_true, if_false]; refine wpAny_bind ?_
  replace hs0 : Heap.SameBut z hp g0 := hs0
  rw [← Array.forIn_toList]; simp only [List.forIn_cons, List.forIn_nil]
  refine wpAny_bind (wpAny_bind (wpAny_holding ?_)); show wpAny _ _ (Builtin.SmallTypes.nextOf (.ref i1) >>= _) _ _ ⟨g0, g, d, tk0, os⟩
  refine wpAny_bind (D1.item i _ _ _ l1 (D1.over st1 hs0 S.zf1) fun x1 p1 tk1 hx1 sn1 hp1 => wpAny_pure ?_)
  replace hp1 : Heap.SameBut i1 g0 p1 := hp1
  refine wpAny_pure ?_
  refine wpAny_bind (wpAny_bind (wpAny_holding ?_)); show wpAny _ _ (Builtin.SmallTypes.nextOf (.ref i2) >>= _) _ _ ⟨p1, g, d, tk1, os⟩
  refine wpAny_bind (D2.item i _ _ _ l2 (D2.over (D2.over st2 hs0 S.zf2) hp1 S.sep1_2) fun x2 p2 tk2 hx2 sn2 hp2 => wpAny_pure ?_)
  replace hp2 : Heap.SameBut i2 p1 p2 := hp2
  refine wpAny_pure (wpAny_pure ?_); show wpAny _ _ (newTuple [x1, x2] >>= _) _ _ _
  refine wpAny_bind (wpAny_newTuple ?_)
  have hsz : p2.objs.size = hp.objs.size := by rw [hp2.1, hp1.1, hs0.1]
  have hz2 : IsZipHeld p2 z TI TO T true := hp2.extBut _ _ S.zi2 (hp1.extBut _ _ S.zi1 hz0)
  have hk : ∀ c o, c ≠ z → c ≠ i1 → c ≠ i2 → hp.get? c = some o → p2.get? c = some o := fun c o c0 c1 c2 e =>
    hp2.extBut _ _ c2 (hp1.extBut _ _ c1 (hs0.extBut _ _ c0 e))
  have j1 : St1 (i + 1) p2 := D1.over sn1 hp2 S.sep2_1
  refine wpAny_pure ⟨_, rfl, ?_⟩; show Q (.ref p2.objs.size) _
  have hpr : IsTupOf2 (p2.push { cls := .type "tuple", data := .seq #[x1, x2] }) p2.objs.size x1 x2 := Heap.get?_push_size _ rfl
  have hz4 : (p2.push { cls := .type "tuple", data := .seq #[x1, x2] }).objs.size = p2.objs.size + 1 := Heap.size_push ..
  rw [hsz] at hpr hz4 ⊢
  exact hQ x1 x2 _ tk2 hx1 hx2 (Heap.get?_push_of_some _ hz2) (D1.frame _ _ _ j1 fun b _ o e => Heap.get?_push_of_some _ e)
    (D2.frame _ _ _ sn2 fun b _ o e => Heap.get?_push_of_some _ e) hpr hz4 fun c o c0 c1 c2 e => Heap.get?_push_of_some _ (hk c o c0 c1 c2 e)

/-- the end while the last pair is held -/
theorem held_end {Q : Fin → Shared → Prop} (S : ZipSep2 z TI TO i1 i2 fp1 fp2)
    (D1 : Draws prog w A i1 fp1 n1 P1 St1) (D2 : Draws prog w A i2 fp2 n2 P2 St2)
    (hz : IsZipHeld s.heap z TI TO T f) (hT : s.heap.get? T = some oT) (hTI : IsTupOf2 s.heap TI (.ref i1) (.ref i2))
    (st1 : St1 i s.heap) (st2 : St2 i s.heap) (e1 : i ≤ n1) (e2 : i ≤ n2) (hend : i = n1 ∨ i = n2)
    (hE : ∀ h' tk e, (∀ c o, c ≠ z → c ≠ i1 → c ≠ i2 → s.heap.get? c = some o → h'.get? c = some o) →
      (∃ o, h'.get? e = some o ∧ o.cls = .type "StopIteration") → E (.ref e) { s with heap := h', toks := tk }) :
    wpAny (model prog w) A (Builtin.«zip.__next__» ⟨[.ref z], []⟩) Q E s := by
  obtain ⟨hp, g, d, tk0, os⟩ := s
  show wpAny _ _ (field (.ref z) 2 >>= _) _ _ _
  refine wpAny_bind (wpAny_field hz rfl (x := .bool false) rfl ?_); show wpAny _ _ (field (.ref z) 3 >>= _) _ _ _
  refine wpAny_bind (wpAny_field hz rfl (x := .ref TI) rfl ?_); refine wpAny_bind (wpAny_seqItems hTI rfl ?_)
  show wpAny _ _ (Builtin.SmallTypes.ownedTupleIsFree (.ref z) >>= _) _ _ _
  refine wpAny_bind (wpAny_tupleHeld_zip hz hT fun g0 hz0 hs0 => ?_); simp only [Bool.false_eq_true, if_false]; refine wpAny_bind ?_
  replace hs0 : Heap.SameBut z hp g0 := hs0
  rw [← Array.forIn_toList]; simp only [List.forIn_cons, List.forIn_nil]
  refine wpAny_bind (wpAny_bind (wpAny_holding ?_)); show wpAny _ _ (Builtin.SmallTypes.nextOf (.ref i1) >>= _) _ _ ⟨g0, g, d, tk0, os⟩
  by_cases l1 : i < n1
  · refine wpAny_bind (D1.item i _ _ _ l1 (D1.over st1 hs0 S.zf1) fun x1 p1 tk1 hx1 sn1 hp1 => wpAny_pure ?_)
    replace hp1 : Heap.SameBut i1 g0 p1 := hp1
    have hi2 : i = n2 := by omega
    refine wpAny_pure ?_
    refine wpAny_bind (wpAny_bind (wpAny_holding ?_)); show wpAny _ _ (Builtin.SmallTypes.nextOf (.ref i2) >>= _) _ _ ⟨p1, g, d, tk1, os⟩
    refine wpAny_bind (D2.done ⟨p1, g, d, tk1, os⟩ _ _ (by rw [← hi2]; exact D2.over (D2.over st2 hs0 S.zf2) hp1 S.sep1_2) fun q e hq he => ?_)
    exact hE q tk1 e (fun c o c0 c1 c2 x => hq _ _ c2 (hp1.extBut _ _ c1 (hs0.extBut _ _ c0 x))) he
  · have hi1 : i = n1 := by omega
    refine wpAny_bind (D1.done ⟨g0, g, d, tk0, os⟩ _ _ (by rw [← hi1]; exact D1.over st1 hs0 S.zf1) fun q e hq he => ?_)
    exact hE q tk0 e (fun c o c0 c1 c2 x => hq _ _ c1 (hs0.extBut _ _ c0 x)) he
end
end XL
namespace XL
open PySem PyProof.Rows
/-- the zip between two nexts: nothing given out yet, or the last pair is held -/
def ZNow (h : Heap) (z TI TO L : Addr) : Prop :=
  (IsZip h z TI TO .none ∧ ∃ a1 a2, IsTupOf2 h TO a1 a2) ∨ ∃ T f oT, IsZipHeld h z TI TO T f ∧ h.get? T = some oT ∧ T ≠ z ∧ T ≠ L
theorem ZNow.typ {s : Shared} {z TI TO L : Addr} (h : ZNow s.heap z TI TO L) : s.TypeIs (.ref z) "zip" := by
  rcases h with ⟨h, _⟩ | ⟨T, f, oT, h, _⟩
  · exact ⟨_, h, rfl⟩
  · exact ⟨_, h, rfl⟩
theorem ZNow.lt {h : Heap} {z TI TO L : Addr} (q : ZNow h z TI TO L) : z < h.objs.size := by
  rcases q with ⟨h, _⟩ | ⟨T, f, oT, h, _⟩
  · exact Heap.lt_size h
  · exact Heap.lt_size h
section
variable {prog : Program} {w : World} {A : Around} {E : Value → Shared → Prop} {s : Shared} {z TI TO L i1 i2 : Addr}
variable {fp1 fp2 : List Addr} {n1 n2 i : Nat} {P1 P2 : Nat → Value → Prop} {St1 St2 : Nat → Heap → Prop}
theorem next_item {Q : Option Value → Shared → Prop} (S : ZipSep2 z TI TO i1 i2 fp1 fp2)
    (D1 : Draws prog w A.in1 i1 fp1 n1 P1 St1) (D2 : Draws prog w A.in1 i2 fp2 n2 P2 St2)
    (hz : ZNow s.heap z TI TO L) (hTI : IsTupOf2 s.heap TI (.ref i1) (.ref i2)) (hL : L < s.heap.objs.size)
    (st1 : St1 i s.heap) (st2 : St2 i s.heap) (l1 : i < n1) (l2 : i < n2)
    (hQ : ∀ x1 x2 h' tk, P1 i x1 → P2 i x2 → ZNow h' z TI TO L → St1 (i + 1) h' → St2 (i + 1) h' →
      IsTupOf2 h' s.heap.objs.size x1 x2 → h'.objs.size = s.heap.objs.size + 1 →
      (∀ c o, c ≠ z → c ≠ TO → c ≠ i1 → c ≠ i2 → s.heap.get? c = some o → h'.get? c = some o) →
      Q (some (.ref s.heap.objs.size)) { s with heap := h', toks := tk }) :
    wpAny (model prog w) A (pyNext (.ref z)) Q E s := by
  have hTy := hz.typ
  have zl : z < s.heap.objs.size := hz.lt
  have zne : s.heap.objs.size ≠ z := Nat.ne_of_gt zl
  have lne : s.heap.objs.size ≠ L := Nat.ne_of_gt hL
  rcases hz with ⟨hz, a1, a2, hTO⟩ | ⟨T, f, oT, hz, hT, hTz, hTL⟩
  · refine wpAny_pyNext_zipD2_item S D1 D2 hz hTI hTO st1 st2 l1 l2 fun x1 x2 h' tk y1 y2 b1 b2 d1 d2 b5 b6 b7 => ?_
    exact hQ x1 x2 h' tk y1 y2 (.inr ⟨s.heap.objs.size, false, _, b1, b5, zne, lne⟩) d1 d2 b5 b6 b7
  · unfold pyNext
    refine wpAny_bind (wpAny_attempt (wpAny_callSpecial?_slot (name := Str.ofString "__next__") hTy F.slot_zip_next
      (wpAny_call_entry F.slot_zip_next hTy F.entry_zip_next (held_item S D1 D2 hz hT hTI st1 st2 l1 l2
        fun x1 x2 h' tk y1 y2 b1 d1 d2 b5 b6 b7 => wpAny_pure ?_) (F.args_zip_next_1 _))))
    have hT' : ∃ o, h'.get? T = some o := by
      by_cases c1 : T = i1
      · rw [c1]; exact D1.live _ _ d1
      · by_cases c2 : T = i2
        · rw [c2]; exact D2.live _ _ d2
        · exact ⟨_, b7 T oT hTz c1 c2 hT⟩
    obtain ⟨o', hT'⟩ := hT'
    exact hQ x1 x2 h' tk y1 y2 (.inr ⟨T, true, o', b1, hT', hTz, hTL⟩) d1 d2 b5 b6 fun c o c0 _ c1 c2 e => b7 c o c0 c1 c2 e
theorem next_end {Q : Option Value → Shared → Prop} (S : ZipSep2 z TI TO i1 i2 fp1 fp2)
    (D1 : Draws prog w A.in1 i1 fp1 n1 P1 St1) (D2 : Draws prog w A.in1 i2 fp2 n2 P2 St2)
    (hz : ZNow s.heap z TI TO L) (hTI : IsTupOf2 s.heap TI (.ref i1) (.ref i2))
    (st1 : St1 i s.heap) (st2 : St2 i s.heap) (e1 : i ≤ n1) (e2 : i ≤ n2) (hend : i = n1 ∨ i = n2)
    (hQ : ∀ h' tk, (∀ c o, c ≠ z → c ≠ TO → c ≠ i1 → c ≠ i2 → s.heap.get? c = some o → h'.get? c = some o) →
      Q none { s with heap := h', toks := tk }) :
    wpAny (model prog w) A (pyNext (.ref z)) Q E s := by
  have hTy := hz.typ
  rcases hz with ⟨hz, a1, a2, hTO⟩ | ⟨T, f, oT, hz, hT, hTz, hTL⟩
  · exact wpAny_pyNext_zipD2_end S D1 D2 hz hTI hTO st1 st2 e1 e2 hend hQ
  · unfold pyNext
    refine wpAny_bind (wpAny_attempt (wpAny_callSpecial?_slot (name := Str.ofString "__next__") hTy F.slot_zip_next
      (wpAny_call_entry F.slot_zip_next hTy F.entry_zip_next (held_end S D1 D2 hz hT hTI st1 st2 e1 e2 hend fun h' tk e hk he => ?_) (F.args_zip_next_1 _))))
    obtain ⟨o, ho, hc⟩ := he
    refine wpAny_bind (wpAny_isInstance (T := "StopIteration") (b := true) ⟨o, ho, hc⟩ isSubtype_stop ?_)
    exact wpAny_pure (hQ _ _ fun c o c0 _ c1 c2 e => hk c o c0 c1 c2 e)
end

/-- the pairs laid so far: at Ts, new, apart from the zip's own cells and the list -/
structure Laid (N L : Nat) (P1 P2 : Nat → Value → Prop) (cells : List Addr) (h : Heap) (Ts : List Addr) : Prop where
  nd : Ts.Nodup
  at_ : ∀ j T, Ts[j]? = some T → N ≤ T ∧ T < h.objs.size ∧ T ≠ L ∧ T ∉ cells ∧ ∃ x y, P1 j x ∧ P2 j y ∧ IsTupOf2 h T x y
theorem Laid.nil {N L : Nat} {P1 P2 : Nat → Value → Prop} {cells : List Addr} {h : Heap} : Laid N L P1 P2 cells h [] := ⟨List.nodup_nil, fun j T e => by simp at e⟩
theorem Laid.over {N L : Nat} {P1 P2 : Nat → Value → Prop} {cells : List Addr} {h h' : Heap} {Ts : List Addr} (q : Laid N L P1 P2 cells h Ts)
    (hs : h.objs.size ≤ h'.objs.size) (hk : ∀ c o, c ∉ cells → c ≠ L → h.get? c = some o → h'.get? c = some o) : Laid N L P1 P2 cells h' Ts :=
  ⟨q.nd, fun j T e => by
    obtain ⟨a, b, c, d, x, y, px, py, t⟩ := q.at_ j T e
    exact ⟨a, Nat.lt_of_lt_of_le b hs, c, d, x, y, px, py, hk _ _ d c t⟩⟩
theorem Laid.push {N L : Nat} {P1 P2 : Nat → Value → Prop} {cells : List Addr} {h h' : Heap} {Ts : List Addr} {x y : Value} (q : Laid N L P1 P2 cells h Ts)
    (hs : h'.objs.size = h.objs.size + 1) (hk : ∀ c o, c ∉ cells → c ≠ L → h.get? c = some o → h'.get? c = some o)
    (hN : N ≤ h.objs.size) (hL : L < h.objs.size) (hc : ∀ c ∈ cells, c < h.objs.size) (px : P1 Ts.length x) (py : P2 Ts.length y) (t : IsTupOf2 h' h.objs.size x y) :
    Laid N L P1 P2 cells h' (Ts ++ [h.objs.size]) := by
  have q' := q.over (h' := h') (by omega) hk
  refine ⟨?_, fun j T e => ?_⟩
  · rw [List.nodup_append]
    refine ⟨q.nd, by simp, fun a ha b hb e => ?_⟩
    simp at hb
    obtain ⟨j, hj⟩ := List.getElem?_of_mem ha
    have := (q.at_ j a hj).2.1
    rw [e, hb] at this
    exact Nat.lt_irrefl _ this
  · by_cases hj : j < Ts.length
    · rw [List.getElem?_append_left hj] at e
      exact q'.at_ j T e
    · rw [List.getElem?_append_right (by omega)] at e
      have hj0 : j - Ts.length = 0 := by
        rcases Nat.eq_zero_or_pos (j - Ts.length) with z | z
        · exact z
        · rw [List.getElem?_eq_none (by simp; omega)] at e
          cases e
      rw [hj0] at e
      have e' : h.objs.size = T := by simpa using e
      subst e'
      have ej : j = Ts.length := by omega
      refine ⟨hN, by rw [hs]; exact Nat.lt_succ_self _, Nat.ne_of_gt hL, fun hm => Nat.lt_irrefl _ (hc _ hm), x, y, ?_, ?_, t⟩
      · rw [ej]; exact px
      · rw [ej]; exact py
section
variable {prog : Program} {w : World} {A : Around} {R : Result → Shared → Prop} {z TI TO i1 i2 : Addr} {N L : Nat}
variable {fp1 fp2 : List Addr} {n1 n2 n : Nat} {P1 P2 : Nat → Value → Prop} {St1 St2 : Nat → Heap → Prop}
theorem loop_zip (S : ZipSep2 z TI TO i1 i2 fp1 fp2) (D1 : Draws prog w A.in1.in1 i1 fp1 n1 P1 St1) (D2 : Draws prog w A.in1.in1 i2 fp2 n2 P2 St2)
    (hn : n = min n1 n2) (hsz : n ≤ sizeLine) (res : Value) (hL1 : L ∉ fp1) (hL2 : L ∉ fp2) (hLz : L ≠ z) (hLTI : L ≠ TI) (hLTO : L ≠ TO) (hNz : N ≤ z) (hNT : N ≤ TO) (hN1 : N ≤ i1) (hN2 : N ≤ i2) (hNL : N ≤ L) :
    ∀ (k : Nat) (s : Shared) (Ts : List Addr) (c : Nat), n - Ts.length = k → Ts.length ≤ n → ZNow s.heap z TI TO L → IsTupOf2 s.heap TI (.ref i1) (.ref i2) → TO < s.heap.objs.size →
      St1 Ts.length s.heap → St2 Ts.length s.heap → N ≤ s.heap.objs.size → s.heap.get? L = some { cls := .type "list", dict := none, data := .seq (Ts.map Value.ref).toArray c, slots := #[] } →
      Laid N L P1 P2 [z, TO, i1, i2] s.heap Ts →
      (∀ h' tk Ts' c', Ts'.length = n → (∀ b o, b < N → s.heap.get? b = some o → h'.get? b = some o) →
        h'.get? L = some { cls := .type "list", dict := none, data := .seq (Ts'.map Value.ref).toArray c', slots := #[] } → Laid N L P1 P2 [z, TO, i1, i2] h' Ts' →
        R (.ok (.ret res)) { s with heap := h', toks := tk }) →
      codeAny (model prog w) A (.builtin "list.extend.loop" ⟨[.ref L, .ref z, res], []⟩) R s := by
  intro k
  have S' := S
  induction k with
  | zero =>
    intro s Ts c hk hle hz hTI hTO st1 st2 hN hLs hld hR
    have hin : Ts.length = n := by omega
    refine codeAny_builtin F.entry_extend_loop ?_
    rw [Around.under_plainId F.plain_extend_loop _]
    show wpAny _ A.in1 (pyNext (.ref z) >>= _) _ _ s
    have hend : Ts.length = n1 ∨ Ts.length = n2 := by omega
    refine wpAny_bind (next_end S D1 D2 hz hTI st1 st2 (by omega) (by omega) hend fun h' tk hk' => ?_)
    have ne : ∀ c, c ∉ [z, TO, i1, i2] → c ≠ z ∧ c ≠ TO ∧ c ≠ i1 ∧ c ≠ i2 := fun c hc => by simpa using hc
    have Li : L ≠ i1 ∧ L ≠ i2 := ⟨fun e => hL1 (e ▸ S.mem1), fun e => hL2 (e ▸ S.mem2)⟩
    refine wpAny_pure (hR h' tk Ts c hin (fun b o hb e => ?_) (hk' L _ hLz hLTO Li.1 Li.2 hLs) ?_)
    · exact hk' b o (Nat.ne_of_lt (Nat.lt_of_lt_of_le hb hNz)) (Nat.ne_of_lt (Nat.lt_of_lt_of_le hb hNT)) (Nat.ne_of_lt (Nat.lt_of_lt_of_le hb hN1)) (Nat.ne_of_lt (Nat.lt_of_lt_of_le hb hN2)) e
    · refine ⟨hld.nd, fun j T e => ?_⟩
      obtain ⟨a, b, c, d, x, y, px, py, t⟩ := hld.at_ j T e
      have t' : IsTupOf2 h' T x y := hk' _ _ (ne T d).1 (ne T d).2.1 (ne T d).2.2.1 (ne T d).2.2.2 t
      exact ⟨a, Heap.lt_size t', c, d, x, y, px, py, t'⟩
  | succ k ih =>
    intro s Ts c hk hle hz hTI hTO st1 st2 hN hLs hld hR
    have hlt1 : Ts.length < n1 := by omega
    have hlt2 : Ts.length < n2 := by omega
    refine codeAny_builtin F.entry_extend_loop ?_
    rw [Around.under_plainId F.plain_extend_loop _]
    show wpAny _ A.in1 (pyNext (.ref z) >>= _) _ _ s
    have hLlt : L < s.heap.objs.size := Heap.lt_size hLs
    refine wpAny_bind (next_item S D1 D2 hz hTI hLlt st1 st2 hlt1 hlt2 fun x1 x2 h' tk px py hz' d1 d2 ht hsz' hk' => ?_)
    have ne : ∀ c, c ∉ [z, TO, i1, i2] → c ≠ z ∧ c ≠ TO ∧ c ≠ i1 ∧ c ≠ i2 := fun c hc => by simpa using hc
    have Li : L ≠ i1 ∧ L ≠ i2 := ⟨fun e => hL1 (e ▸ S.mem1), fun e => hL2 (e ▸ S.mem2)⟩
    have hL' := hk' L _ hLz hLTO Li.1 Li.2 hLs
    have hTI' : IsTupOf2 h' TI (.ref i1) (.ref i2) := hk' TI _ S.TIz S.TITO S.TIi1 S.TIi2 hTI
    have hcells : ∀ b ∈ [z, TO, i1, i2], b < s.heap.objs.size := fun b hb => by
      have hb' : b = z ∨ b = TO ∨ b = i1 ∨ b = i2 := by simpa using hb
      rcases hb' with e | e | e | e
      · rw [e]; exact hz.lt
      · rw [e]; exact hTO
      · rw [e]; obtain ⟨o, q⟩ := D1.live _ _ st1; exact Heap.lt_size q
      · rw [e]; obtain ⟨o, q⟩ := D2.live _ _ st2; exact Heap.lt_size q
    have hld' : Laid N L P1 P2 [z, TO, i1, i2] h' (Ts ++ [s.heap.objs.size]) :=
      hld.push hsz' (fun c o hc _ e => hk' c o (ne c hc).1 (ne c hc).2.1 (ne c hc).2.2.1 (ne c hc).2.2.2 e) hN hLlt hcells px py ht
    show wpAny _ A.in1 (updateSeq L (·.push (Value.ref s.heap.objs.size)) >>= _) _ _ _
    refine wpAny_bind ?_
    have hlen : (Ts ++ [s.heap.objs.size]).length = Ts.length + 1 := by simp
    have hzs : ((Ts.map Value.ref).toArray : Array Value).size = Ts.length := by simp
    refine wpAny_updateSeq hL' rfl (wpAny_pure ⟨plainId_quiet F.plain_extend_loop _, ?_⟩) (by rw [hzs]; omega)
      (by show ((Ts.map Value.ref).toArray.push (Value.ref s.heap.objs.size)).size ≤ sizeLine + 1; rw [Array.size_push, hzs]; omega)
    have hself := Heap.get?_update_self (Obj.mapSeq (·.push (Value.ref s.heap.objs.size))) hL' rfl
    have hoth : ∀ b o, b ≠ L → h'.get? b = some o → (h'.update L (Obj.mapSeq (·.push (Value.ref s.heap.objs.size)))).get? b = some o :=
      fun b o hb e => (Heap.get?_update_other _ _ (Ne.symm hb)).trans e
    have hus : (h'.update L (Obj.mapSeq (·.push (Value.ref s.heap.objs.size)))).objs.size = h'.objs.size := (Heap.SameBut.update ..).1
    obtain ⟨c3, hc3⟩ : ∃ c3, (h'.update L (Obj.mapSeq (·.push (Value.ref s.heap.objs.size)))).get? L = some { cls := .type "list", dict := none, data := .seq ((Ts ++ [s.heap.objs.size]).map Value.ref).toArray c3, slots := #[] } := by
      have eA : ((Ts ++ [s.heap.objs.size]).map Value.ref).toArray = (Ts.map Value.ref).toArray.push (Value.ref s.heap.objs.size) := by simp
      rw [eA, hself]; exact ⟨_, rfl⟩
    refine ih { s with heap := h'.update L (Obj.mapSeq (·.push (Value.ref s.heap.objs.size))), toks := tk } (Ts ++ [s.heap.objs.size]) c3 (by rw [hlen]; omega) (by rw [hlen]; omega) ?_ (hoth TI _ (Ne.symm hLTI) hTI') ?_ ?_ ?_ ?_ ?_ ?_ fun h2 tk2 Ts2 c2 hl2 hk2 hL2' hld2 => ?_
    · rcases hz' with ⟨q, a1, a2, q2⟩ | ⟨T, f, oT, q, q2, q3, q4⟩
      · exact .inl ⟨hoth z _ (Ne.symm hLz) q, a1, a2, hoth TO _ (Ne.symm hLTO) q2⟩
      · exact .inr ⟨T, f, oT, hoth z _ (Ne.symm hLz) q, hoth T _ q4 q2, q3, q4⟩
    · show TO < (h'.update L _).objs.size
      rw [hus, hsz']; exact Nat.lt_succ_of_lt hTO
    · rw [hlen]; exact D1.frame _ _ _ d1 fun b hb o e => hoth b o (fun q => hL1 (q ▸ hb)) e
    · rw [hlen]; exact D2.frame _ _ _ d2 fun b hb o e => hoth b o (fun q => hL2 (q ▸ hb)) e
    · show N ≤ (h'.update L _).objs.size
      rw [hus, hsz']; exact Nat.le_succ_of_le hN
    · exact hc3
    · exact hld'.over (by rw [hus]; exact Nat.le_refl _) fun b o _ hb e => hoth b o hb e
    · refine hR h2 tk2 Ts2 c2 hl2 (fun b o hb e => hk2 b o hb (hoth b o (Nat.ne_of_lt (Nat.lt_of_lt_of_le hb hNL)) ?_)) hL2' hld2
      exact hk' b o (Nat.ne_of_lt (Nat.lt_of_lt_of_le hb hNz)) (Nat.ne_of_lt (Nat.lt_of_lt_of_le hb hNT)) (Nat.ne_of_lt (Nat.lt_of_lt_of_le hb hN1)) (Nat.ne_of_lt (Nat.lt_of_lt_of_le hb hN2)) e
theorem zip_no_len : typeLookup (.type "zip") "__len__" = pure none := am_miss_of_fast (by decide +kernel)
theorem zip_no_hint : typeLookup (.type "zip") "__length_hint__" = pure none := am_miss_of_fast (by decide +kernel)
end
end XL
namespace XL
open PySem PyProof.Rows
section
variable {prog : Program} {w : World} {A : Around} {E : Value → Shared → Prop} {s : Shared}
/-- list(zip(v1, v2)): a new list of new pairs -/
theorem call_list_zip {Q : Value → Shared → Prop} {v1 v2 : Value} {o1 o2 : Obj} {H1 H2 : Heap → Prop} {fp1 fp2 : List Addr} {n1 n2 n : Nat} {P1 P2 : Nat → Value → Prop} {St1 St2 : Nat → Heap → Prop}
    (B1 : Begins v1 o1 H1) (B2 : Begins v2 o2 H2) (h1 : H1 s.heap) (h2 : H2 s.heap) (hf1 : ∀ b ∈ fp1, b < s.heap.objs.size) (hf2 : ∀ b ∈ fp2, b < s.heap.objs.size)
    (D1 : ∀ A', A'.handled = none → Draws prog w A' s.heap.objs.size (s.heap.objs.size :: fp1) n1 P1 St1)
    (D2 : ∀ A', A'.handled = none → Draws prog w A' (s.heap.objs.size + 1) ((s.heap.objs.size + 1) :: fp2) n2 P2 St2)
    (b1 : ∀ h', (∀ b o, s.heap.get? b = some o → h'.get? b = some o) → h'.get? s.heap.objs.size = some o1 → St1 0 h')
    (b2 : ∀ h', (∀ b o, s.heap.get? b = some o → h'.get? b = some o) → h'.get? (s.heap.objs.size + 1) = some o2 → St2 0 h')
    (hA : A.handled = none) (hn : n = min n1 n2) (hz : n ≤ sizeLine)
    (hQ : ∀ (h' : Heap) (tk : Nat) (Ts : List Addr) (c : Nat) (L : Addr), Ts.length = n → (∀ b o, s.heap.get? b = some o → h'.get? b = some o) → s.heap.objs.size ≤ L →
      h'.get? L = some { cls := .type "list", dict := none, data := .seq (Ts.map Value.ref).toArray c, slots := #[] } → Ts.Nodup →
      (∀ j T, Ts[j]? = some T → s.heap.objs.size ≤ T ∧ T ≠ L ∧ ∃ x y, P1 j x ∧ P2 j y ∧ IsTupOf2 h' T x y) → Q (.ref L) { s with heap := h', toks := tk }) :
    wpAny (model prog w) A (call (.type "zip") [v1, v2]) (fun v s1 => wpAny (model prog w) A (call (.type "list") [v]) Q E s1) E s := by
  refine zip_begins2 B1 B2 h1 h2 fun g hz0 hTI hTO e1 e2 hsz hk => ?_
  have hgN : g.objs.size = s.heap.objs.size + 5 := hsz
  generalize hNN : s.heap.objs.size = N at *
  refine callType_codes (Q₁ := fun obj s₁ => obj = .ref g.objs.size ∧ s₁ = { s with heap := g.push { cls := .type "list", data := .seq #[] } }) F.called_list (F.typeCall_list_1 _) F.entry_list_init
    (code_list_new _ ⟨rfl, rfl⟩) fun obj s₁ q₁ => ?_
  obtain ⟨rfl, rfl⟩ := q₁
  have hS : (g.push { cls := .type "list", data := .seq #[] }).get? g.objs.size = some { cls := .type "list", data := .seq #[] } := Heap.get?_push_size _ rfl
  refine ⟨⟨_, hS, rfl⟩, F.args_list_init_2 _ _, ?_⟩
  have SS := zip_sep2 hf1 hf2
  have kp : ∀ b o, g.get? b = some o → (g.push { cls := .type "list", data := .seq #[] }).get? b = some o := fun b o e => Heap.get?_push_of_some _ e
  generalize hG : g.push { cls := .type "list", data := .seq #[] } = G at *
  have hGz : G.objs.size = g.objs.size + 1 := by rw [← hG]; exact Heap.size_push ..
  have hLv : g.objs.size = N + 5 := hgN
  generalize hLL : g.objs.size = L at *
  show wpAny _ _ (do let old ← Builtin.List.listItems (.ref L); Builtin.List.listUpdate (.ref L) (fun _ => #[]); letGo old.toList.reverse; Builtin.List.listExtendWith (.ref L) (.ref (N + 4)) .none) _ _ _
  refine wpAny_bind ?_
  unfold Builtin.List.listItems
  refine wpAny_bind (wpAny_seqItems hS rfl (wpAny_pure ?_))
  show wpAny _ _ (updateSeq L (fun _ => #[]) >>= fun _ => letGo (#[] : Array Value).toList.reverse >>= fun _ => Builtin.List.listExtendWith (.ref L) (.ref (N + 4)) .none) _ _ _
  refine wpAny_bind (wpAny_updateSeq hS rfl ?_)
  have hS₂ := Heap.get?_update_self (Obj.mapSeq (fun _ => (#[] : Array Value))) hS rfl
  have oth : ∀ b o, b ≠ L → G.get? b = some o → (G.update L (Obj.mapSeq (fun _ => (#[] : Array Value)))).get? b = some o :=
    fun b o hb e => (Heap.get?_update_other _ _ (Ne.symm hb)).trans e
  have hG2 : (G.update L (Obj.mapSeq (fun _ => (#[] : Array Value)))).objs.size = G.objs.size := (Heap.SameBut.update ..).1
  generalize hGG : G.update L (Obj.mapSeq (fun _ => (#[] : Array Value))) = G2 at *
  refine wpAny_bind (wpAny_letGo ?_)
  have hNL : N ≤ L := by omega
  have nL : ∀ j : Nat, j < 5 → N + j ≠ L := fun j hj => by omega
  have hz2 : IsZip G2 (N + 4) (N + 2) (N + 3) .none := oth _ _ (nL 4 (by omega)) (kp _ _ hz0)
  have hT2 : IsTupOf2 G2 (N + 2) (.ref N) (.ref (N + 1)) := oth _ _ (nL 2 (by omega)) (kp _ _ hTI)
  have hO2 : IsTupOf2 G2 (N + 3) .none .none := oth _ _ (nL 3 (by omega)) (kp _ _ hTO)
  unfold Builtin.List.listExtendWith
  have hTy : ({ s with heap := G2 } : Shared).TypeIs (.ref (N + 4)) "zip" := ⟨_, hz2, rfl⟩
  refine wpAny_bind (wpAny_typeOf hTy ?_)
  have q1 : Builtin.List.listSameRef (.ref L) (.ref (N + 4)) = false := by simp only [Builtin.List.listSameRef]; exact beq_eq_false_iff_ne.mpr (nL 4 (by omega)).symm
  have q2 : (Value.type "zip" == Value.type "list") = false := by decide
  have q3 : (Value.type "zip" == Value.type "tuple") = false := by decide
  simp only [q1, q2, q3, Bool.or_false, Bool.false_eq_true, if_false]
  refine wpAny_bind (wpAny_pyIter_zip hz2 ?_)
  refine wpAny_bind (wpAny_holding ?_)
  unfold Builtin.List.listLengthHint
  refine wpAny_bind (wpAny_specialOf hTy zip_no_len ?_)
  show wpAny _ _ (specialOf (Value.ref (N + 4)) (Str.ofString "__length_hint__") >>= _) _ _ _
  refine wpAny_bind (wpAny_specialOf hTy zip_no_hint ?_)
  refine wpAny_pure ?_
  show wpAny _ _ (rule "list.extend.makes-room" >>= fun _ => Builtin.List.listTouch (.ref L) >>= fun _ => again (.builtin "list.extend.loop" ⟨[.ref L, .ref (N + 4), .none], []⟩)) _ _ _
  refine wpAny_bind (wpAny_rule ?_)
  refine wpAny_bind ?_
  show wpAny _ _ (updateSeq L (·.push .none) >>= fun _ => updateSeq L (·.pop)) _ _ _
  refine wpAny_bind (wpAny_updateSeq hS₂ rfl ?_)
  have hS₃ := Heap.get?_update_self (Obj.mapSeq (·.push Value.none)) hS₂ rfl
  refine wpAny_updateSeq (hz := by seq_fits) hS₃ rfl ?_
  have hS₄ := Heap.get?_update_self (Obj.mapSeq (·.pop)) hS₃ rfl
  have oth2 : ∀ b o, b ≠ L → G2.get? b = some o → ((G2.update L (Obj.mapSeq (·.push Value.none))).update L (Obj.mapSeq (·.pop))).get? b = some o :=
    fun b o hb e => (Heap.get?_update_other _ _ (Ne.symm hb)).trans ((Heap.get?_update_other _ _ (Ne.symm hb)).trans e)
  have hG3 : ((G2.update L (Obj.mapSeq (·.push Value.none))).update L (Obj.mapSeq (·.pop))).objs.size = G2.objs.size := ((Heap.SameBut.update ..).1).trans ((Heap.SameBut.update ..).1)
  generalize hGGG : (G2.update L (Obj.mapSeq (·.push Value.none))).update L (Obj.mapSeq (·.pop)) = G3 at *
  have old : ∀ b o, s.heap.get? b = some o → G3.get? b = some o := fun b o e => by
    have hb : b < N := by rw [← hNN]; exact Heap.lt_size e
    have hb' : b ≠ L := Nat.ne_of_lt (Nat.lt_of_lt_of_le hb hNL)
    exact oth2 b o hb' (oth b o hb' (kp b o (hk b o e)))
  have at1 : G3.get? N = some o1 := oth2 _ _ (nL 0 (by omega)) (oth _ _ (nL 0 (by omega)) (kp _ _ e1))
  have at2 : G3.get? (N + 1) = some o2 := oth2 _ _ (nL 1 (by omega)) (oth _ _ (nL 1 (by omega)) (kp _ _ e2))
  have hLn1 : L ∉ N :: fp1 := fun hm => by
    rcases List.mem_cons.mp hm with e | hm
    · exact nL 0 (by omega) e.symm
    · exact Nat.lt_irrefl _ (Nat.lt_of_lt_of_le (hf1 _ hm) hNL)
  have hLn2 : L ∉ (N + 1) :: fp2 := fun hm => by
    rcases List.mem_cons.mp hm with e | hm
    · exact nL 1 (by omega) e.symm
    · exact Nat.lt_irrefl _ (Nat.lt_of_lt_of_le (hf2 _ hm) hNL)
  refine wpAny_pure ⟨plainId_quiet F.plain_extend_loop _, loop_zip (A := A.in1) (N := N) (L := L) SS (D1 _ (show A.in1.in1.in1.handled = none from hA)) (D2 _ (show A.in1.in1.in1.handled = none from hA)) hn hz .none hLn1 hLn2 (nL 4 (by omega)).symm (nL 2 (by omega)).symm (nL 3 (by omega)).symm (Nat.le_add_right _ _) (Nat.le_add_right _ _) (Nat.le_refl _) (Nat.le_add_right _ _) (by omega)
    n _ [] _ (by simp) (Nat.zero_le _) (.inl ⟨oth2 _ _ (nL 4 (by omega)) hz2, _, _, oth2 _ _ (nL 3 (by omega)) hO2⟩) (oth2 _ _ (nL 2 (by omega)) hT2) ?_ (b1 G3 old at1) (b2 G3 old at2) ?_ hS₄ .nil fun h' tk Ts c hl hk' hL' hld => ?_⟩
  · show (N + 3 : Nat) < G3.objs.size
    rw [hG3, hG2, hGz]; omega
  · show N ≤ G3.objs.size
    rw [hG3, hG2, hGz]; omega
  · refine ⟨rfl, hQ h' tk Ts c L hl (fun b o e => hk' b o (by rw [← hNN]; exact Heap.lt_size e) (old b o e)) (by omega) hL' hld.nd fun j T e => ?_⟩
    obtain ⟨a, _, b, _, c⟩ := hld.at_ j T e
    exact ⟨a, b, c⟩
end
end XL
namespace XL
open PySem PySem.Spec PyProof.Rows L2
/-- a list or a tuple -/
def Sq2 (K : PySem.W.Frag) (H : Hp) (a : Addr) (xs : List V) : Prop := SqL K H a xs ∨ SqT K H a xs
theorem Same.tup {K : PySem.W.Frag} {H H' : Hp} {a : Addr} {xs : List V} (e : Same H H') (h : SqT K H a xs) : SqT K H' a xs := by
  rcases h with (h | ⟨o, h⟩) | h
  · exact .inl (.inl (e _ _ h))
  · exact .inl (.inr ⟨o, e _ _ h⟩)
  · exact .inr h
theorem Same.sq2 {K : PySem.W.Frag} {H H' : Hp} {a : Addr} {xs : List V} (e : Same H H') (h : Sq2 K H a xs) : Sq2 K H' a xs := h.imp (fun q => e.seq q) (fun q => Same.tup e q)
theorem same_new {H : Hp} {p : Addr} {o : HO} (h : H p = none) : Same H (upd H p o) := fun b x e => by
  rw [upd_ne (ne_of_none e h)]
  exact e
section
variable {X : Cx} {pins : List (Addr × Obj)} {σ : L2.St} {H : Hp} {s : Shared} {a : Addr} {xs : List V}
theorem seq_draws (I : Inv X pins σ H s) (h : Sq2 X.K H a xs) : ∃ (its : List Value) (o : Obj) (B : Heap → Prop) (fp : List Addr), Vals xs its ∧ xs.length ≤ sizeLine ∧ Begins (.ref a) o B ∧ B s.heap ∧
    (∀ b ∈ fp, b < s.heap.objs.size) ∧ ∀ it, s.heap.objs.size ≤ it → ∃ St : Nat → Heap → Prop, (∀ A' : Around, A'.handled = none → Draws X.prog X.w A' it (it :: fp) its.length (fun i v => its[i]? = some v) St) ∧
      ∀ h' : Heap, (∀ b o, s.heap.get? b = some o → h'.get? b = some o) → h'.get? it = some o → St 0 h' := by
  rcases h with h | h
  · obtain ⟨its, rv, p, hz⟩ := I.list h
    have la : a < s.heap.objs.size := p.lt
    refine ⟨its, _, _, [a], rv, hz, begins_list a its.toArray, p.isList, fun b hb => by rw [List.mem_singleton.mp hb]; exact la, fun it hit => ?_⟩
    have hne : a ≠ it := Nat.ne_of_lt (Nat.lt_of_lt_of_le la hit)
    refine ⟨fun i h => h.IsListIter it a i ∧ h.IsList a its.toArray, fun A' hA => ?_, fun h' hk e => ?_⟩
    · have D := Draws.list (prog := X.prog) (w := X.w) hA it a hne its.toArray
      simpa using D
    · exact ⟨⟨_, e, rfl, rfl⟩, p.isList.at fun o q => hk a o q⟩
  · obtain ⟨its, rv, p, hz⟩ := I.tuple h
    have la : a < s.heap.objs.size := by
      obtain ⟨o, e, _⟩ := p
      exact Heap.lt_size e
    have p' : s.heap.IsTuple a its.toArray := p
    refine ⟨its, _, _, [a], rv, hz, begins_tuple a its.toArray, p', fun b hb => by rw [List.mem_singleton.mp hb]; exact la, fun it hit => ?_⟩
    have hne : a ≠ it := Nat.ne_of_lt (Nat.lt_of_lt_of_le la hit)
    refine ⟨fun i h => h.IsTupleIter it a i ∧ h.IsTuple a its.toArray, fun A' hA => ?_, fun h' hk e => ?_⟩
    · have D := Draws.tuple (prog := X.prog) (w := X.w) hA it a hne its.toArray
      simpa using D
    · exact ⟨⟨_, e, rfl, rfl⟩, p'.at fun o q => hk a o q⟩
end
/-- pairs laid at Ts -/
def layP (H : Hp) : List Addr → List V → List V → Hp
  | T :: Ts, x :: xs, y :: ys => upd (layP H Ts xs ys) T (.tup [x, y])
  | _, _, _ => H
theorem layP_off (H : Hp) {c : Addr} : ∀ (Ts : List Addr) (xs ys : List V), c ∉ Ts → layP H Ts xs ys c = H c
  | [], xs, ys, _ => by cases xs <;> cases ys <;> rfl
  | T :: Ts, [], ys, _ => rfl
  | T :: Ts, _ :: _, [], _ => rfl
  | T :: Ts, x :: xs, y :: ys, h => by
    have h1 : c ≠ T := fun e => h (by rw [e]; exact List.mem_cons_self ..)
    show upd (layP H Ts xs ys) T _ c = H c
    rw [upd_ne h1]
    exact layP_off H Ts xs ys fun q => h (List.mem_cons_of_mem _ q)
theorem layP_at (H : Hp) : ∀ (Ts : List Addr) (xs ys : List V) (j : Nat) (T : Addr) (x y : V), Ts.Nodup → Ts[j]? = some T → xs[j]? = some x → ys[j]? = some y → layP H Ts xs ys T = some (.tup [x, y])
  | [], _, _, _, _, _, _, _, h, _, _ => by simp at h
  | T :: Ts, [], _, _, _, _, _, _, _, h, _ => by simp at h
  | T :: Ts, _ :: _, [], _, _, _, _, _, _, _, h => by simp at h
  | T :: Ts, x :: xs, y :: ys, 0, T', x', y', _, h, hx, hy => by
    have e1 : T = T' := Option.some.inj h
    have e2 : x = x' := Option.some.inj hx
    have e3 : y = y' := Option.some.inj hy
    subst e1 e2 e3
    exact upd_same
  | T :: Ts, x :: xs, y :: ys, j + 1, T', x', y', nd, h, hx, hy => by
    have h' : Ts[j]? = some T' := h
    have hne : T' ≠ T := fun e => (List.nodup_cons.mp nd).1 (by rw [← e]; exact List.mem_of_getElem? h')
    show upd (layP H Ts xs ys) T _ T' = _
    rw [upd_ne hne]
    exact layP_at H Ts xs ys j T' x' y' (List.nodup_cons.mp nd).2 h' hx hy
/-- list(zip(e, e2)) -/
def tLZ (K : PySem.W.Frag) (ta : TA) : TE := fun σ H Q => ta σ H fun vs H1 => ∃ a b xs ys, vs = [.ref a, .ref b] ∧ Sq2 K H1 a xs ∧ Sq2 K H1 b ys ∧
  ∀ (L : Addr) (Ts : List Addr) (H2 : Hp), Same H1 H2 → H1 L = none → H2 L = some (.lst (Ts.map V.ref)) → Ts.length = min xs.length ys.length →
    (∀ (j : Nat) (T : Addr), Ts[j]? = some T → ∃ x y, xs[j]? = some x ∧ ys[j]? = some y ∧ H2 T = some (.tup [x, y])) → Q (.ref L) H2
theorem pe_listZip {X : Cx} {e e2 : Expr} {ta : TA} {p p2 pos pos2 : Pos} (hc : X.calm = true) (hg : Gl X "list") (hm : X.mg "list" = none) (hg2 : Gl X "zip") (hm2 : X.mg "zip" = none) (ha : PA X [e, e2] ta)
    (hs : starEach [e, e2] X.env = (false, eval e X.env) :: starEach [e2] X.env := by rfl) (hpl : (backTo pos2 (starEach [e2] X.env)).any (·.1) = false := by rfl)
    (na : starEach [(Expr.Call (.Name "zip" p2) [e, e2] [] pos2)] X.env = (false, eval (.Call (.Name "zip" p2) [e, e2] [] pos2) X.env) :: starEach [] X.env := by rfl) :
    PE X (.Call (.Name "list" p) [.Call (.Name "zip" p2) [e, e2] [] pos2] [] pos) (tLZ X.K ta) := by
  refine ⟨fun pins s σ H Q I h => ?_⟩
  refine Call_ (ld_blt I hg hm boot_list (PyProof.Rows.callWith_type1 (args_cons ?_ na) na))
  obtain ⟨tk0, I0⟩ : ∃ t : Nat, Inv X pins σ H s := ⟨0, I⟩
  refine Call_ (ld_blt I hg2 hm2 PyProof.Rows.boot_zip (PyProof.Rows.callWith_type1 (thn (ha.run pos2 pins s σ H _ I h) fun us s1 ⟨vs, H1, I1, r1, q1⟩ => ?_) hs hpl))
  obtain ⟨a, b, xs, ys, ex, hx, hy, q⟩ := q1
  subst ex
  obtain ⟨u1, u2, rfl, r1, r2⟩ := vals2 r1
  cases (show u1 = Value.ref a from r1)
  cases (show u2 = Value.ref b from r2)
  obtain ⟨its, o1, B1, fp1, rv1, z1, b1, hb1, f1, d1⟩ := seq_draws I1 hx
  obtain ⟨its2, o2, B2, fp2, rv2, z2, b2, hb2, f2, d2⟩ := seq_draws I1 hy
  obtain ⟨St1, D1, s1'⟩ := d1 s1.heap.objs.size (Nat.le_refl _)
  obtain ⟨St2, D2, s2'⟩ := d2 (s1.heap.objs.size + 1) (Nat.le_succ _)
  have l1 := rv1.length
  have l2 := rv2.length
  refine thn (call_list_zip (n := min its.length its2.length) (Q := fun v s2 => ∃ v' H', Inv X pins σ H' s2 ∧ RelV v' v ∧ Q v' H') (E := X.xe) b1 b2 hb1 hb2 f1 f2 D1 D2 s1' s2' (I1.ok.hd hc) rfl (by omega) fun h' tk Ts c L hl hk hLn hL nd hT => ?_) fun v s2 hq => args_nil hq
  have hT' : ∀ (j : Nat) (T : Addr), Ts[j]? = some T → ∃ x y u v, xs[j]? = some x ∧ ys[j]? = some y ∧ RelV x u ∧ RelV y v ∧ s1.heap.objs.size ≤ T ∧ T ≠ L ∧ IsTupOf2 h' T u v := fun j T e => by
    obtain ⟨g1, g2, u, v, pu, pv, t⟩ := hT j T e
    have hj1 : j < xs.length := by
      rw [l1]; exact (List.getElem?_eq_some_iff.mp pu).1
    have hj2 : j < ys.length := by
      rw [l2]; exact (List.getElem?_eq_some_iff.mp pv).1
    obtain ⟨u', eu, ru⟩ := rv1.get (List.getElem?_eq_getElem hj1)
    obtain ⟨v', ev, rv⟩ := rv2.get (List.getElem?_eq_getElem hj2)
    rw [eu] at pu
    rw [ev] at pv
    cases pu
    cases pv
    exact ⟨_, _, _, _, List.getElem?_eq_getElem hj1, List.getElem?_eq_getElem hj2, ru, rv, g1, g2, t⟩
  have hLT : L ∉ Ts := fun hm => by
    obtain ⟨j, e⟩ := List.getElem?_of_mem hm
    obtain ⟨_, _, _, _, _, _, _, _, _, ne, _⟩ := hT' j L e
    exact ne rfl
  have nTs : ∀ c, c < s1.heap.objs.size → c ∉ Ts := fun c hc hm => by
    obtain ⟨j, e⟩ := List.getElem?_of_mem hm
    obtain ⟨_, _, _, _, _, _, _, _, g, _⟩ := hT' j c e
    exact Nat.lt_irrefl _ (Nat.lt_of_lt_of_le hc g)
  have fr : ∀ c, s1.heap.objs.size ≤ c → H1 c = none := fun c hc => I1.hok.fresh hc
  have old : ∀ c o, H1 c = some o → upd (layP H1 Ts xs ys) L (.lst (Ts.map V.ref)) c = some o := fun c o e => by
    have h1 : c ≠ L := fun z => by rw [z, fr L hLn] at e; cases e
    have h2 : c ∉ Ts := fun hm => by
      obtain ⟨j, e'⟩ := List.getElem?_of_mem hm
      obtain ⟨_, _, _, _, _, _, _, _, g, _⟩ := hT' j c e'
      rw [fr c g] at e; cases e
    rw [upd_ne h1, layP_off H1 Ts xs ys h2]; exact e
  have U : Un X.fs [] H1 (upd (layP H1 Ts xs ys) L (.lst (Ts.map V.ref))) s1.heap h' := {
    keep := fun b o e _ _ _ => hk b o e
    slot := fun b o e _ _ _ => ⟨o.slots, hk b o e⟩
    free := fun b o e n _ => by
      have lb := Heap.lt_size e
      rw [upd_ne (Nat.ne_of_lt (Nat.lt_of_lt_of_le lb hLn)), layP_off H1 Ts xs ys (nTs b lb)]; exact n
    there := fun b o e _ => ⟨o, hk b o e⟩
    tups := fun b xs e => old b _ e
    frzs := fun b o u e => old b _ e
    tbls := fun b ps e => ⟨#[], by rw [old b _ e]; simp⟩ }
  have OK : HOk X.prog X.w (upd (layP H1 Ts xs ys) L (.lst (Ts.map V.ref))) h' := fun b o e => by
    by_cases hb : b = L
    · subst hb
      rw [upd_same] at e
      cases e
      refine ⟨by rw [List.length_map, hl]; omega, Ts.map Value.ref, c, ?_, hL⟩
      clear hT hT' hLT nTs old U hL nd hl q
      induction Ts with
      | nil => exact .nil
      | cons T r ih => exact .cons rfl ih
    · rw [upd_ne hb] at e
      by_cases hbT : b ∈ Ts
      · obtain ⟨j, ej⟩ := List.getElem?_of_mem hbT
        obtain ⟨x, y, u, v, ex, ey, ru, rv, g1, g2, t⟩ := hT' j b ej
        rw [layP_at H1 Ts xs ys j b x y nd ej ex ey] at e
        cases e
        exact ⟨by show 2 ≤ sizeLine; decide, [u, v], .cons ru (.cons rv .nil), ⟨_, t, rfl, _, rfl⟩⟩
      · rw [layP_off H1 Ts xs ys hbT] at e
        exact (I1.hok b o e).stay (fun c v _ q => hk c v q) (fun c q => old c _ q) fun c xs q => old c _ q
  refine ⟨.ref L, _, I1.un (t' := tk) U OK, rfl, q L Ts _ (fun c o e => old c o e) (fr L hLn) upd_same (by rw [hl]; omega) fun j T e => ?_⟩
  obtain ⟨x, y, u, v, ex, ey, ru, rv, g1, g2, t⟩ := hT' j T e
  exact ⟨x, y, ex, ey, by rw [upd_ne g2, layP_at H1 Ts xs ys j T x y nd e ex ey]⟩
end XL
namespace XL
open PySem PySem.Spec PyProof.Rows L2
/-- a def that keeps its promise where no repr is under way -/
structure FnG (P : Program) (w : World) (K : PySem.W.Frag) (mg : Str → Option Value) (base : Heap) (k : Nat) (f : Addr) (fd : FuncData) (ps : List Str) (sp : Sp) : Prop where
  len : ∀ vs H Q E, sp vs H Q E → vs.length = ps.length
  run : ∀ (A : Around) (outer : List Env) (s : Shared) (H : Hp) (args : Args) (us : List Value) (vs : List V) (Q : VK) (E : XK),
    A.guards = some [] → Room k A → Env0 P w K mg base A outer s H → BindsTo s fd args (ps.zip us) → Vals vs us → sp vs H Q E →
    codeAny (model P w) A (.call (.ref f) args) (CR CX0 outer P w H s Q E) s
section
variable {P : Program} {w : World} {K : PySem.W.Frag} {mg : Str → Option Value} {base : Heap}
theorem okG {x qual : Str} {st : Stmt} {f : Addr} {fd : FuncData} {N ps : List Str} {k : Nat} {sp : Sp} (F : Fun K x qual st f fd) (S : FnScope N ps (defScope st)) (len : ∀ vs H Q E, sp vs H Q E → vs.length = ps.length)
    (hbody : ∀ (cdv : Value) (A : Around) (outer : List Env) (s : Shared) (H : Hp) (vs : List V) (Q : VK) (E : XK),
      (A.deeper (envOfC qual (defScope st) s.heap.objs.size f cdv)).guards = some [] → Room k (A.deeper (envOfC qual (defScope st) s.heap.objs.size f cdv)) → sp vs H Q E →
      ∃ t, PSs (cxOf CX0 P w K mg base N qual (defScope st) f cdv A outer s H E).nox (defBody st) t ∧ t { nx := fun _ H' => Q .non H', rt := Q } (start N vs) H) : FnG P w K mg base (k + 1) f fd ps sp := by
  obtain ⟨oc, od, kV, doc, pm, an, cdv, ct, osl, rfl, lk, hcd⟩ := F.ex
  refine ⟨len, fun A outer s H args us vs Q E hgd hr e0 hb r hsp => ?_⟩
  have hl := len _ _ _ _ hsp; have KX : K.In s.heap := e0.mod.kin.keeps fun b o e => (e0.bs b o e).1
  have lim : s.heap.NoLimit := e0.mod.nolimit.keeps fun b o e => (e0.bs b o e).1
  have hkind : ∀ y ∈ ps.zip us, (defScope st).names.lookup y.1 = some .local ∨ ((defScope st).names.lookup y.1 = some .cell ∧ ((cellsFrom (s.heap.objs.size + 1) (defScope st).names []).lookup y.1).isSome = true) := fun ⟨n, v⟩ hy => by
    rcases S.par n (List.of_mem_zip hy).1 with q | q
    · exact .inl q
    · exact .inr ⟨q, PySem.W.cellsFrom_some _ _ _ (.inl q)⟩
  refine codeAny_call_function hr.depth (KX _ _ lk) rfl S.co S.gen rfl (PySem.W.codeRec_of KX hcd) (hb _ _ _ _ (wpAny_newFunctionEnv_cells S.kind hkind fun env he s1 x => ?_))
  subst he
  refine ⟨lim.keeps x.toInCall.keep, codeAny_func ?_⟩
  obtain ⟨t, ht, hq⟩ := hbody cdv A outer s H vs Q E hgd (hr.deeper _) hsp
  have I : Inv (cxOf CX0 P w K mg base N qual (defScope st) f cdv A outer s H E) [] (start N vs) H s1 := inv_start S hr.hd e0 hl r x
  refine wpAny_mono (ht.nox.run [] s1 (start N vs) H _ I hq) (fun fl s' hs => ?_) fun e s' hs => hs
  have fin : ∀ {σ' : L2.St} {H' : Hp} {v : V} {u : Value}, Inv (cxOf CX0 P w K mg base N qual (defScope st) f cdv A outer s H E) [] σ' H' s' → RelV v u → Q v H' → CE outer P w H s Q u s' := fun {σ' H' v u} J rv q =>
    ⟨v, H', J.os, J.bare, J.base, J.hok, rv, q⟩
  cases fl with
  | ret u => obtain ⟨v, σ', H', J, rv, q⟩ := hs; exact fin J rv q
  | next => obtain ⟨σ', H', J, q⟩ := hs; exact fin (v := V.non) (u := Value.none) J rfl q
  | brk => obtain ⟨_, _, _, q⟩ := hs; exact False.elim q
  | cont => obtain ⟨_, _, _, q⟩ := hs; exact False.elim q
theorem FnG.of {k : Nat} {f : Addr} {fd : FuncData} {ps : List Str} {sp : Sp} (F : FnOk P w K mg base CX0 k f fd ps sp) : FnG P w K mg base k f fd ps sp :=
  ⟨F.len, fun A outer s H args us vs Q E _ hr e0 hb r h => F.run A outer s H args us vs Q E hr e0 hb r h⟩
end
section
variable {X : Cx} {k : Nat} {f C : Addr} {fd : FuncData} {ps ks : List Str} {sp : Sp} {x m : Str} {p pos apos : Pos} {e o : Expr} {es : List Expr} {ta : TE} {t tk : TA} {kws : List Keyword}
/-- f(e, ..) of such a def -/
theorem pe_callG (hG : X.A.guards = some []) (F : FnG X.prog X.w X.K X.mg X.base k f fd ps sp) (hr : Room k X.A) (hg : Gl X x) (hm : X.mg x = some (.ref f)) (hk : PySem.W.keepIn X.K (.ref f) = true) (hb : Binds X.K fd ps [])
    (ha : PA X (e :: es) t) (hdb : (x == ("__debug__" : Str)) = false := by decide) (he : starEach (e :: es) X.env = (false, eval e X.env) :: starEach es X.env := by rfl)
    (hpl : (backTo pos (starEach es X.env)).any (·.1) = false := by rfl) : PE X (.Call (.Name x p) (e :: es) [] pos) (tCall sp [] E0 t) := by
  refine ⟨fun pins s σ H Q I h => wpAny_Call_Name_kw (ld_glob I hg hm ?_ hdb)⟩
  refine PySem.W.callWith_K (h₀ := X.base) I.ok.mod.kin hk (thn (ha.run pos pins s σ H _ I h) fun us s1 ⟨vs, H1, I1, r, q⟩ => ⟨I1.kIn, ?_⟩) he hpl
  have q' : sp vs H1 Q E0 := by have q2 : sp (vs ++ []) H1 Q E0 := q; rwa [List.append_nil] at q2
  have hl : us.length = ps.length := by rw [← r.length]; exact F.len _ _ _ _ q'
  have hb' : BindsTo s1 fd ⟨us, []⟩ (ps.zip us) := by have b2 := hb s1 us I1.kIn (by rw [List.append_nil]; exact hl); rwa [List.append_nil] at b2
  refine wpAny_call (codeAny_mono (F.run X.A X.stack s1 H1 ⟨us, []⟩ us vs Q E0 hG hr I1.env0 hb' r q') fun r s' hq => ?_)
  cases r with
  | error e => exact False.elim hq
  | ok fl =>
    cases fl with
    | ret u => exact I1.after hq
    | next => exact False.elim hq
    | brk => exact False.elim hq
    | cont => exact False.elim hq
variable {CX : CXT} {E : XK} {g : List Value → List Value → List Value} {gV : List V → List V → List V}
/-- f(k = v, ..), no argument by place -/
theorem pe_callK0 (F : FnOk X.prog X.w X.K X.mg X.base CX k f fd ps sp) (hr : Room k X.A) (hg : Gl X x) (hm : X.mg x = some (.ref f)) (hk : PySem.W.keepIn X.K (.ref f) = true) (hb : KBinds X.K fd ps ks g gV) (hx : Passes CX X E)
    (hkw : PK X kws tk) (hall : (backToKw pos (keywordEach kws X.env)).all (·.1.isSome) = true := by rfl) (hks : (backToKw pos (keywordEach kws X.env)).filterMap (·.1) = ks := by rfl)
    (hdb : (x == ("__debug__" : Str)) = false := by decide)
    (hpl : ((backTo pos (starEach [] X.env)).any (·.1) || (backToKw pos (keywordEach kws X.env)).any (·.1.isNone)) = false := by rfl) :
    PE X (.Call (.Name x p) [] kws pos) (fun σ H Q => tk σ H fun zs H2 => sp (gV [] zs) H2 Q E) := by
  refine ⟨fun pins s σ H Q I h => wpAny_Call_Name_kw (ld_glob I hg hm ?_ hdb)⟩
  refine PySem.W.callWith_KW0 (h₀ := X.base) I.ok.mod.kin hk hall (thn (hkw.run pos pins s σ H _ I h) fun ws s2 ⟨zs, H2, I2, rz, q2⟩ => ⟨I2.kIn, ?_⟩) hpl
  rw [hks]
  exact run_fnk F hr hb hx I2 .nil rz q2
end
/-! ### the head -/
theorem law_callG {P : Program} {w : World} {K : PySem.W.Frag} {mg mb : Str → Option Value} {k : Nat} {fa a : Addr} {fd : FuncData} {x : Str} {sp : Sp} {s₁ : Shared} {vs : List Value} {ns : List Int}
    (KX : K.In s₁.heap) (hns : s₁.heap.Ns mainGlobals mg) (hb : s₁.heap.Ns builtinsNs mb) (hbb : ∀ x : Str, x ≠ "__name__" → mb x = bootBuiltins x) (hlim : s₁.heap.NoLimit) (hg : s₁.gens = #[])
    (ha : s₁.heap.get? a = some { cls := .type "list", data := .seq vs.toArray }) (hi : IntsAre vs ns) (hl : ns.length ≤ sizeLine) (hr : Room k callerA)
    (F : ∀ base : Heap, K.In base → base.Ns mainGlobals mg → FnG P w K mg base k fa fd [x] sp) (hbind : ∀ (s : Shared) (u : Value), BindsTo s fd ⟨[u], []⟩ [(x, u)])
    (hsp : ∀ H : Hp, Only H → SqL K H a (ns.map V.int) → sp [.ref a] H (fun v _ => v = .bl true) fun _ _ _ => False) :
    codeAny (model P w) callerA (.call (.ref fa) ⟨[.ref a], []⟩) (fun r s' => r = .ok (.ret (.bool true)) ∧ OldK s₁.heap s'.heap ∧ s'.os = s₁.os ∧ AllBare s'.gens) s₁ := by
  have rv := vals_ints hi; have lenV := hi.length
  have core : ∀ H : Hp, Only H → SqL K H a (ns.map V.int) → HOk P w H s₁.heap → (∀ b, H b ≠ none → b = a) → (H a ≠ none → K.lookup a = none) → codeAny (model P w) callerA (.call (.ref fa) ⟨[.ref a], []⟩)
      (fun r s' => r = .ok (.ret (.bool true)) ∧ OldK s₁.heap s'.heap ∧ s'.os = s₁.os ∧ AllBare s'.gens) s₁ := by
    intro H hO hS hok hA hK
    have noA : ∀ {b : Addr} {o : Obj} {es : Array DictEntry} {ep : Nat}, s₁.heap.get? b = some o → o.data = .dict es ep → H b = none := by
      intro b o es ep e d
      cases q : H b with
      | none => rfl
      | some u =>
        have e' : b = a := hA b (by rw [q]; simp)
        subst e'; rw [ha] at e; cases e
        exact absurd (show Data.seq vs.toArray _ = Data.dict es ep from d) (by simp)
    have nsK : ∀ {b : Addr} {m : Str → Option Value}, s₁.heap.Ns b m → (hidT s₁.heap H).Ns b m := by
      intro b m hm
      obtain ⟨o, es, ep, e, d, r⟩ := hm
      exact ⟨o, es, ep, hidT_get e (noA e d), d, r⟩
    have hKb : K.In (hidT s₁.heap H) := by
      intro b o e
      refine hidT_get (KX b o e) ?_
      cases q : H b with
      | none => rfl
      | some u =>
        have e' : b = a := hA b (by rw [q]; simp)
        subst e'; rw [hK (by rw [q]; simp)] at e; cases e
    have hM : Mod K mg (hidT s₁.heap H) := by
      obtain ⟨mc, c1, c2⟩ := hlim
      exact ⟨hKb, nsK hns, ⟨mb, nsK hb, hbb⟩, ⟨mc, nsK c1, c2⟩⟩
    have e0 : Env0 P w K mg (hidT s₁.heap H) callerA [] s₁ H := by
      refine ⟨rfl, hM, fun b o e => of_hidT e, Nat.le_of_eq (hidT_size _ _), trivial, fun b hb => ?_, hok, .of_eq hg⟩
      exact absurd (show b ∈ ([] : List Addr) from hb) (by simp)
    refine codeAny_mono ((F _ hKb (nsK hns)).run callerA [] s₁ H ⟨[.ref a], []⟩ [.ref a] [.ref a] _ _ rfl hr e0 (hbind s₁ (.ref a)) (.cons rfl .nil) (hsp H hO hS)) fun r s' h => ?_
    cases r with
    | error e => exact False.elim h
    | ok fl =>
      cases fl with
      | next => exact False.elim h
      | brk => exact False.elim h
      | cont => exact False.elim h
      | ret u =>
        obtain ⟨v, H', os, bare, un, hok', r', q⟩ := h
        have q' : v = .bl true := q
        subst q'
        obtain rfl : u = Value.bool true := r'
        refine ⟨rfl, OldK.of_keep fun b o e => ?_, os, bare⟩
        cases q : H b with
        | none => exact un.keep b o e q (by intro z; exact absurd (show b ∈ ([] : List Addr) from z) (by simp)) (by simp)
        | some u =>
          rcases hO b with z | ⟨ob, xs, z⟩
          · rw [q] at z; cases z
          · have z2 := un.frzs b ob _ z
            obtain ⟨e1, _⟩ := hok b _ z; obtain ⟨e2, _⟩ := hok' b _ z2
            rw [e] at e1; cases e1; exact e2
  cases hk : K.lookup a with
  | some o =>
    have e := KX a o hk
    rw [ha] at e; cases e
    refine core (fun _ => none) (fun _ => .inl rfl) ?_ (fun b u z => nomatch z) (fun b z => absurd rfl z) fun z => absurd rfl z
    exact .inr ⟨_, vs.toArray, _, hk, rfl, rfl, rfl, by rw [List.size_toArray, lenV]; exact hl, by simpa using rv⟩
  | none =>
    refine core (fun b => if b = a then some (.frz { cls := .type "list", data := .seq vs.toArray } (.lst (ns.map V.int))) else none) (fun b => ?_) (.inl (.inr ⟨_, if_pos rfl⟩)) (fun b u z => ?_) (fun b z => ?_) fun _ => hk
    · by_cases hb : b = a
      · exact .inr ⟨_, _, if_pos hb⟩
      · exact .inl (if_neg hb)
    · by_cases hb : b = a
      · have z' := (if_pos hb).symm.trans z
        cases z'; subst hb
        exact ⟨ha, by rw [List.length_map]; exact hl, vs, _, rv, ha⟩
      · have z' := (if_neg hb).symm.trans z
        cases z'
    · by_cases hb : b = a
      · exact hb
      · exact absurd (if_neg hb) z
theorem walkG {l : PySem.W.OpenLaw} {n k : Nat} {q : Program} {loose : List Str} {XP : (Str → Option Value) → Heap → Prop} {YP : World → Heap → Prop} {d : DefRec} {K : Params → PySem.W.Frag} {sp : PySem.W.Frag → Sp} {x : Str}
    (hn : l.most = some n) (hn2 : n ≤ sizeLine) (hdf : d.params.defaults = []) (hr : Room k callerA) (hY : ∀ (w : World) (h : Heap), YP w h → (K w.params).In h)
    (F : ∀ (w : World) (mg : Str → Option Value) (fa : Addr) (h : Heap), (K w.params).In h → h.Ns mainGlobals mg → mg d.name = some (.ref fa) →
      ∃ fd : FuncData, (∀ (s : Shared) (u : Value), BindsTo s fd ⟨[u], []⟩ [(x, u)]) ∧ ∀ base : Heap, (K w.params).In base → base.Ns mainGlobals mg → FnG l.prog w (K w.params) mg base k fa fd [x] (sp (K w.params)))
    (hsp : ∀ (K : PySem.W.Frag) (H : Hp) (a : Addr) (ns : List Int), ns.length ≤ n → Only H → SqL K H a (ns.map V.int) → sp K [.ref a] H (fun v _ => v = .bl true) fun _ _ _ => False) :
    PySem.W.WalkO q loose XP YP l.row.toRowW d [] (fun f vs => PySem.call f vs) := by
  refine Att.attach_call hn hdf fun w s₀ s₁ mg mb fa o pm cd doc a vs ns G Y ho hd hcd hmg hobj hints hlen hg => ?_
  have KX := hY w _ Y
  obtain ⟨fd, hb, hF⟩ := F w mg fa _ KX G.T.g hmg
  exact law_callG KX G.T.g G.T.b G.T.builtins G.T.nolimit hg hobj hints (Nat.le_trans hlen hn2) hr hF hb fun H hO hS => hsp (K w.params) H a ns hlen hO hS
/-! ### repr of data -/
def tRep (K : PySem.W.Frag) (te : TE) : TE := fun σ H Q => te σ H fun x H1 => ∃ a d, x = .ref a ∧ Dp K H1 x d ∧ d.showable = true ∧ d.hasDict = false ∧ d.depth ≤ 50 ∧ d.shown.length ≤ sizeLine ∧ Q (.str d.shown) H1
theorem pe_rep {X : Cx} {k : Nat} {e : Expr} {te : TE} {p pos : Pos} (hG : X.A.guards = some []) (hr : Room k X.A) (hg : Gl X "repr") (hm : X.mg "repr" = none) (hb : bootBuiltins "repr" = some (.builtin "repr")) (ha : PE X e te)
    (he : starEach [e] X.env = (false, eval e X.env) :: starEach [] X.env := by rfl) : PE X (.Call (.Name "repr" p) [e] [] pos) (tRep X.K te) := by
  refine ⟨fun pins s σ H Q I h => wpAny_Call_Name_kw (ld_blt I hg hm hb ?_)⟩
  refine PyProof.Rows.callWith_builtin1 (args_cons (thn (ha.run pins s σ H _ I h) fun u s1 ⟨v, H1, I1, r1, q1⟩ => args_nil ?_) he) he rfl
  obtain ⟨a, d, ex, hd, hs, hno, hdp, hz, q⟩ := q1
  subst ex
  obtain ⟨as, rd⟩ := Dp.reads I1 d _ u hd r1
  cases (show u = Value.ref a from r1)
  have hu := hr.un
  refine repr_of_reads' rd hs (fun z => absurd z (by rw [hno]; decide)) hG (by omega) (fun b o e => e) (fun h' u tk hk => ?_) hz
  exact ⟨.str d.shown, H1, I1.kept hk, ⟨_, rfl⟩, q⟩
end XL
namespace XL
open PySem PySem.Spec PyProof.Rows L2
def topS (i : Nat) : Stmt := PySem.Challenge.pw_crosslocks_k31_small_lots_gone_through.main.body.getD i (.Pass ⟨0, 0, 0, 0⟩)
abbrev sTake : Stmt := topS 25
abbrev sOf : Stmt := topS 27
theorem atI_int {α : Type} {xs : List α} {i : Int} {v : α} (h0 : 0 ≤ i) (h : xs[i.toNat]? = some v) : atI xs i = some v := by
  have q := atI_nat h
  rwa [show ((i.toNat : Nat) : Int) = i by omega] at q
/-! ### the box: a list of three numbers -/
def Bx (H : Hp) (b : Addr) : Prop := ∃ x y z : Int, H b = some (.lst [.int x, .int y, .int z])
/-- all that was tracked but the box is as it was, the box is a box -/
structure Dr (b : Addr) (H H' : Hp) : Prop where
  box : Bx H' b
  same : ∀ a o, a ≠ b → H a = some o → H' a = some o
theorem Dr.refl {b : Addr} {H : Hp} (h : Bx H b) : Dr b H H := ⟨h, fun _ _ _ e => e⟩
theorem Dr.trans {b : Addr} {H H1 H2 : Hp} (p : Dr b H H1) (q : Dr b H1 H2) : Dr b H H2 := ⟨q.box, fun a o n e => q.same a o n (p.same a o n e)⟩
theorem Dr.new {b p : Addr} {H : Hp} {o : HO} (h : Bx H b) (n : H p = none) : Dr b H (upd H p o) := by
  obtain ⟨x, y, z, e⟩ := h
  exact ⟨⟨x, y, z, same_new n b _ e⟩, fun a o _ e => same_new n a o e⟩
theorem Dr.put {b : Addr} {H : Hp} {x y z : Int} : Dr b H (upd H b (.lst [.int x, .int y, .int z])) := ⟨⟨x, y, z, upd_same⟩, fun a o n e => by rw [upd_ne n]; exact e⟩
theorem Dr.of {b : Addr} {H H' : Hp} (h : Bx H b) (s : Same H H') : Dr b H H' := by
  obtain ⟨x, y, z, e⟩ := h
  exact ⟨⟨x, y, z, s _ _ e⟩, fun a o _ e => s a o e⟩
section
variable {P : Program} {w : World} {K : PySem.W.Frag} {mg : Str → Option Value} {base : Heap}
/-! ### _law_take -/
theorem scTake : FnScope ["_law_box_here", "_law_size", "_law_found", "_law_blend"] ["_law_box_here", "_law_size"] (defScope sTake) := ⟨rfl, rfl, rfl, by decide +kernel, rfl, by decide +kernel, by decide +kernel⟩
def spTake : Sp := fun vs H Q _ => ∃ (b : Addr) (n : Int), vs = [.ref b, .int n] ∧ Bx H b ∧ 0 < n ∧ n < 10000000000000 ∧ ∀ (v : Int) (H' : Hp), 0 ≤ v → v < n → Dr b H H' → Q (.int v) H'
theorem fmod_lt {a n : Int} (h : 0 < n) : 0 ≤ a.fmod n ∧ a.fmod n < n := by
  rw [Int.fmod_eq_emod_of_nonneg _ (Int.le_of_lt h)]
  exact ⟨Int.emod_nonneg _ (by omega), Int.emod_lt_of_pos _ h⟩
theorem div_log {n : Int} (h0 : 0 < n) (h1 : n < 10000000000000) : n.natAbs.log2 < 9000 := by
  have : n.natAbs.log2 < 44 := (Nat.log2_lt (by omega)).mpr (Nat.lt_trans (m := 10000000000000) (by omega) (by decide))
  omega
theorem ok_take {f : Addr} {fd : FuncData} {k : Nat} (F : Fun K "_law_take" "_law_take" sTake f fd) : FnOk P w K mg base CX0 (k + 1) f fd ["_law_box_here", "_law_size"] spTake := by
  refine F.ok scTake (fun vs H Q E h => ?_) (fun cdv A outer s H vs Q E hr h => ?_)
  · obtain ⟨b, n, rfl, _⟩ := h
    rfl
  obtain ⟨b, n, rfl, ⟨x, y, z, eb⟩, h0, h1, q⟩ := h
  refine ⟨_, pss_cons (ps_if (pt_cmpR op_gt (pe_ix ix_list (pv 0) pe_int (fun _ _ => rfl)) pe_int (nomark _))
      (pss_cons (ps_set (i := 2) scTake.nd rfl (.inl rfl) (pe_op op_modN (pe_ix ix_list (pv 0) pe_int (fun _ _ => rfl)) (pv 1)))
      (pss_cons (ps_asg (pe_op op_fdivW (pe_ix ix_list (pv 0) pe_int (fun _ _ => rfl)) (pv 1)) (pg_sub (pv 0) pe_int set_list))
      (pss_one (ps_ret (pv 2))))) pss_nil)
    (pss_cons (ps_asg (pe_op op_add (pe_ix ix_list (pv 0) pe_int (fun _ _ => rfl)) pe_int) (pg_sub (pv 0) pe_int set_list))
    (pss_cons (ps_set (i := 3) scTake.nd rfl (.inl rfl) (pe_op op_modN (pe_op op_add (pe_ix ix_list (pv 0) pe_int (fun _ _ => rfl)) (pe_op op_mul pe_int (pe_ix ix_list (pv 0) pe_int (fun _ _ => rfl)))) pe_int))
    (pss_cons (ps_set (i := 3) scTake.nd rfl (.inl rfl) (pe_op op_modN (pe_op op_add (pe_op op_add (pe_op op_mul (pv 3) (pv 3)) (pe_op op_mul pe_int (pe_ix ix_list (pv 0) pe_int (fun _ _ => rfl)))) pe_int) pe_int))
    (pss_cons (ps_set (i := 3) scTake.nd rfl (.inl rfl) (pe_op op_modN (pe_op op_add (pe_op op_mul (pv 3) (pe_op op_add (pe_op op_fdivN (pv 3) pe_int) pe_int)) (pe_ix ix_list (pv 0) pe_int (fun _ _ => rfl))) pe_int))
    (pss_one (ps_ret (pe_op op_modN (pe_op op_fdivN (pv 3) pe_int) (pv 1)))))))), ?_⟩
  have sq : SqL K H b [.int x, .int y, .int z] := SqL.of eb
  -- box[0] > 0
  refine ⟨_, rfl, b, _, _, _, rfl, rfl, sq, rfl, _, _, rfl, rfl, _, rfl, ite2 (fun c => ?_) (fun c => ?_)⟩
  · refine ⟨_, rfl, b, _, _, _, rfl, rfl, sq, rfl, _, rfl, _, _, rfl, rfl, by omega, ?_⟩
    refine ⟨_, rfl, b, _, _, _, rfl, rfl, sq, rfl, _, rfl, _, _, rfl, rfl, ⟨h0, div_log h0 h1⟩, ?_⟩
    refine ⟨_, rfl, b, _, _, 0, rfl, rfl, eb, rfl, ?_⟩
    refine ⟨_, rfl, ?_⟩
    exact q _ _ (fmod_lt h0).1 (fmod_lt h0).2 Dr.put
  · refine ⟨_, rfl, b, _, _, _, rfl, rfl, sq, rfl, _, _, rfl, rfl, ?_⟩
    refine ⟨_, rfl, b, _, _, 2, rfl, rfl, eb, rfl, ?_⟩
    have sq2 : SqL K (upd H b (.lst [.int x, .int y, .int (z + 1)])) b [.int x, .int y, .int (z + 1)] := SqL.of upd_same
    refine ⟨_, rfl, b, _, _, _, rfl, rfl, sq2, rfl, _, rfl, b, _, _, _, rfl, rfl, sq2, rfl, _, _, rfl, rfl, .inl ⟨by decide, by decide⟩, _, _, rfl, rfl, _, _, rfl, rfl, (by show (2305843009213693951 : Int) ≠ 0; decide), ?_⟩
    have m1 := fmod_lt (a := y + 1442695040888963407 * (z + 1)) (n := 2305843009213693951) (by decide)
    refine ⟨_, rfl, _, rfl, _, _, rfl, rfl, .inl ⟨by omega, by omega⟩, _, rfl, b, _, _, _, rfl, rfl, sq2, rfl, _, _, rfl, rfl, .inl ⟨by decide, by decide⟩, _, _, rfl, rfl, _, _, rfl, rfl, _, _, rfl, rfl, (by show (2305843009213693921 : Int) ≠ 0; decide), ?_⟩
    have m2 := fmod_lt (a := (y + 1442695040888963407 * (z + 1)).fmod 2305843009213693951 * (y + 1442695040888963407 * (z + 1)).fmod 2305843009213693951 + 39373 * (z + 1) + 7) (n := 2305843009213693921) (by decide)
    refine ⟨_, rfl, _, rfl, _, _, rfl, rfl, ⟨by decide, by decide⟩, _, _, rfl, rfl, _, _, rfl, rfl, .inl ⟨by omega, by omega⟩, _, rfl, b, _, _, _, rfl, rfl, sq2, rfl, _, _, rfl, rfl, _, _, rfl, rfl, (by show (2305843009213693907 : Int) ≠ 0; decide), ?_⟩
    refine ⟨_, rfl, _, _, rfl, rfl, ⟨by decide, by decide⟩, _, rfl, _, _, rfl, rfl, by omega, ?_⟩
    exact q _ _ (fmod_lt h0).1 (fmod_lt h0).2 Dr.put
/-! ### _law_of -/
theorem scOf : FnScope ["_law_box_here", "_law_some"] ["_law_box_here", "_law_some"] (defScope sOf) := ⟨rfl, rfl, rfl, by decide +kernel, rfl, by decide +kernel, by decide +kernel⟩
def spOf (K : PySem.W.Frag) : Sp := fun vs H Q _ => ∃ (b l : Addr) (xs : List V), vs = [.ref b, .ref l] ∧ Bx H b ∧ l ≠ b ∧ SqL K H l xs ∧ xs ≠ [] ∧ xs.length < 1000 ∧ ∀ (j : Nat) (v : V) (H' : Hp), xs[j]? = some v → Dr b H H' → Q v H'
theorem Dr.sqL {b a : Addr} {H H' : Hp} {xs : List V} (d : Dr b H H') (n : a ≠ b) (h : SqL K H a xs) : SqL K H' a xs := by
  rcases h with (h | ⟨o, h⟩) | h
  · exact .inl (.inl (d.same _ _ n h))
  · exact .inl (.inr ⟨o, d.same _ _ n h⟩)
  · exact .inr h
theorem Dr.sqT {b a : Addr} {H H' : Hp} {xs : List V} (d : Dr b H H') (n : a ≠ b) (h : SqT K H a xs) : SqT K H' a xs := by
  rcases h with (h | ⟨o, h⟩) | h
  · exact .inl (.inl (d.same _ _ n h))
  · exact .inl (.inr ⟨o, d.same _ _ n h⟩)
  · exact .inr h
theorem ok_of {f ft : Addr} {fd fdt : FuncData} {k : Nat} (F : Fun K "_law_of" "_law_of" sOf f fd) (FT : Fun K "_law_take" "_law_take" sTake ft fdt) (bT : Binds K fdt ["_law_box_here", "_law_size"] []) (gT : mg "_law_take" = some (.ref ft)) (ml : mg "len" = none) :
    FnOk P w K mg base CX0 (k + 1 + 1) f fd ["_law_box_here", "_law_some"] (spOf K) := by
  refine F.ok scOf (fun vs H Q E h => ?_) (fun cdv A outer s H vs Q E hr h => ?_)
  · obtain ⟨b, l, xs, rfl, _⟩ := h
    rfl
  obtain ⟨b, l, xs, rfl, hb, hlb, hl, hne, hz, q⟩ := h
  refine ⟨_, pss_one (ps_ret (pe_ix ix_list (pv 1) (pe_call (ok_take (k := k) FT) hr rfl gT FT.kp bT .nil pass0 (pa_cons (pv 0) (pa_cons (pe_callB call_len_seq rfl ml PySem.boot_len (pa_cons (pv 1) pa_nil)) pa_nil))) (fun _ _ => rfl))), ?_⟩
  have hpos : 0 < xs.length := List.length_pos_iff.mpr hne
  refine ⟨_, rfl, _, rfl, _, rfl, l, xs, rfl, .inl hl, b, _, rfl, hb, by omega, by omega, fun v H' v0 v1 d => ?_⟩
  have hj : v.toNat < xs.length := by omega
  have ha : atI xs v = some xs[v.toNat] := atI_int v0 (List.getElem?_eq_getElem hj)
  refine ⟨l, xs, v, _, rfl, rfl, d.sqL hlb hl, ha, ?_⟩
  exact q v.toNat _ _ (List.getElem?_eq_getElem hj) d
end
end XL
namespace XL
open PySem PySem.Spec PyProof.Rows L2
section
variable {K : PySem.W.Frag} {H H' : Hp}
/-! ### data stays -/
mutual
theorem Dp.same (s : Same H H') : ∀ {v : V} (d : PyData), Dp K H v d → Dp K H' v d
  | _, .none, h => by cases h; exact .non
  | _, .bool b, h => by cases h; exact .bl b
  | _, .int i, h => by cases h; exact .int i
  | _, .str x, h => by cases h; exact .str x
  | _, .list ds, h => by
    cases h with
    | lst hs ha => exact .lst (s.seq hs) (DpAll.same s ds ha)
  | _, .tuple ds, h => by
    cases h with
    | tup hs ha => exact .tup (Same.tup s hs) (DpAll.same s ds ha)
  | _, .dict _, h => by cases h
theorem DpAll.same (s : Same H H') : ∀ {vs : List V} (ds : List PyData), DpAll K H vs ds → DpAll K H' vs ds
  | _, [], h => by cases h; exact .nil
  | _, d :: ds, h => by
    cases h with
    | cons h1 h2 => exact .cons (Dp.same s d h1) (DpAll.same s ds h2)
end
theorem DpAll.length : ∀ {vs : List V} {ds : List PyData}, DpAll K H vs ds → vs.length = ds.length
  | _, _, .nil => rfl
  | _, _, .cons _ h => by rw [List.length_cons, List.length_cons, DpAll.length h]
theorem DpAll.get : ∀ {vs : List V} {ds : List PyData} {i : Nat} {v : V}, DpAll K H vs ds → vs[i]? = some v → ∃ d, ds[i]? = some d ∧ Dp K H v d
  | _, _, i, v, .nil, h => by simp at h
  | _, _, 0, v, .cons a _, h => by cases h; exact ⟨_, rfl, a⟩
  | _, _, i + 1, v, .cons _ r, h => DpAll.get r (i := i) h
theorem DpAll.get' : ∀ {vs : List V} {ds : List PyData} {i : Nat} {d : PyData}, DpAll K H vs ds → ds[i]? = some d → ∃ v, vs[i]? = some v ∧ Dp K H v d
  | _, _, i, v, .nil, h => by simp at h
  | _, _, 0, v, .cons a _, h => by cases h; exact ⟨_, rfl, a⟩
  | _, _, i + 1, v, .cons _ r, h => DpAll.get' r (i := i) h
theorem DpAll.app : ∀ {vs ws : List V} {ds es : List PyData}, DpAll K H vs ds → DpAll K H ws es → DpAll K H (vs ++ ws) (ds ++ es)
  | _, _, _, _, .nil, h => h
  | _, _, _, _, .cons a r, h => .cons a (DpAll.app r h)
theorem DpAll.snoc {vs : List V} {v : V} {ds : List PyData} {d : PyData} (a : DpAll K H vs ds) (h : Dp K H v d) : DpAll K H (vs ++ [v]) (ds ++ [d]) := DpAll.app a (.cons h .nil)
/-! ### kinds -/
def isSeq : PyData → Bool
  | .list _ => true
  | .tuple _ => true
  | _ => false
def tyD : PyData → Value
  | .none => .type "NoneType"
  | .bool _ => .type "bool"
  | .int _ => .type "int"
  | .str _ => .type "str"
  | .list _ => .type "list"
  | .tuple _ => .type "tuple"
  | .dict _ => .type "dict"
theorem tyx_of {v : V} {d : PyData} (h : Dp K H v d) : TyX K H v (tyD d) := by
  cases h with
  | non => exact .base .non
  | bl b => exact .base (.bl b)
  | int i => exact .base (.int i)
  | str x => exact .base (.str x)
  | lst hs _ =>
    rcases hs with (hs | ⟨o, hs⟩) | ⟨o, its, n, hk, hc, _⟩
    · exact .base (.lst hs)
    · exact .base (.frz hs)
    · exact .kList hk hc
  | tup hs _ =>
    rcases hs with (hs | ⟨o, hs⟩) | ⟨o, its, n, hk, hc, _⟩
    · exact .base (.tup hs)
    · exact .fTuple hs
    · exact .kTuple hk hc
theorem kit1 {t : String} {u : String} {b : Bool} (h : kitB t u = some b) : PySem.W.kitOne K (.type t) (.type u) = some b := kit_ty h
theorem kit2 {t u v : String} {a b : Bool} (h : kitB t u = some a) (h2 : kitB t v = some b) : PySem.W.kitAny K (.type t) [.type u, .type v] = some (a || b) := by
  refine kitAny_cons (kit_ty h) (fun e => ?_) (fun e => ?_)
  · subst e
    refine kitAny_cons (kit_ty h2) (fun e => ?_) (fun e => ?_)
    · subst e; rfl
    · subst e; rfl
  · subst e; rfl
theorem seq_kit (d : PyData) (h : ∀ kvs, d ≠ .dict kvs) : PySem.W.kitAny K (tyD d) [.type "list", .type "tuple"] = some (isSeq d) := by
  cases d with
  | none => exact kit2 (a := false) (b := false) (by decide +kernel) (by decide +kernel)
  | bool b => exact kit2 (a := false) (b := false) (by decide +kernel) (by decide +kernel)
  | int i => exact kit2 (a := false) (b := false) (by decide +kernel) (by decide +kernel)
  | str x => exact kit2 (a := false) (b := false) (by decide +kernel) (by decide +kernel)
  | list ds => exact kit2 (a := true) (b := false) (by decide +kernel) (by decide +kernel)
  | tuple ds => exact kit2 (a := false) (b := true) (by decide +kernel) (by decide +kernel)
  | dict kvs => exact absurd rfl (h kvs)
theorem Dp.nodict {v : V} {d : PyData} (h : Dp K H v d) : ∀ kvs, d ≠ .dict kvs := fun kvs e => by subst e; cases h
end
/-! ### data of bounded depth and width -/
def okD : Nat → PyData → Prop
  | 0, _ => False
  | n + 1, .list ds => ds.length ≤ 1000 ∧ ∀ d ∈ ds, okD n d
  | n + 1, .tuple ds => ds.length ≤ 1000 ∧ ∀ d ∈ ds, okD n d
  | _ + 1, _ => True
mutual
/-- lists as tuples -/
def tupD : PyData → PyData
  | .list ds => .tuple (tupDs ds)
  | .tuple ds => .tuple (tupDs ds)
  | .none => .none
  | .bool b => .bool b
  | .int i => .int i
  | .str x => .str x
  | .dict k => .dict k
def tupDs : List PyData → List PyData
  | [] => []
  | d :: ds => tupD d :: tupDs ds
end
mutual
/-- tuples as lists -/
def lstD : PyData → PyData
  | .list ds => .list (lstDs ds)
  | .tuple ds => .list (lstDs ds)
  | .none => .none
  | .bool b => .bool b
  | .int i => .int i
  | .str x => .str x
  | .dict k => .dict k
def lstDs : List PyData → List PyData
  | [] => []
  | d :: ds => lstD d :: lstDs ds
end
theorem tupDs_eq : ∀ ds : List PyData, tupDs ds = ds.map tupD
  | [] => rfl
  | d :: ds => by rw [tupDs, tupDs_eq ds]; rfl
theorem lstDs_eq : ∀ ds : List PyData, lstDs ds = ds.map lstD
  | [] => rfl
  | d :: ds => by rw [lstDs, lstDs_eq ds]; rfl
def itemsD : PyData → List PyData
  | .list ds => ds
  | .tuple ds => ds
  | _ => []
theorem seq_of {K : PySem.W.Frag} {H : Hp} {v : V} {d : PyData} (h : Dp K H v d) (hs : isSeq d = true) : ∃ a xs, v = .ref a ∧ Sq2 K H a xs ∧ DpAll K H xs (itemsD d) := by
  cases h with
  | lst h1 h2 => exact ⟨_, _, rfl, .inl h1, h2⟩
  | tup h1 h2 => exact ⟨_, _, rfl, .inr h1, h2⟩
  | _ => simp [isSeq] at hs
theorem okD_items {n : Nat} {d : PyData} (h : okD (n + 1) d) (hs : isSeq d = true) : (∀ e ∈ itemsD d, okD n e) ∧ (itemsD d).length ≤ 1000 := by
  cases d with
  | list ds => exact ⟨h.2, h.1⟩
  | tuple ds => exact ⟨h.2, h.1⟩
  | _ => simp [isSeq] at hs
theorem small {n : Nat} (h : n ≤ 1000) : n ≤ sizeLine := Nat.le_of_lt (small1000 h)
end XL
namespace XL
open PySem PySem.Spec PyProof.Rows L2
/-! ### a list that is hidden while an expression is evaluated -/
theorem same_delH {H : Hp} {D : Addr} {o : HO} : Same (delH H D) (upd H D o) := fun b x e => by
  by_cases hb : b = D
  · rw [hb, delH_same] at e; cases e
  · rw [delH_ne hb] at e; rw [upd_ne hb]; exact e
theorem delH_none {H : Hp} {D : Addr} (h : H D = none) : delH H D = H := by
  funext b
  by_cases hb : b = D
  · rw [hb, delH_same, h]
  · rw [delH_ne hb]
theorem delH_upd {H : Hp} {D : Addr} {o : HO} (h : H D = none) : delH (upd H D o) D = H := delH_new h
theorem upd_upd {H : Hp} {D : Addr} {o o' : HO} : upd (upd H D o) D o' = upd H D o' := by
  funext b
  by_cases hb : b = D
  · rw [hb, upd_same, upd_same]
  · rw [upd_ne hb, upd_ne hb, upd_ne hb]
theorem upd_comm {H : Hp} {D T : Addr} {o o' : HO} (h : T ≠ D) : upd (upd H D o) T o' = upd (upd H T o') D o := by
  funext b
  by_cases hb : b = D
  · rw [hb, upd_same, upd_ne (fun e => h e.symm), upd_same]
  · by_cases hT : b = T
    · rw [hT, upd_same, upd_ne h, upd_same]
    · rw [upd_ne hT, upd_ne hb, upd_ne hb, upd_ne hT]
section
variable {X : Cx} {pins : List (Addr × Obj)} {σ : L2.St} {H : Hp} {s s' : Shared} {D : Addr} {xs : List V}
theorem Inv.hide (I : Inv X pins σ H s) (hD : H D = some (.lst xs)) : ∃ (its : List Value) (n : Nat), Vals xs its ∧ xs.length ≤ sizeLine ∧
    Inv X ((D, { cls := .type "list", dict := none, data := .seq its.toArray n, slots := #[] }) :: pins) σ (delH H D) s := by
  obtain ⟨hz, its, n, rv, ho⟩ := (show ObjOk X.prog X.w H s.heap D (.lst xs) from I.hok D _ hD)
  have ne : ∀ {b : Addr}, H b = none → b ≠ D := fun {b} h e => by rw [e, hD] at h; cases h
  have hN : ∀ {b : Addr}, H b = none → delH H D b = none := fun {b} h => by rw [delH_ne (ne h)]; exact h
  refine ⟨its, n, rv, hz, ⟨I.ok, I.os, I.bare, ⟨I.base.keep, I.base.slot, fun b o e n hx => hN (I.base.free b o e n hx), I.base.there, fun b ys e => ?_, fun b o u e => ?_, fun b ps e => ?_⟩, I.loc, I.cell, hN I.free, fun x c e => hN (I.freeC x c e), fun p hp => ?_, fun b o e => ?_, I.len⟩⟩
  · have q := I.base.tups b ys e
    rw [delH_ne (fun z => by rw [z, hD] at q; cases q)]; exact q
  · have q := I.base.frzs b o u e
    rw [delH_ne (fun z => by rw [z, hD] at q; cases q)]; exact q
  · obtain ⟨m, q⟩ := I.base.tbls b ps e
    exact ⟨m, by rw [delH_ne (fun z => by rw [z, hD] at q; cases q)]; exact q⟩
  · rcases List.mem_append.mp hp with hp | hp
    · obtain ⟨a1, a2, a3⟩ := I.pin p (List.mem_append_left _ hp)
      exact ⟨a1, hN a2, a3⟩
    · rcases List.mem_cons.mp hp with e | hp
      · subst e
        refine ⟨ho, delH_same, fun e => ?_, fun hf => ?_, fun v e => nomatch e⟩
        · have := I.free; rw [show X.env.locals = D from e.symm, hD] at this; cases this
        · obtain ⟨_, o, q, _⟩ := I.ok.funs.mem hf
          have := I.base.free D o q (I.ok.frf D hf) fun z => I.ok.exfs D z hf
          rw [hD] at this; cases this
      · obtain ⟨a1, a2, a3⟩ := I.pin p (List.mem_append_right _ hp)
        exact ⟨a1, hN a2, a3⟩
  · have hb : b ≠ D := fun z => by rw [z, delH_same] at e; cases e
    rw [delH_ne hb] at e
    refine (I.hok b o e).stay (fun c v _ q => q) (fun c q => ?_) fun c ys q => ?_
    · rw [delH_ne (fun z => by rw [z, hD] at q; cases q)]; exact q
    · rw [delH_ne (fun z => by rw [z, hD] at q; cases q)]; exact q
theorem Inv.unhide {H' : Hp} {its : List Value} {n : Nat} (I : Inv X pins σ H s) (hD : H D = some (.lst xs)) (rv : Vals xs its) (hz : xs.length ≤ sizeLine)
    (J : Inv X ((D, { cls := .type "list", dict := none, data := .seq its.toArray n, slots := #[] }) :: pins) σ H' s') : H' D = none ∧ Inv X pins σ (upd H' D (.lst xs)) s' := by
  obtain ⟨ho, hn, _, _, _⟩ := J.pin (D, _) (List.mem_append_right _ (List.mem_cons_self ..))
  have hn' : H' D = none := hn
  have ne : ∀ {b : Addr}, H b = none → b ≠ D := fun {b} h e => by rw [e, hD] at h; cases h
  refine ⟨hn', ⟨J.ok, J.os, J.bare, ⟨J.base.keep, J.base.slot, fun b o e n hx => ?_, J.base.there, fun b ys e => ?_, fun b o u e => ?_, fun b ps e => ?_⟩, J.loc, J.cell, ?_, fun x c e => ?_, fun p hp => ?_, fun b o e => ?_, J.len⟩⟩
  · rw [upd_ne (ne (I.base.free b o e n hx))]; exact J.base.free b o e n hx
  · have q := J.base.tups b ys e
    rw [upd_ne (fun z => by rw [z, hn'] at q; cases q)]; exact q
  · have q := J.base.frzs b o u e
    rw [upd_ne (fun z => by rw [z, hn'] at q; cases q)]; exact q
  · obtain ⟨m, q⟩ := J.base.tbls b ps e
    exact ⟨m, by rw [upd_ne (fun z => by rw [z, hn'] at q; cases q)]; exact q⟩
  · rw [upd_ne (ne I.free)]; exact J.free
  · rw [upd_ne (ne (I.freeC x c e))]; exact J.freeC x c e
  · obtain ⟨_, a0, _⟩ := I.pin p hp
    have hp' : p ∈ X.pn ++ ((D, ({ cls := .type "list", dict := none, data := .seq its.toArray n, slots := #[] } : Obj)) :: pins) := by
      rcases List.mem_append.mp hp with h | h
      · exact List.mem_append_left _ h
      · exact List.mem_append_right _ (List.mem_cons_of_mem _ h)
    obtain ⟨a1, a2, a3⟩ := J.pin p hp'
    exact ⟨a1, by rw [upd_ne (ne a0)]; exact a2, a3⟩
  · by_cases hb : b = D
    · subst hb
      rw [upd_same] at e
      cases e
      exact ⟨hz, its, n, rv, ho⟩
    · rw [upd_ne hb] at e
      refine (J.hok b o e).stay (fun c v _ q => q) (fun c q => ?_) fun c ys q => ?_
      · rw [upd_ne (fun z => by rw [z, hn'] at q; cases q)]; exact q
      · rw [upd_ne (fun z => by rw [z, hn'] at q; cases q)]; exact q
end
/-- e, evaluated while the list at D is hidden -/
def tHide (t : TE) : TE := fun σ H Q => ∃ D xs, H D = some (.lst xs) ∧ t σ (delH H D) fun v H' => H' D = none → Q v (upd H' D (.lst xs))
theorem pe_hide {X : Cx} {e : Expr} {t : TE} (h : PE X e t) : PE X e (tHide t) := by
  refine ⟨fun pins s σ H Q I q => ?_⟩
  obtain ⟨D, xs, hD, q⟩ := q
  obtain ⟨its, n, rv, hz, J⟩ := Inv.hide I hD
  refine thn (h.run _ s σ _ _ J q) fun u s' hu => ?_
  obtain ⟨v, H', J', r, q'⟩ := hu
  obtain ⟨hn, I'⟩ := Inv.unhide I hD rv hz J'
  exact ⟨v, _, I', r, q' hn⟩
theorem wipe_none {σ : L2.St} {i : Nat} : ∀ {vs : List Nat}, i ∈ vs → (wipe σ vs).set i none = wipe σ vs
  | [], h => by simp at h
  | v :: vs, h => by
    show ((wipe σ vs).set v none).set i none = (wipe σ vs).set v none
    by_cases e : i = v
    · rw [e, List.set_set]
    · have h' : i ∈ vs := by rcases List.mem_cons.mp h with q | q; exact absurd q e; exact q
      rw [List.set_comm _ _ (fun q => e q.symm), wipe_none h']
theorem wipe_put {σ : L2.St} {i : Nat} {x : Option V} : ∀ {vs : List Nat}, i ∉ vs → wipe (σ.set i x) vs = (wipe σ vs).set i x
  | [], _ => rfl
  | v :: vs, h => by
    show (wipe (σ.set i x) vs).set v none = ((wipe σ vs).set v none).set i x
    rw [wipe_put (fun q => h (List.mem_cons_of_mem _ q)), List.set_comm _ _ (fun q => h (by rw [q]; exact List.mem_cons_self ..))]
theorem w1 {σ σ' : L2.St} {i : Nat} {x : Option V} {vs : List Nat} (h : i ∈ vs) (e : wipe σ' vs = wipe σ vs) : wipe (σ'.set i x) vs = wipe σ vs := by
  have key : ∀ {vs : List Nat}, i ∈ vs → wipe (σ'.set i x) vs = wipe σ' vs := by
    intro vs h
    induction vs with
    | nil => simp at h
    | cons v vs ih =>
      show (wipe (σ'.set i x) vs).set v none = (wipe σ' vs).set v none
      by_cases hm : i ∈ vs
      · rw [ih hm]
      · have ev : i = v := by rcases List.mem_cons.mp h with q | q; exact q; exact absurd q hm
        rw [wipe_put hm, ← ev, List.set_set]
  rw [key h, e]
theorem w0 {σ : L2.St} {vs : List Nat} : wipe (wipe σ vs) vs = wipe σ vs := by
  have key : ∀ ws : List Nat, (∀ i ∈ ws, i ∈ vs) → wipe (wipe σ vs) ws = wipe σ vs := by
    intro ws
    induction ws with
    | nil => intro _; rfl
    | cons w ws ih =>
      intro h
      show (wipe (wipe σ vs) ws).set w none = wipe σ vs
      rw [ih (fun i hi => h i (List.mem_cons_of_mem _ hi)), wipe_none (h w (List.mem_cons_self ..))]
  exact key vs fun i h => h
/-- a comprehension that makes one value a turn -/
theorem lc_map {J : It} {n : Nat} {G : Hp → Prop} {Y : Nat → Hp → V → Hp → Prop} (w : Walk J n G Y) (Rl : Hp → Hp → Prop) (tr : ∀ {A B C}, Rl A B → Rl B C → Rl A C)
    (R : Nat → V → Hp → Prop) (st : ∀ i y A B, Rl A B → R i y A → R i y B) {g : TG} {t : TE} {vs : List Nat} {σ : L2.St} {H1 : Hp} {Qd : Addr → Hp → Prop} (hz : n < sizeLine)
    (rf : Rl H1 H1) (hG : ∀ F D acc, Rl H1 F → F D = none → G (upd F D (.lst acc)))
    (hs : ∀ i x D acc F H', i < n → H1 D = none → Rl H1 F → F D = none → Y i (upd F D (.lst acc)) x H' → ∀ B : L2.St → Hp → Prop, (∀ σ2 Fm, wipe σ2 vs = wipe σ vs → Fm D = none →
      (∀ Qt : VK, (∀ y F', Rl F F' → R i y F' → Qt y F') → t σ2 Fm Qt) → B σ2 (upd Fm D (.lst acc))) → g x (wipe σ vs) H' B)
    (hd : ∀ D ys F, H1 D = none → Rl H1 F → F D = none → ys.length = n → (∀ (i : Nat) y, ys[i]? = some y → R i y F) → Qd D (upd F D (.lst ys))) :
    ∀ D, H1 D = none → ∃ W : Nat → Nat → Hp → Prop, (∃ m, W 0 m (upd H1 D (.lst []))) ∧ ∀ i m H, W i m H →
      (J.stop i H ∧ Qd D H) ∨ (J.go i H ∧ ∃ Nx : Hp → Prop, (∀ H', Nx H' → ∃ m', m' < m ∧ W (i + 1) m' H') ∧ ∀ x H', J.yld i H x H' → g x (wipe σ vs) H' fun σ2 H2 => wipe σ2 vs = wipe σ vs ∧ tYes σ2 H2 fun b H3 =>
        if b = true then tHide t σ2 H3 fun y H4 => ∃ acc, H4 D = some (.lst acc) ∧ acc.length < sizeLine ∧ Nx (upd H4 D (.lst (acc ++ [y]))) else Nx H3) := by
  intro D nD
  refine lc_it w (fun i H => ∃ ys F, H = upd F D (.lst ys) ∧ F D = none ∧ Rl H1 F ∧ ys.length = i ∧ ∀ (j : Nat) y, ys[j]? = some y → R j y F) ⟨[], H1, rfl, nD, rf, rfl, fun j y e => by simp at e⟩ ?_ ?_ ?_
  · rintro i H _ ⟨ys, F, rfl, nF, rl, _, _⟩
    exact hG F D ys rl nF
  · rintro i x H H' hi ⟨ys, F, rfl, nF, rl, hl, hR⟩ hy
    refine hs i x D ys F H' hi nD rl nF hy _ fun σ2 Fm hw nm ht => ⟨hw, ?_⟩
    unfold tYes; dsimp only
    rw [if_pos rfl]
    refine ⟨D, ys, upd_same, ?_⟩
    rw [delH_upd nm]
    refine ht _ fun y F' rl' r nF' => ⟨ys, upd_same, by omega, ys ++ [y], F', upd_upd, nF', tr rl rl', by rw [List.length_append, hl]; rfl, fun j z e => ?_⟩
    by_cases hj : j < ys.length
    · rw [List.getElem?_append_left hj] at e
      exact st j z F F' rl' (hR j z e)
    · rw [List.getElem?_append_right (by omega)] at e
      have hj0 : j - ys.length = 0 := by
        rcases Nat.eq_zero_or_pos (j - ys.length) with q | q
        · exact q
        · rw [List.getElem?_eq_none (by simp; omega)] at e; cases e
      rw [hj0] at e
      have e' : y = z := by simpa using e
      have ej : j = i := by omega
      rw [← e', ej]; exact r
  · rintro H ⟨ys, F, rfl, nF, rl, hl, hR⟩
    exact hd D ys F nD rl nF hl hR
/-! ### what is walked: a list or a tuple -/
def iSeq (K : PySem.W.Frag) (tl : TE) : TI := fun σ H R => tl σ H fun x H1 => ∃ a xs, x = .ref a ∧ Sq2 K H1 a xs ∧ ∀ J, Walk J xs.length (fun H => (¬ SqT K H1 a xs → SqL K H1 a xs → SqL K H a xs) ∧ (SqT K H1 a xs → SqT K H a xs)) (YAt xs) → R J H1
theorem pi_seq {X : Cx} {tg l : Expr} {tl : TE} (hl : PE X l tl) : PI X tg l (iSeq X.K tl) := by
  refine ⟨fun pins s σ H R I h => ?_⟩
  refine thn (hl.run pins s σ H _ I h) fun v s1 ⟨x, H1, I1, r1, q1⟩ => ?_
  obtain ⟨a, xs, e, hq, q⟩ := q1
  subst e
  cases r1
  have fp : ∀ b ∈ [s1.heap.objs.size], FpOk X pins H1 b := fun b hb => by
    have e : b = s1.heap.objs.size := by simpa using hb
    subst e
    exact I1.fpOk (Nat.le_refl _) (I1.hok.fresh (Nat.le_refl _))
  by_cases hT : SqT X.K H1 a xs
  rotate_left
  · have hq : SqL X.K H1 a xs := hq.resolve_right hT
    obtain ⟨its, rv, p, hz⟩ := I1.list hq
    refine wpAny_pyIter_list p.isList ⟨s1.heap.objs.size, [s1.heap.objs.size], _, _, H1, rfl, I1.kept (t' := s1.toks) fun b o e => Heap.get?_push_of_some _ e, turn_list a _, ⟨_, Heap.get?_push_size _ rfl, rfl, rfl⟩, fp, q (Itl X.K a) ?_⟩
    exact (walk_list (K := X.K) (a := a) (xs := xs)).mono (fun H g => g.1 hT hq) fun i H x H' _ _ y => y
  · obtain ⟨its, rv, p, hz⟩ := I1.tuple hT
    refine wpAny_pyIter_tuple (show s1.heap.IsTuple a its.toArray from p) ⟨s1.heap.objs.size, [s1.heap.objs.size], _, _, H1, rfl, I1.kept (t' := s1.toks) fun b o e => Heap.get?_push_of_some _ e, turn_tuple a _, ⟨_, Heap.get?_push_size _ rfl, rfl, rfl⟩, fp, q (Itt X.K a) ?_⟩
    exact (walk_tup (K := X.K) (a := a) (xs := xs)).mono (fun H g => g.2 hT) fun i H x H' _ _ y => y
/-- a, b, .. = a list or a tuple -/
def gAny (K : PySem.W.Frag) (n : Nat) (t : TGs) : TG := fun v σ H Q => ∃ a xs, v = .ref a ∧ Sq2 K H a xs ∧ xs.length = n ∧ t xs σ H Q
theorem pg_any {X : Cx} {es : List Expr} {k : Nat} {pos : Pos} {t : TGs} {n : Nat} (hc : X.calm = true) (h : PGs X es t)
    (hn : (assignEach es X.env).length = n := by rfl) (hst : (assignEach es X.env).findIdx? (·.1) = none := by rfl) : PG X (.Tuple es k pos) (gAny X.K n t) := by
  refine ⟨fun pins s σ H v u Q I r hw => ?_⟩
  obtain ⟨a, xs, e, hq, hl, hw⟩ := hw
  rcases hq with hq | hq
  · exact (pg_unl hc h hn hst).run pins s σ H v u Q I r ⟨a, xs, e, hq, hl, hw⟩
  · exact (pg_tup hc h hn hst).run pins s σ H v u Q I r ⟨a, xs, e, hq, hl, hw⟩
end XL
namespace XL
open PySem PySem.Spec PyProof.Rows L2
abbrev sLists : Stmt := topS 29
theorem boot_isinstance : bootBuiltins "isinstance" = some (.builtin "isinstance") := by decide +kernel
section
variable {P : Program} {w : World} {K : PySem.W.Frag} {mg : Str → Option Value} {base : Heap}
theorem no_fn {f : Addr} {fd : FuncData} {ps : List Str} {sp : Sp} (no : ∀ vs H Q E, ¬ sp vs H Q E) : FnOk P w K mg base CX0 0 f fd ps sp :=
  ⟨fun vs H Q E h => absurd h (no vs H Q E), fun A outer s H args us vs Q E _ _ _ _ h => absurd h (no vs H Q E)⟩
/-- the values of a list of data, mapped -/
theorem dpall_of {F : Hp} {f : PyData → PyData} : ∀ {ys : List V} {ds : List PyData}, ys.length = ds.length → (∀ (i : Nat) y, ys[i]? = some y → ∃ d, ds[i]? = some d ∧ Dp K F y (f d)) → DpAll K F ys (ds.map f)
  | [], [], _, _ => .nil
  | [], _ :: _, h, _ => by simp at h
  | _ :: _, [], h, _ => by simp at h
  | y :: ys, d :: ds, h, hi => by
    obtain ⟨d', e, p⟩ := hi 0 y rfl
    have e' : d = d' := by simpa using e
    subst e'
    exact .cons p (dpall_of (by simpa using h) fun i z q => by
      have := hi (i + 1) z (by simpa using q)
      simpa using this)
/-! ### _law_lists -/
theorem scLists : FnScope ["_law_what", "_law_part"] ["_law_what"] (defScope sLists) := ⟨rfl, rfl, rfl, by decide +kernel, rfl, by decide +kernel, by decide +kernel⟩
def spLists (K : PySem.W.Frag) (n : Nat) : Sp := fun vs H Q _ => ∃ (v : V) (d : PyData), vs = [v] ∧ Dp K H v d ∧ okD n d ∧ ∀ (v' : V) (H' : Hp), Same H H' → Dp K H' v' (lstD d) → Q v' H'
theorem ok_lists {f : Addr} {fd : FuncData} (F : Fun K "_law_lists" "_law_lists" sLists f fd) (b : Binds K fd ["_law_what"] []) (gF : mg "_law_lists" = some (.ref f)) (mi : mg "isinstance" = none) (ml : mg "list" = none) (mt : mg "tuple" = none) :
    ∀ n : Nat, FnOk P w K mg base CX0 n f fd ["_law_what"] (spLists K n)
  | 0 => no_fn fun vs H Q E ⟨v, d, _, _, h, _⟩ => h
  | n + 1 => by
    have G := ok_lists F b gF mi ml mt n
    refine F.ok scLists (fun vs H Q E h => ?_) (fun cdv A outer s H vs Q E hr h => ?_)
    · obtain ⟨v, d, rfl, _⟩ := h
      rfl
    obtain ⟨v, d, rfl, hd, ok, q⟩ := h
    refine ⟨_, pss_one (ps_ret (pe_ifExp (pt_val (pe_callB call_isiT rfl mi boot_isinstance (pa_cons (pv 0) (pa_cons (pe_tup (pa_cons (pe_bltn (v := .ty "list") rfl ml boot_list rfl) (pa_cons (pe_bltn (v := .ty "tuple") rfl mt boot_tuple rfl) pa_nil))) pa_nil))))
        (pe_lc (own := [("_law_part", 1)]) (g := gName 1) (tt := tYes) rfl scLists.nd (pi_seq (pv 0)) (blkOk_by (own := [("_law_part", 1)]) (N := ["_law_what", "_law_part"]) (sc := defScope sLists) (by decide +kernel))
          (fun _ _ _ _ _ => pg_name (i := 1) scLists.nd rfl (Or.inl rfl)) (fun _ _ _ _ _ => pts_nil) (fun _ _ _ _ _ => pe_hide (pe_call G hr rfl gF F.kp b .nil pass0 (pa_cons (pv 1) pa_nil)))) (pv 0))), ?_⟩
    refine ⟨_, rfl, (by show 2 ≤ sizeLine; decide), fun tp np => ?_⟩
    have s1 : Same H (upd H tp (.tup [.ty "list", .ty "tuple"])) := same_new np
    refine ⟨v, tp, _, tyD d, _, isSeq d, rfl, upd_same, .cons (.ty _) (.cons (.ty _) .nil), tyx_of (Dp.same s1 d hd), seq_kit d (Dp.nodict hd), isSeq d, rfl, ?_⟩
    cases hsq : isSeq d with
    | false =>
      refine iteF ⟨_, rfl, ?_⟩
      have e : lstD d = d := by cases d <;> first | rfl | (simp [isSeq] at hsq)
      exact q _ _ s1 (by rw [e]; exact Dp.same s1 d hd)
    | true =>
      obtain ⟨a, xs, ds, rfl, hs, hall, het, hok, hlen⟩ : ∃ a xs ds, v = .ref a ∧ Sq2 K H a xs ∧ DpAll K H xs ds ∧ lstD d = .list (ds.map lstD) ∧ (∀ e ∈ ds, okD n e) ∧ ds.length ≤ 1000 := by
        cases hd with
        | lst h1 h2 => exact ⟨_, _, _, rfl, .inl h1, h2, by rw [lstD, lstDs_eq], ok.2, ok.1⟩
        | tup h1 h2 => exact ⟨_, _, _, rfl, .inr h1, h2, by rw [lstD, lstDs_eq], ok.2, ok.1⟩
        | _ => simp [isSeq] at hsq
      have hxl : xs.length = ds.length := DpAll.length hall
      refine iteT ⟨_, rfl, a, xs, rfl, Same.sq2 s1 hs, fun J wk => lc_map wk Same (fun a b => a.trans b) (fun i y F => ∃ d, ds[i]? = some d ∧ Dp K F y (lstD d)) (fun i y A B s ⟨d, e, p⟩ => ⟨d, e, Dp.same s _ p⟩) (by rw [hxl]; exact small1000 hlen) (Same.refl _) (fun F D acc sF nF => ?_) (fun i x D acc F H' hi nD sF nF hy B hB => ?_) (fun D ys F nD sF nF hl hR => ?_)⟩
      · have sD : Same _ (upd F D (.lst acc)) := sF.trans (same_new nF)
        exact ⟨fun _ z => sD.seq z, fun z => Same.tup sD z⟩
      · obtain ⟨rfl, hx⟩ := hy
        obtain ⟨e, he, hp⟩ := DpAll.get hall hx
        refine hB _ F rfl nF fun Qt hq => ?_
        refine ⟨x, rfl, x, e, rfl, Dp.same (s1.trans sF) e hp, hok e (List.mem_of_getElem? he), fun v' H' s' p' => hq _ _ s' ⟨e, he, p'⟩⟩
      · have sD : Same F (upd F D (.lst ys)) := same_new nF
        refine q _ _ (s1.trans (sF.trans sD)) ?_
        rw [het]
        exact .lst (SqL.of upd_same) (DpAll.same sD _ (dpall_of (by rw [hl, hxl]) hR))
end
end XL
namespace XL
open PySem PySem.Spec PyProof.Rows L2
/-! ### data without lists: it stands while tuples stand -/
structure Tp (H H' : Hp) : Prop where
  t : ∀ a xs, H a = some (.tup xs) → H' a = some (.tup xs)
  f : ∀ a o xs, H a = some (.frz o (.tup xs)) → H' a = some (.frz o (.tup xs))
theorem Tp.of {H H' : Hp} (s : Same H H') : Tp H H' := ⟨fun a xs e => s _ _ e, fun a o xs e => s _ _ e⟩
theorem Tp.trans {A B C : Hp} (p : Tp A B) (q : Tp B C) : Tp A C := ⟨fun a xs e => q.t _ _ (p.t _ _ e), fun a o xs e => q.f _ _ _ (p.f _ _ _ e)⟩
theorem Tp.upd {H : Hp} {a : Addr} {xs : List V} {o : HO} (h : H a = some (.lst xs)) : Tp H (upd H a o) :=
  ⟨fun b ys e => by rw [upd_ne (fun z => by rw [z, h] at e; cases e)]; exact e, fun b o' ys e => by rw [upd_ne (fun z => by rw [z, h] at e; cases e)]; exact e⟩
theorem Tp.sqT {K : PySem.W.Frag} {H H' : Hp} {a : Addr} {xs : List V} (p : Tp H H') (h : SqT K H a xs) : SqT K H' a xs := by
  rcases h with (h | ⟨o, h⟩) | h
  · exact .inl (.inl (p.t _ _ h))
  · exact .inl (.inr ⟨o, p.f _ _ _ h⟩)
  · exact .inr h
mutual
def noL : PyData → Bool
  | .list _ => false
  | .tuple ds => noLs ds
  | _ => true
def noLs : List PyData → Bool
  | [] => true
  | d :: ds => noL d && noLs ds
end
section
variable {K : PySem.W.Frag} {H H' : Hp}
mutual
theorem Dp.tp (p : Tp H H') : ∀ {v : V} (d : PyData), noL d = true → Dp K H v d → Dp K H' v d
  | _, .none, _, h => by cases h; exact .non
  | _, .bool b, _, h => by cases h; exact .bl b
  | _, .int i, _, h => by cases h; exact .int i
  | _, .str x, _, h => by cases h; exact .str x
  | _, .list ds, n, h => by simp [noL] at n
  | _, .tuple ds, n, h => by
    cases h with
    | tup hs ha => exact .tup (p.sqT hs) (DpAll.tp p ds (by simpa [noL] using n) ha)
  | _, .dict _, _, h => by cases h
theorem DpAll.tp (p : Tp H H') : ∀ {vs : List V} (ds : List PyData), noLs ds = true → DpAll K H vs ds → DpAll K H' vs ds
  | _, [], _, h => by cases h; exact .nil
  | _, d :: ds, n, h => by
    cases h with
    | cons h1 h2 =>
      rw [noLs, Bool.and_eq_true] at n
      exact .cons (Dp.tp p d n.1 h1) (DpAll.tp p ds n.2 h2)
end
end
/-! ### canals as data -/
abbrev Lk := Int × Int × Int × Int
def lkD (l : Lk) : PyData := .tuple [.int l.1, .int l.2.1, .int l.2.2.1, .int l.2.2.2]
structure Cn where
  r : Int
  b : Int
  ls : List Lk
def cnD (c : Cn) : PyData := .tuple [.int c.r, .int c.b, .tuple (c.ls.map lkD)]
structure okLk (r b : Int) (l : Lk) : Prop where
  a0 : 0 ≤ l.1
  a1 : l.1 < r
  c0 : 0 ≤ l.2.1
  c1 : l.2.1 < r
  x0 : 0 ≤ l.2.2.1
  x1 : l.2.2.1 < b
  y0 : 0 ≤ l.2.2.2
  y1 : l.2.2.2 < b
structure okCn (wide utmost : Nat) (c : Cn) : Prop where
  r1 : 1 ≤ c.r
  r2 : c.r ≤ wide
  b1 : 1 ≤ c.b
  b2 : c.b ≤ wide
  n : c.ls.length ≤ utmost
  l : ∀ l ∈ c.ls, okLk c.r c.b l
theorem noLs_lk : ∀ ls : List Lk, noLs (ls.map lkD) = true
  | [] => rfl
  | l :: ls => by rw [List.map_cons, noLs, noLs_lk ls]; rfl
theorem noL_cn (c : Cn) : noL (cnD c) = true := by
  show noLs [.int c.r, .int c.b, .tuple (c.ls.map lkD)] = true
  simp [noLs, noL, noLs_lk]
theorem lk_lay (l : Lk) : (lkD l).canLay0 = true := by simp [lkD, PyData.canLay0, PyData.canLayAll0]
theorem lk_depth (l : Lk) : (lkD l).depth = 1 := by simp [lkD, PyData.depth, PyData.depthAll]
theorem lks_lay : ∀ ls : List Lk, PyData.canLayAll0 (ls.map lkD) = true
  | [] => by simp [PyData.canLayAll0]
  | l :: ls => by simp [PyData.canLayAll0, lk_lay l, lks_lay ls]
theorem lks_depth : ∀ ls : List Lk, PyData.depthAll (ls.map lkD) ≤ 1
  | [] => by simp [PyData.depthAll]
  | l :: ls => by
    have h1 := lks_depth ls; have h2 := lk_depth l
    simp only [List.map_cons, PyData.depthAll]; omega
theorem lks_shaped (ls : List Lk) : SeqAt.shaped (.list (ls.map lkD)) = true := by
  have h1 := lks_depth ls
  have h2 : PyData.depth (.list (ls.map lkD)) ≤ 64 := by simp only [PyData.depth]; omega
  show (PyData.canLay0 (.list (ls.map lkD)) && decide (PyData.depth (.list (ls.map lkD)) ≤ 64)) = true
  rw [Bool.and_eq_true]; exact ⟨by simp only [PyData.canLay0]; exact lks_lay ls, decide_eq_true h2⟩
theorem nil_shaped : SeqAt.shaped (.list []) = true := lks_shaped []
theorem eqv_nil (ls : List Lk) : PyData.eqv (.list (ls.map lkD)) (.list []) = ls.isEmpty := by
  cases ls with
  | nil => simp [PyData.eqv, PyData.eqvAll]
  | cons l ls => simp [PyData.eqv, PyData.eqvAll]
end XL
namespace PySem
namespace XEn
open Sem (wp)
set_option maxHeartbeats 1000000 in
theorem meets_new1 {v : Value} {o : Obj} {H : Heap → Prop} (B : Begins v o H) :
    Meets (Builtin.«enumerate.__new__» ⟨[.type "enumerate", v], []⟩) (fun _ R s => H s.heap ∧
      R (.ok (.ret (.ref (s.heap.push o).objs.size))) { s with heap := (s.heap.push o).push { cls := .type "enumerate", data := .fields #[.none, .bool false, .ref s.heap.objs.size, rawInt 0, .none, .none] } }) :=
  .of_wp fun prog w A R s h => by
    obtain ⟨hp, g, d, tk, os⟩ := s; obtain ⟨h1, h⟩ := h
    have hsub := sub_enumerate
    have q1 : ∀ {A' : Around} {E : Value → Shared → Prop} {Q : Value → Shared → Prop}, Q (.ref hp.objs.size) ⟨hp.push o, g, d, tk, os⟩ → wpAny (model prog w) A' (pyIter v) Q E ⟨hp, g, d, tk, os⟩ :=
      fun q => B.iter prog w _ _ ⟨hp, g, d, tk, os⟩ _ h1 q
    wp_walk using q1
    refine wpAny_stack_any fun st => wpAny_pure ?_
    split
    · rename_i c _ _ _ _ _
      cases (c == Value.type "enumerate")
      · wp_walk using q1
        exact ⟨_, rfl, h⟩
      · wp_walk using q1
        exact ⟨_, rfl, h⟩
    · wp_walk using q1
      exact ⟨_, rfl, h⟩
section
variable {prog : Program} {w : World} {A : Around} {E : Value → Shared → Prop} {s : Shared}
theorem begins1 {v : Value} {o : Obj} {H : Heap → Prop} {Q : Value → Shared → Prop} (B : Begins v o H) (h1 : H s.heap)
    (h : ∀ h', IsEnum h' (s.heap.objs.size + 1) s.heap.objs.size 0 .none → h'.get? s.heap.objs.size = some o → h'.objs.size = s.heap.objs.size + 2 →
      (∀ b o, s.heap.get? b = some o → h'.get? b = some o) → Q (.ref (s.heap.objs.size + 1)) { s with heap := h' }) :
    wpAny (model prog w) A (call (.type "enumerate") [v]) Q E s := by
  refine callType_new F.called_enumerate (by decide) (F.typeCall_enumerate_1 _) (F.newCall_enumerate_1 _) (fun obj => F.args_object_init_2 obj _) F.entry_enumerate_new
    (meets_new1 B) ⟨h1, ?_⟩
  have hz : (s.heap.push o).objs.size = s.heap.objs.size + 1 := Heap.size_push ..
  show _ ∧ _
  rw [hz]
  have he : IsEnum ((s.heap.push o).push { cls := .type "enumerate", data := .fields #[.none, .bool false, .ref s.heap.objs.size, rawInt 0, .none, .none] }) (s.heap.objs.size + 1) s.heap.objs.size 0 .none := by
    have := Heap.get?_push_size (s.heap.push o) (o := { cls := .type "enumerate", data := .fields #[.none, .bool false, .ref s.heap.objs.size, rawInt 0, .none, .none] }) rfl
    rw [hz] at this; exact this
  refine ⟨⟨_, he, rfl⟩, h _ he (Heap.get?_push_of_some _ (Heap.get?_push_size _ B.free)) (by rw [Heap.size_push, hz]) fun b o x => Heap.get?_push_of_some _ (Heap.get?_push_of_some _ x)⟩
end
end XEn
end PySem
namespace XL
open PySem PySem.Spec PyProof.Rows L2
/-! ### enumerate(tuple) -/
def IteT (K : PySem.W.Frag) (a : Addr) : It :=
  ⟨fun i H => ∃ (xs : List V) (x : V), SqT K H a xs ∧ xs[i]? = some x, fun i H v H' => ∃ T x, v = .ref T ∧ H T = none ∧ H' = upd H T (.tup [.int (i : Nat), x]) ∧ ∀ xs, SqT K H a xs → xs[i]? = some x, fun i H => ∃ xs : List V, SqT K H a xs ∧ xs.length = i⟩
theorem tup_ne {h : Heap} {it a : Addr} {i : Nat} {its : Array Value} (h1 : h.IsTupleIter it a i) (h2 : h.IsTuple a its) : a ≠ it := fun z => by
  obtain ⟨o, e, c, d⟩ := h1
  obtain ⟨o', e', c', _⟩ := h2
  rw [z, e] at e'
  cases e'
  rw [c] at c'
  exact absurd c' (by decide)
theorem turn_enumT {P : Program} {w : World} {K : PySem.W.Frag} {elts : List Expr} {kk : Nat} {tpos : Pos} (a e it : Addr) :
    Turn P w K (.Tuple elts kk tpos) (IteT K a) [e, it] e (fun i h => (∃ old, IsEnum h e it ((i : Nat) : Int) old) ∧ h.IsTupleIter it a i ∧ e ≠ it) where
  mem := by simp
  obj := fun i h st b hb => by
    obtain ⟨⟨old, he⟩, ⟨o, ho, hc, hd⟩, _⟩ := st
    have e' : b = e ∨ b = it := by simpa using hb
    rcases e' with z | z
    · rw [z]; exact ⟨_, he, fun v q => nomatch q⟩
    · rw [z]; exact ⟨o, ho, fun v q => by rw [hd] at q; cases q⟩
  keep := fun i h h' st k => let ⟨⟨old, he⟩, hi, hne⟩ := st; ⟨⟨old, k e (by simp) _ he⟩, hi.at fun o q => k it (by simp) o q, hne⟩
  item := by
    intro X hP hw hK hc i pins s σ H E I hf st hg
    subst hP hw hK
    obtain ⟨⟨old, he⟩, hit, hne⟩ := st
    obtain ⟨xs, x, hq, hx⟩ := hg
    obtain ⟨its, rv, p, hz⟩ := I.tuple hq
    have p' : s.heap.IsTuple a its.toArray := p
    obtain ⟨u, hu, ru⟩ := rv.get hx
    have hel : e < s.heap.objs.size := Heap.lt_size he
    have hil : it < s.heap.objs.size := by obtain ⟨_, q, _⟩ := hit; exact Heap.lt_size q
    have hai := tup_ne hit p'
    have hae : e ∉ [it, a] := by
      intro z
      have z' : e = it ∨ e = a := by simpa using z
      rcases z' with z | z
      · exact hne z
      · obtain ⟨o', e', c', _⟩ := p'
        rw [← z, he] at e'
        cases e'
        exact absurd (show Value.type "enumerate" = Value.type "tuple" from c') (by decide)
    have hi : i < its.toArray.size := by
      rw [List.size_toArray]
      rcases Nat.lt_or_ge i its.length with q | q
      · exact q
      · rw [List.getElem?_eq_none q] at hu; cases hu
    refine wpAny_pyNext_enum_itemD (Draws.tuple (A := X.A.in1) (I.ok.hd hc) it a hai its.toArray) he ⟨hit, p'⟩ hi hne hae fun u' h' tk hu' ho hit' hT hsz hk => ?_
    have eu : u' = u := by
      have h1 : its.toArray[i]? = some u' := hu'
      rw [List.getElem?_toArray, hu] at h1
      exact (Option.some.inj h1).symm
    subst eu
    refine ⟨_, rfl, wpAny_letOwnedTupleGo_enum (s := { s with heap := h', toks := tk + 1 }) ho fun h'' he' sb => ?_⟩
    have hT2 : h''.get? s.heap.objs.size = some { cls := .type "tuple", data := .seq #[.int i tk, u'] } := (sb.2 _ (Nat.ne_of_gt hel)).trans hT
    have new : ObjOk X.prog X.w (upd H s.heap.objs.size (.tup [.int (i : Nat), x])) h'' s.heap.objs.size (.tup [.int (i : Nat), x]) :=
      ⟨by show 2 ≤ sizeLine; decide, [.int i tk, u'], .cons ⟨_, rfl⟩ (.cons ru .nil), ⟨_, hT2, rfl, _, rfl⟩⟩
    have I1 : Inv X pins σ (upd H s.heap.objs.size (.tup [.int (i : Nat), x])) { s with heap := h'', toks := tk + 1 } :=
      I.turnedNew (ch := [e, it]) (fun b ob hb q => (sb.2 b (fun z => hb (by simp [z]))).trans (hk b ob (fun z => hb (by simp [z])) (fun z => hb (by simp [z])) q)) hf (Nat.le_refl _) new
    refine ⟨.ref s.heap.objs.size, _, I1, rfl, ⟨_, x, rfl, I.hok.fresh (Nat.le_refl _), rfl, fun ys hy => by rw [I.tuple_inj hy hq]; exact hx⟩, ⟨⟨u', ?_⟩, hit'.1.at fun o q => (sb.2 it (Ne.symm hne)).trans q, hne⟩, fun b hb => ?_⟩
    · have e1 : ((i + 1 : Nat) : Int) = (i : Int) + 1 := by omega
      rw [e1]; exact he'
    · have hb' : b < s.heap.objs.size := by
        have e' : b = e ∨ b = it := by simpa using hb
        rcases e' with z | z
        · rw [z]; exact hel
        · rw [z]; exact hil
      rw [upd_ne (Nat.ne_of_lt hb')]
      exact (hf b hb).1
  done := by
    intro X hP hw hK hc i pins s σ H E I hf st hg
    subst hP hw hK
    obtain ⟨⟨old, he⟩, hit, hne⟩ := st
    obtain ⟨xs, hq, hx⟩ := hg
    obtain ⟨its, rv, p, hz⟩ := I.tuple hq
    have p' : s.heap.IsTuple a its.toArray := p
    obtain ⟨f0, f1, f2, f3, f4, f5⟩ := hf it (by simp)
    have hl := rv.length
    have hn : i = its.toArray.size := by rw [List.size_toArray]; omega
    subst hn
    exact wpAny_pyNext_enum_endD (Draws.tuple (A := X.A.in1) (I.ok.hd hc) it a (tup_ne hit p') its.toArray) he ⟨hit, p'⟩ fun h' eb => ⟨rfl, I.turned (t' := s.toks) (fun b o hb q => eb b o hb q) f0 f1 f3 f4 f5⟩
  self := fun A i s Q E st h => let ⟨⟨_, he⟩, _⟩ := st; wpAny_pyIter_enum he h
theorem walk_enumT {K : PySem.W.Frag} {a : Addr} {xs : List V} : Walk (IteT K a) xs.length (fun H => SqT K H a xs) (YPair (fun i => some (.int (i : Nat))) (fun i => xs[i]?)) := by
  refine ⟨fun i _ hi q => ⟨xs, xs[i], q, by simp [hi]⟩, fun _ q => ⟨xs, q, rfl⟩, fun i H v H' _ q y => ?_⟩
  obtain ⟨T, x, h1, h2, h3, h4⟩ := y
  exact ⟨T, .int (i : Nat), x, h1, h2, h3, rfl, h4 xs q⟩
def iEnumT (K : PySem.W.Frag) (ta : TA) : TI := fun σ H R => ta σ H fun vs H1 => ∃ a xs, vs = [.ref a] ∧ SqT K H1 a xs ∧ R (IteT K a) H1
theorem pi_enumT {X : Cx} {e : Expr} {ta : TA} {p pos tpos : Pos} {elts : List Expr} {kk : Nat} (hg : Gl X "enumerate") (hm : X.mg "enumerate" = none) (ha : PA X [e] ta) (hs : starEach [e] X.env = [(false, eval e X.env)] := by rfl) :
    PI X (.Tuple elts kk tpos) (.Call (.Name "enumerate" p) [e] [] pos) (iEnumT X.K ta) := by
  refine ⟨fun pins s σ H R I h => ?_⟩
  refine Call_ (ld_blt I hg hm boot_enumerate (PyProof.Rows.callWith_type1 (thn (ha.run pos pins s σ H _ I h) fun us s1 ⟨vs, H1, I1, r1, q1⟩ => ?_) hs rfl))
  obtain ⟨a, xs, ex, hq, q⟩ := q1
  subst ex
  cases r1 with
  | cons r rr =>
    cases rr
    cases r
    obtain ⟨its, rv, p', hz⟩ := I1.tuple hq
    refine PySem.XEn.begins1 (begins_tuple a its.toArray) (show s1.heap.IsTuple a its.toArray from p') fun h' he hit hsz hk => wpAny_pyIter_enum he ?_
    have I2 : Inv X pins σ H1 { s1 with heap := h' } := I1.kept (t' := s1.toks) hk
    refine ⟨s1.heap.objs.size + 1, [s1.heap.objs.size + 1, s1.heap.objs.size], _, _, H1, rfl, I2, turn_enumT a (s1.heap.objs.size + 1) s1.heap.objs.size, ⟨⟨.none, he⟩, ⟨_, hit, rfl, rfl⟩, Nat.succ_ne_self _⟩, fun b hb => ?_, q⟩
    have e' : b = s1.heap.objs.size + 1 ∨ b = s1.heap.objs.size := by simpa using hb
    have hle : s1.heap.objs.size ≤ b := by
      rcases e' with z | z
      · rw [z]; exact Nat.le_add_right _ _
      · rw [z]; exact Nat.le_refl _
    exact I1.fpOk hle (I1.hok.fresh hle)
end XL
namespace XL
open PySem PySem.Spec PyProof.Rows L2
/-! ### small words that all laws want -/
theorem at_s {T : L2.St → Hp → Prop} {σ σ' : L2.St} {H : Hp} (e : σ = σ') (h : T σ' H) : T σ H := e ▸ h
theorem at_g {i : Nat} {x : V} {σ σ' : L2.St} {H : Hp} {N : L2.St → Hp → Prop} (e : σ.set i (some x) = σ') (h : N σ' H) : gName i x σ H N := by
  subst e; exact h
/-- a heap by what is known of it -/
theorem at_h {T : L2.St → Hp → Prop} {σ : L2.St} {H : Hp} (Pf : Hp → Prop) (hp : Pf H) (h : ∀ G, Pf G → T σ G) : T σ H := h H hp
structure Fns (P : Program) (w : World) (K : PySem.W.Frag) (mg : Str → Option Value) (base : Heap) (n : Nat) (name : Str) (ps : List Str) (sp : Sp) (f : Addr) (fd : FuncData) : Prop where
  ok : FnOk P w K mg base CX0 n f fd ps sp
  g : mg name = some (.ref f)
  k : PySem.W.keepIn K (.ref f) = true
  b : Binds K fd ps []
theorem pe_fn {X : Cx} {n : Nat} {name : Str} {ps : List Str} {sp : Sp} {f : Addr} {fd : FuncData} {p pos : Pos} {e : Expr} {es : List Expr} {t : TA} (F : Fns X.prog X.w X.K X.mg X.base n name ps sp f fd) (hr : Room n X.A) (hg : Gl X name) (ha : PA X (e :: es) t)
    (hdb : (name == ("__debug__" : Str)) = false := by decide) (he : starEach (e :: es) X.env = (false, eval e X.env) :: starEach es X.env := by rfl) (hpl : (backTo pos (starEach es X.env)).any (·.1) = false := by rfl) (hx : Passes CX0 X E0 := by exact pass0) :
    PE X (.Call (.Name name p) (e :: es) [] pos) (tCall sp [] E0 t) := pe_call F.ok hr hg F.g F.k F.b .nil hx ha hdb he hpl
theorem room65 {k : Nat} {A : Around} (r : Room k A) : A.units + 65 < cLine := by have := r.un; omega
/-- an item of a list or a tuple -/
def rIxA (K : PySem.W.Frag) : R2 := fun x y H Q => ∃ p xs i v, x = .ref p ∧ y = .int i ∧ Sq2 K H p xs ∧ atI xs i = some v ∧ Q v H
theorem ix_any {X : Cx} : IxR X (rIxA X.K) := by
  intro value slice pins s σ H x y v u Q I rx ry h hs
  obtain ⟨p, xs, i, z, e1, e2, hq, he, q⟩ := h
  rcases hq with hq | hq
  · exact ix_list value slice pins s σ H x y v u Q I rx ry ⟨p, xs, i, z, e1, e2, hq, he, q⟩ hs
  · exact ix_tup value slice pins s σ H x y v u Q I rx ry ⟨p, xs, i, z, e1, e2, hq, he, q⟩ hs
/-! ### built-ins over lists and tuples, their relations by name (within comprehensions they are given by hand) -/
def rLenA (K : PySem.W.Frag) : List V → Hp → VK → Prop := fun xs H Q => ∃ p ys, xs = [.ref p] ∧ (SqL K H p ys ∨ SqT K H p ys) ∧ Q (.int ys.length) H
theorem call_lenA {X : Cx} : CallR X (.builtin "len") (rLenA X.K) := call_len_seq
def rLstA (K : PySem.W.Frag) : List V → Hp → VK → Prop := fun xs H Q => ∃ p ys, xs = [.ref p] ∧ (SqL K H p ys ∨ SqT K H p ys) ∧ ∀ l, H l = none → Q (.ref l) (upd H l (.lst ys))
theorem call_listA {X : Cx} : CallR X (.type "list") (rLstA X.K) := call_list_of
def rTupA (K : PySem.W.Frag) : List V → Hp → VK → Prop := fun xs H Q => ∃ p ys, xs = [.ref p] ∧ ((SqL K H p ys ∧ ∀ l, H l = none → Q (.ref l) (upd H l (.tup ys))) ∨ SqT K H p ys ∧ Q (.ref p) H)
theorem call_tupleA {X : Cx} : CallR X (.type "tuple") (rTupA X.K) := call_tuple_of
/-- a comprehension, by an invariant over all that was made so far -/
theorem lc_acc {J : It} {n : Nat} {G : Hp → Prop} {Y : Nat → Hp → V → Hp → Prop} (w : Walk J n G Y) (Iv : Nat → List V → Hp → Prop) {g : TG} {t : TE} {vs : List Nat} {σ : L2.St} {H1 : Hp} {Qd : Addr → Hp → Prop} (hz : n < sizeLine)
    (h0 : Iv 0 [] H1) (hG : ∀ i F D acc, Iv i acc F → F D = none → G (upd F D (.lst acc)))
    (hs : ∀ i x D acc F H', i < n → H1 D = none → Iv i acc F → F D = none → Y i (upd F D (.lst acc)) x H' → ∀ B : L2.St → Hp → Prop, (∀ σ2 Fm, wipe σ2 vs = wipe σ vs → Fm D = none →
      (∀ Qt : VK, (∀ y F', Iv (i + 1) (acc ++ [y]) F' → Qt y F') → t σ2 Fm Qt) → B σ2 (upd Fm D (.lst acc))) → g x (wipe σ vs) H' B)
    (hd : ∀ D ys F, H1 D = none → Iv n ys F → F D = none → ys.length = n → Qd D (upd F D (.lst ys))) :
    ∀ D, H1 D = none → ∃ W : Nat → Nat → Hp → Prop, (∃ m, W 0 m (upd H1 D (.lst []))) ∧ ∀ i m H, W i m H →
      (J.stop i H ∧ Qd D H) ∨ (J.go i H ∧ ∃ Nx : Hp → Prop, (∀ H', Nx H' → ∃ m', m' < m ∧ W (i + 1) m' H') ∧ ∀ x H', J.yld i H x H' → g x (wipe σ vs) H' fun σ2 H2 => wipe σ2 vs = wipe σ vs ∧ tYes σ2 H2 fun b H3 =>
        if b = true then tHide t σ2 H3 fun y H4 => ∃ acc, H4 D = some (.lst acc) ∧ acc.length < sizeLine ∧ Nx (upd H4 D (.lst (acc ++ [y]))) else Nx H3) := by
  intro D nD
  refine lc_it w (fun i H => ∃ ys F, H = upd F D (.lst ys) ∧ F D = none ∧ Iv i ys F ∧ ys.length = i) ⟨[], H1, rfl, nD, h0, rfl⟩ ?_ ?_ ?_
  · rintro i H _ ⟨ys, F, rfl, nF, iv, _⟩
    exact hG i F D ys iv nF
  · rintro i x H H' hi ⟨ys, F, rfl, nF, iv, hl⟩ hy
    refine hs i x D ys F H' hi nD iv nF hy _ fun σ2 Fm hw nm ht => ⟨hw, ?_⟩
    unfold tYes; dsimp only
    rw [if_pos rfl]
    refine ⟨D, ys, upd_same, ?_⟩
    rw [delH_upd nm]
    exact ht _ fun y F' iv' nF' => ⟨ys, upd_same, by omega, ys ++ [y], F', upd_upd, nF', iv', by rw [List.length_append, hl]; rfl⟩
  · rintro H ⟨ys, F, rfl, nF, iv, hl⟩
    exact hd D ys F nD iv nF hl
/-! ### calls by keywords alone: one, two in their order or turned -/
def g1 : List α → List α → List α
  | [], [x] => [x]
  | _, _ => []
def g2 : List α → List α → List α
  | [], [x, y] => [y, x]
  | _, _ => []
section
variable {K : PySem.W.Frag}
theorem kb1 {x qual p : Str} {st : Stmt} {f : Addr} {fd : FuncData} (F : Fun K x qual st f fd)
    (h : ∀ (kV doc pm : Value) (an : Option Addr) (cdv ct v : Value), bindArgs (PySem.W.fnOf x qual (defArgs st) (defBody st) (defScope st) .none kV doc pm an cdv ct) ⟨[], [(p, v)]⟩ = pure [(p, v)]) : KBinds K fd [p] [p] g1 g1 := by
  obtain ⟨oc, od, kV, doc, pm, an, cdv, ct, osl, rfl, lk, hcd⟩ := F.ex
  refine ⟨fun s us ws _ hl => ?_, fun {vs us zs ws} r1 r2 => ?_⟩
  · match us, ws, hl with
    | [], [v], _ => exact .of_eq (h kV doc pm an cdv ct v)
  · cases r1 with
    | nil =>
      cases r2 with
      | nil => exact .nil
      | cons a r =>
        cases r with
        | nil => exact .cons a .nil
        | cons _ _ => exact .nil
    | cons _ _ => exact .nil
theorem kb2 {x qual p q : Str} {st : Stmt} {f : Addr} {fd : FuncData} (F : Fun K x qual st f fd)
    (h : ∀ (kV doc pm : Value) (an : Option Addr) (cdv ct v u : Value), bindArgs (PySem.W.fnOf x qual (defArgs st) (defBody st) (defScope st) .none kV doc pm an cdv ct) ⟨[], [(q, v), (p, u)]⟩ = pure [(p, u), (q, v)]) : KBinds K fd [p, q] [q, p] g2 g2 := by
  obtain ⟨oc, od, kV, doc, pm, an, cdv, ct, osl, rfl, lk, hcd⟩ := F.ex
  refine ⟨fun s us ws _ hl => ?_, fun {vs us zs ws} r1 r2 => ?_⟩
  · match us, ws, hl with
    | [], [v, u], _ => exact .of_eq (h kV doc pm an cdv ct v u)
  · cases r1 with
    | nil =>
      cases r2 with
      | nil => exact .nil
      | cons a r =>
        cases r with
        | nil => exact .nil
        | cons a2 r =>
          cases r with
          | nil => exact .cons a2 (.cons a .nil)
          | cons _ _ => exact .nil
    | cons _ _ => exact .nil
/-- three, turned -/
def g3r {α : Type} : List α → List α → List α
  | [], [x, y, z] => [z, y, x]
  | _, _ => []
theorem kb3r {x qual p q r : Str} {st : Stmt} {f : Addr} {fd : FuncData} (F : Fun K x qual st f fd)
    (h : ∀ (kV doc pm : Value) (an : Option Addr) (cdv ct v u z : Value), bindArgs (PySem.W.fnOf x qual (defArgs st) (defBody st) (defScope st) .none kV doc pm an cdv ct) ⟨[], [(r, v), (q, u), (p, z)]⟩ = pure [(p, z), (q, u), (r, v)]) : KBinds K fd [p, q, r] [r, q, p] g3r g3r := by
  obtain ⟨oc, od, kV, doc, pm, an, cdv, ct, osl, rfl, lk, hcd⟩ := F.ex
  refine ⟨fun s us ws _ hl => ?_, fun {vs us zs ws} r1 r2 => ?_⟩
  · match us, ws, hl with
    | [], [v, u, z], _ => exact .of_eq (h kV doc pm an cdv ct v u z)
  · cases r1 with
    | nil =>
      cases r2 with
      | nil => exact .nil
      | cons a r =>
        cases r with
        | nil => exact .nil
        | cons a2 r =>
          cases r with
          | nil => exact .nil
          | cons a3 r =>
            cases r with
            | nil => exact .cons a3 (.cons a2 (.cons a .nil))
            | cons _ _ => exact .nil
    | cons _ _ => exact .nil
end
end XL
namespace XL
open PySem PySem.Spec PyProof.Rows L2
/-! ### a comprehension over zip of two: both lists, or both tuples -/
theorem walk_zipT {K : PySem.W.Frag} {a b : Addr} {xs ys : List V} {n : Nat} (hn : n = min xs.length ys.length) : Walk (RZ.ItzT K a b) n (fun H => SqT K H a xs ∧ SqT K H b ys) (YPair (fun i => xs[i]?) (fun i => ys[i]?)) := by
  subst hn
  refine ⟨fun i _ hi q => ?_, fun _ q => ⟨xs, ys, q.1, q.2, by omega⟩, fun i H v H' _ q y => ?_⟩
  · have h1 : i < xs.length := by omega
    have h2 : i < ys.length := by omega
    exact ⟨xs, ys, xs[i], ys[i], q.1, q.2, by simp [h1], by simp [h2]⟩
  · obtain ⟨T, x, z, h1, h2, h3, h4, h5⟩ := y
    exact ⟨T, x, z, h1, h2, h3, h4 xs q.1, h5 ys q.2⟩
def iZ2 (K : PySem.W.Frag) (ta : TA) : TI := fun σ H R => ta σ H fun vs H1 => ∃ a b xs ys, vs = [.ref a, .ref b] ∧ ((SqL K H1 a xs ∧ SqL K H1 b ys) ∨ (SqT K H1 a xs ∧ SqT K H1 b ys)) ∧
  ∀ J, Walk J (min xs.length ys.length) (fun H => Same H1 H) (YPair (fun i => xs[i]?) (fun i => ys[i]?)) → R J H1
theorem pi_z2 {X : Cx} {e e2 : Expr} {ta : TA} {p pos tpos : Pos} {elts : List Expr} {kk : Nat} (hg : Gl X "zip") (hm : X.mg "zip" = none) (ha : PA X [e, e2] ta)
    (hs : starEach [e, e2] X.env = (false, eval e X.env) :: starEach [e2] X.env := by rfl) (hpl : (backTo pos (starEach [e2] X.env)).any (·.1) = false := by rfl) :
    PI X (.Tuple elts kk tpos) (.Call (.Name "zip" p) [e, e2] [] pos) (iZ2 X.K ta) := by
  refine ⟨fun pins s σ H R I h => ?_⟩
  refine Call_ (ld_blt I hg hm PyProof.Rows.boot_zip (PyProof.Rows.callWith_type1 (thn (ha.run pos pins s σ H _ I h) fun us s1 ⟨vs, H1, I1, r1, q1⟩ => ?_) hs hpl))
  obtain ⟨a, b, xs, ys, ex, q1, q⟩ := q1
  subst ex
  cases r1 with
  | cons r rr =>
    cases rr with
    | cons r' rr =>
      cases rr
      cases r
      cases r'
      have fresh5 : ∀ c, c ∈ [s1.heap.objs.size + 4, s1.heap.objs.size + 2, s1.heap.objs.size + 3, s1.heap.objs.size, s1.heap.objs.size + 1] → FpOk X pins H1 c := fun c hcm => by
        have e' : c = s1.heap.objs.size + 4 ∨ c = s1.heap.objs.size + 2 ∨ c = s1.heap.objs.size + 3 ∨ c = s1.heap.objs.size ∨ c = s1.heap.objs.size + 1 := by simpa using hcm
        have hle : s1.heap.objs.size ≤ c := by
          rcases e' with z | z | z | z | z
          · rw [z]; exact Nat.le_add_right _ _
          · rw [z]; exact Nat.le_add_right _ _
          · rw [z]; exact Nat.le_add_right _ _
          · rw [z]; exact Nat.le_refl _
          · rw [z]; exact Nat.le_add_right _ _
        exact I1.fpOk hle (I1.hok.fresh hle)
      rcases q1 with ⟨hqx, hqy⟩ | ⟨hqx, hqy⟩
      · obtain ⟨its, rv, p1, _⟩ := I1.list hqx
        obtain ⟨its2, rv2, p2, _⟩ := I1.list hqy
        refine call_zip_2 p1.isList p2.isList fun h' hz hTI hTO h1 h2 hsz hk => wpAny_pyIter_zip hz ?_
        have I2 : Inv X pins σ H1 { s1 with heap := h' } := I1.kept (t' := s1.toks) hk
        exact ⟨s1.heap.objs.size + 4, [s1.heap.objs.size + 4, s1.heap.objs.size + 2, s1.heap.objs.size + 3, s1.heap.objs.size, s1.heap.objs.size + 1], _, _, H1, rfl, I2, turn_zip (PySem.W.ktu_apart s1.heap.objs.size a b p1.lt p2.lt), ⟨hz, hTI, ⟨_, _, hTO⟩, h1, h2⟩, fresh5, q _ ((walk_zip rfl).mono (fun H s => ⟨s.seq hqx, s.seq hqy⟩) fun _ _ _ _ _ _ y => y)⟩
      · obtain ⟨its, rv, p1, _⟩ := I1.tuple hqx
        obtain ⟨its2, rv2, p2, _⟩ := I1.tuple hqy
        obtain ⟨o1, ho1, _⟩ := id p1
        obtain ⟨o2, ho2, _⟩ := id p2
        refine RZ.call_zipT (show s1.heap.IsTuple a its.toArray from p1) (show s1.heap.IsTuple b its2.toArray from p2) fun h' hz hTI hTO h1 h2 hsz hk => wpAny_pyIter_zip hz ?_
        have I2 : Inv X pins σ H1 { s1 with heap := h' } := I1.kept (t' := s1.toks) hk
        exact ⟨s1.heap.objs.size + 4, [s1.heap.objs.size + 4, s1.heap.objs.size + 2, s1.heap.objs.size + 3, s1.heap.objs.size, s1.heap.objs.size + 1], _, _, H1, rfl, I2, RZ.turn_zipT (PySem.W.ktu_apart s1.heap.objs.size a b (Heap.lt_size ho1) (Heap.lt_size ho2)), ⟨hz, hTI, ⟨_, _, hTO⟩, h1, h2⟩, fresh5, q _ ((walk_zipT rfl).mono (fun H s => ⟨Same.tup s hqx, Same.tup s hqy⟩) fun _ _ _ _ _ _ y => y)⟩
/-! ### zip of three lists -/
def YTrip (xs ys zs : Nat → Option V) : Nat → Hp → V → Hp → Prop := fun i H v H' => ∃ T x y z, v = .ref T ∧ H T = none ∧ H' = upd H T (.tup [x, y, z]) ∧ xs i = some x ∧ ys i = some y ∧ zs i = some z
def Itz3 (K : PySem.W.Frag) (a b c : Addr) : It :=
  ⟨fun i H => ∃ (xs ys zs : List V) (x y z : V), SqL K H a xs ∧ SqL K H b ys ∧ SqL K H c zs ∧ xs[i]? = some x ∧ ys[i]? = some y ∧ zs[i]? = some z,
    fun i H v H' => ∃ T x y z, v = .ref T ∧ H T = none ∧ H' = upd H T (.tup [x, y, z]) ∧ (∀ xs, SqL K H a xs → xs[i]? = some x) ∧ (∀ ys, SqL K H b ys → ys[i]? = some y) ∧ ∀ zs, SqL K H c zs → zs[i]? = some z,
    fun i H => ∃ xs ys zs : List V, SqL K H a xs ∧ SqL K H b ys ∧ SqL K H c zs ∧ i ≤ xs.length ∧ i ≤ ys.length ∧ i ≤ zs.length ∧ (i = xs.length ∨ i = ys.length ∨ i = zs.length)⟩
theorem turn_zip3 {P : Program} {w : World} {K : PySem.W.Frag} {elts : List Expr} {kk : Nat} {tpos : Pos} {a b c z TI TO i1 i2 i3 : Addr} (S : ZipSep3 z TI TO i1 i2 i3 [i1, a] [i2, b] [i3, c]) (na : a ≠ i1) (nb : b ≠ i2) (nc : c ≠ i3) :
    Turn P w K (.Tuple elts kk tpos) (Itz3 K a b c) [z, TI, TO, i1, i2, i3] z (fun i h => IsZip h z TI TO .none ∧ IsTupOf3 h TI (.ref i1) (.ref i2) (.ref i3) ∧ (∃ x y u, IsTupOf3 h TO x y u) ∧ h.IsListIter i1 a i ∧ h.IsListIter i2 b i ∧ h.IsListIter i3 c i) where
  mem := by simp
  obj := fun i h st c hc => by
    obtain ⟨hz, hTI, ⟨x, y, u, hTO⟩, ⟨o1, e1, _, d1⟩, ⟨o2, e2, _, d2⟩, ⟨o3, e3, _, d3⟩⟩ := st
    have e' : c = z ∨ c = TI ∨ c = TO ∨ c = i1 ∨ c = i2 ∨ c = i3 := by simpa using hc
    rcases e' with q | q | q | q | q | q
    · rw [q]; exact ⟨_, hz, fun v q => nomatch q⟩
    · rw [q]; exact ⟨_, hTI, fun v q => nomatch q⟩
    · rw [q]; exact ⟨_, hTO, fun v q => nomatch q⟩
    · rw [q]; exact ⟨o1, e1, fun v q => by rw [d1] at q; cases q⟩
    · rw [q]; exact ⟨o2, e2, fun v q => by rw [d2] at q; cases q⟩
    · rw [q]; exact ⟨o3, e3, fun v q => by rw [d3] at q; cases q⟩
  keep := fun i h h' st k => by
    obtain ⟨hz, hTI, ⟨x, y, u, hTO⟩, h1, h2, h3⟩ := st
    exact ⟨k z (by simp) _ hz, k TI (by simp) _ hTI, ⟨x, y, u, k TO (by simp) _ hTO⟩, h1.at fun o q => k i1 (by simp) o q, h2.at fun o q => k i2 (by simp) o q, h3.at fun o q => k i3 (by simp) o q⟩
  item := by
    intro X hP hw hK hc i pins s σ H E I hf st hg
    subst hP hw hK
    obtain ⟨hz, hTI, ⟨x0, y0, u0, hTO⟩, h1, h2, h3⟩ := st
    obtain ⟨xs, ys, zs, x, y, z', hqx, hqy, hqz, hx, hy, hzz⟩ := hg
    obtain ⟨its, rv, p, _⟩ := I.list hqx
    obtain ⟨its2, rv2, p2, _⟩ := I.list hqy
    obtain ⟨its3, rv3, p3, _⟩ := I.list hqz
    obtain ⟨u, hu, ru⟩ := rv.get hx
    obtain ⟨u2, hu2, ru2⟩ := rv2.get hy
    obtain ⟨u3, hu3, ru3⟩ := rv3.get hzz
    have hzl : z < s.heap.objs.size := Heap.lt_size hz
    have lt : ∀ {l : List Value} {v : Value}, l[i]? = some v → i < l.toArray.size := fun {l v} e => by rw [List.size_toArray]; exact (List.getElem?_eq_some_iff.mp e).1
    refine wpAny_pyNext_zipD3_item S (Draws.list (A := X.A.in1) (I.ok.hd hc) i1 a na its.toArray) (Draws.list (A := X.A.in1) (I.ok.hd hc) i2 b nb its2.toArray) (Draws.list (A := X.A.in1) (I.ok.hd hc) i3 c nc its3.toArray) hz hTI hTO ⟨h1, p.isList⟩ ⟨h2, p2.isList⟩ ⟨h3, p3.isList⟩ (lt hu) (lt hu2) (lt hu3) fun v1 v2 v3 h' tk y1 y2 y3 zh TO' d1 d2 d3 hT hsz hk => ?_
    have ev : ∀ {l : List Value} {v v' : Value}, l.toArray[i]? = some v' → l[i]? = some v → v' = v := fun {l v v'} e1 e2 => by
      rw [List.getElem?_toArray, e2] at e1; exact (Option.some.inj e1).symm
    obtain rfl := ev y1 hu
    obtain rfl := ev y2 hu2
    obtain rfl := ev y3 hu3
    refine ⟨_, rfl, wpAny_letOwnedTupleGo_zip (s := { s with heap := h', toks := tk }) zh fun h'' z'' sb => ?_⟩
    have hT2 : h''.get? s.heap.objs.size = some { cls := .type "tuple", data := .seq #[v1, v2, v3] } := (sb.2 _ (Nat.ne_of_gt hzl)).trans hT
    have new : ObjOk X.prog X.w (upd H s.heap.objs.size (.tup [x, y, z'])) h'' s.heap.objs.size (.tup [x, y, z']) :=
      ⟨by show 3 ≤ sizeLine; decide, [v1, v2, v3], .cons ru (.cons ru2 (.cons ru3 .nil)), ⟨_, hT2, rfl, _, rfl⟩⟩
    have I1 : Inv X pins σ (upd H s.heap.objs.size (.tup [x, y, z'])) { s with heap := h'', toks := tk } :=
      I.turnedNew (ch := [z, TI, TO, i1, i2, i3]) (fun c o hb q => (sb.2 c (fun q' => hb (by simp [q']))).trans (hk c o (fun q' => hb (by simp [q'])) (fun q' => hb (by simp [q'])) (fun q' => hb (by simp [q'])) (fun q' => hb (by simp [q'])) (fun q' => hb (by simp [q'])) q)) hf (Nat.le_refl _) new
    refine ⟨.ref s.heap.objs.size, _, I1, rfl, ⟨_, x, y, z', rfl, I.hok.fresh (Nat.le_refl _), rfl, fun l hl => by rw [I.list_inj hl hqx]; exact hx, fun l hl => by rw [I.list_inj hl hqy]; exact hy, fun l hl => by rw [I.list_inj hl hqz]; exact hzz⟩, ⟨z'', ?_, ⟨v1, v2, v3, ?_⟩, ?_, ?_, ?_⟩, fun c hcm => ?_⟩
    · exact (sb.2 _ S.TIz).trans (hk _ _ S.TIz S.TITO S.TIi1 S.TIi2 S.TIi3 hTI)
    · exact (sb.2 _ S.TOz).trans TO'
    · exact d1.1.at fun o q => (sb.2 _ (Ne.symm S.zi1)).trans q
    · exact d2.1.at fun o q => (sb.2 _ (Ne.symm S.zi2)).trans q
    · exact d3.1.at fun o q => (sb.2 _ (Ne.symm S.zi3)).trans q
    · have hlt : c < s.heap.objs.size := by
        have e' : c = z ∨ c = TI ∨ c = TO ∨ c = i1 ∨ c = i2 ∨ c = i3 := by simpa using hcm
        rcases e' with q | q | q | q | q | q
        · rw [q]; exact hzl
        · rw [q]; exact Heap.lt_size hTI
        · rw [q]; exact Heap.lt_size hTO
        · rw [q]; obtain ⟨_, e1, _⟩ := h1; exact Heap.lt_size e1
        · rw [q]; obtain ⟨_, e2, _⟩ := h2; exact Heap.lt_size e2
        · rw [q]; obtain ⟨_, e3, _⟩ := h3; exact Heap.lt_size e3
      rw [upd_ne (Nat.ne_of_lt hlt)]
      exact (hf c hcm).1
  done := by
    intro X hP hw hK hc i pins s σ H E I hf st hg
    subst hP hw hK
    obtain ⟨hz, hTI, ⟨x0, y0, u0, hTO⟩, h1, h2, h3⟩ := st
    obtain ⟨xs, ys, zs, hqx, hqy, hqz, e1, e2, e3, hend⟩ := hg
    obtain ⟨its, rv, p, _⟩ := I.list hqx
    obtain ⟨its2, rv2, p2, _⟩ := I.list hqy
    obtain ⟨its3, rv3, p3, _⟩ := I.list hqz
    have l1 := rv.length
    have l2 := rv2.length
    have l3 := rv3.length
    exact wpAny_pyNext_zipD3_end S (Draws.list (A := X.A.in1) (I.ok.hd hc) i1 a na its.toArray) (Draws.list (A := X.A.in1) (I.ok.hd hc) i2 b nb its2.toArray) (Draws.list (A := X.A.in1) (I.ok.hd hc) i3 c nc its3.toArray) hz hTI hTO ⟨h1, p.isList⟩ ⟨h2, p2.isList⟩ ⟨h3, p3.isList⟩ (by rw [List.size_toArray]; omega) (by rw [List.size_toArray]; omega) (by rw [List.size_toArray]; omega) (by rw [List.size_toArray, List.size_toArray, List.size_toArray]; omega)
      fun h' tk hk => ⟨rfl, I.turnedL (t' := tk) (ch := [z, TI, TO, i1, i2, i3]) (fun c o hb q =>
      hk c o (fun q' => hb (by simp [q'])) (fun q' => hb (by simp [q'])) (fun q' => hb (by simp [q'])) (fun q' => hb (by simp [q'])) (fun q' => hb (by simp [q'])) q) hf⟩
  self := fun A i s Q E st h => wpAny_pyIter_zip st.1 h
theorem walk_zip3 {K : PySem.W.Frag} {a b c : Addr} {xs ys zs : List V} {n : Nat} (hn : n = min (min xs.length ys.length) zs.length) : Walk (Itz3 K a b c) n (fun H => SqL K H a xs ∧ SqL K H b ys ∧ SqL K H c zs) (YTrip (fun i => xs[i]?) (fun i => ys[i]?) (fun i => zs[i]?)) := by
  subst hn
  refine ⟨fun i _ hi q => ?_, fun _ q => ⟨xs, ys, zs, q.1, q.2.1, q.2.2, by omega, by omega, by omega, by omega⟩, fun i H v H' _ q y => ?_⟩
  · have h1 : i < xs.length := by omega
    have h2 : i < ys.length := by omega
    have h3 : i < zs.length := by omega
    exact ⟨xs, ys, zs, xs[i], ys[i], zs[i], q.1, q.2.1, q.2.2, by simp [h1], by simp [h2], by simp [h3]⟩
  · obtain ⟨T, x, y, z, h1, h2, h3, h4, h5, h6⟩ := y
    exact ⟨T, x, y, z, h1, h2, h3, h4 xs q.1, h5 ys q.2.1, h6 zs q.2.2⟩
def iZ3 (K : PySem.W.Frag) (ta : TA) : TI := fun σ H R => ta σ H fun vs H1 => ∃ a b c xs ys zs, vs = [.ref a, .ref b, .ref c] ∧ SqL K H1 a xs ∧ SqL K H1 b ys ∧ SqL K H1 c zs ∧
  ∀ J, Walk J (min (min xs.length ys.length) zs.length) (fun H => Same H1 H) (YTrip (fun i => xs[i]?) (fun i => ys[i]?) (fun i => zs[i]?)) → R J H1
theorem pi_z3 {X : Cx} {e e2 e3 : Expr} {ta : TA} {p pos tpos : Pos} {elts : List Expr} {kk : Nat} (hg : Gl X "zip") (hm : X.mg "zip" = none) (ha : PA X [e, e2, e3] ta)
    (hs : starEach [e, e2, e3] X.env = (false, eval e X.env) :: starEach [e2, e3] X.env := by rfl) (hpl : (backTo pos (starEach [e2, e3] X.env)).any (·.1) = false := by rfl) :
    PI X (.Tuple elts kk tpos) (.Call (.Name "zip" p) [e, e2, e3] [] pos) (iZ3 X.K ta) := by
  refine ⟨fun pins s σ H R I h => ?_⟩
  refine Call_ (ld_blt I hg hm PyProof.Rows.boot_zip (PyProof.Rows.callWith_type1 (thn (ha.run pos pins s σ H _ I h) fun us s1 ⟨vs, H1, I1, r1, q1⟩ => ?_) hs hpl))
  obtain ⟨a, b, c, xs, ys, zs, ex, hqx, hqy, hqz, q⟩ := q1
  subst ex
  cases r1 with
  | cons r rr =>
    cases rr with
    | cons r' rr =>
      cases rr with
      | cons r'' rr =>
        cases rr
        cases r
        cases r'
        cases r''
        obtain ⟨its, rv, p1, _⟩ := I1.list hqx
        obtain ⟨its2, rv2, p2, _⟩ := I1.list hqy
        obtain ⟨its3, rv3, p3, _⟩ := I1.list hqz
        have la : a < s1.heap.objs.size := p1.lt
        have lb : b < s1.heap.objs.size := p2.lt
        have lc : c < s1.heap.objs.size := p3.lt
        have S := zip_sep3 (N := s1.heap.objs.size) (fp1 := [a]) (fp2 := [b]) (fp3 := [c]) (fun x hx => by rw [List.mem_singleton.mp hx]; exact la) (fun x hx => by rw [List.mem_singleton.mp hx]; exact lb) (fun x hx => by rw [List.mem_singleton.mp hx]; exact lc)
        refine zip_begins3 (begins_list a its.toArray) (begins_list b its2.toArray) (begins_list c its3.toArray) p1.isList p2.isList p3.isList fun h' hz hTI hTO h1 h2 h3 hsz hk => wpAny_pyIter_zip hz ?_
        have I2 : Inv X pins σ H1 { s1 with heap := h' } := I1.kept (t' := s1.toks) hk
        refine ⟨s1.heap.objs.size + 5, [s1.heap.objs.size + 5, s1.heap.objs.size + 3, s1.heap.objs.size + 4, s1.heap.objs.size, s1.heap.objs.size + 1, s1.heap.objs.size + 2], _, _, H1, rfl, I2, turn_zip3 S (Nat.ne_of_lt la) (Nat.ne_of_lt (Nat.lt_succ_of_lt lb)) (Nat.ne_of_lt (Nat.lt_succ_of_lt (Nat.lt_succ_of_lt lc))), ⟨hz, hTI, ⟨_, _, _, hTO⟩, ⟨_, h1, rfl, rfl⟩, ⟨_, h2, rfl, rfl⟩, ⟨_, h3, rfl, rfl⟩⟩, fun x hcm => ?_, q _ ((walk_zip3 rfl).mono (fun H s => ⟨s.seq hqx, s.seq hqy, s.seq hqz⟩) fun _ _ _ _ _ _ y => y)⟩
        have e' : x = s1.heap.objs.size + 5 ∨ x = s1.heap.objs.size + 3 ∨ x = s1.heap.objs.size + 4 ∨ x = s1.heap.objs.size ∨ x = s1.heap.objs.size + 1 ∨ x = s1.heap.objs.size + 2 := by simpa using hcm
        have hle : s1.heap.objs.size ≤ x := by
          rcases e' with z | z | z | z | z | z
          · rw [z]; exact Nat.le_add_right _ _
          · rw [z]; exact Nat.le_add_right _ _
          · rw [z]; exact Nat.le_add_right _ _
          · rw [z]; exact Nat.le_refl _
          · rw [z]; exact Nat.le_add_right _ _
          · rw [z]; exact Nat.le_add_right _ _
        exact I1.fpOk hle (I1.hok.fresh hle)
end XL
namespace XL
open PySem PySem.Spec PyProof.Rows L2
abbrev sSame : Stmt := topS 28
theorem boot_all : bootBuiltins "all" = some (.builtin "all") := by decide +kernel
theorem boot_bool' : bootBuiltins "bool" = some (.type "bool") := by decide +kernel
theorem boot_str' : bootBuiltins "str" = some (.type "str") := by decide +kernel
theorem boot_int' : bootBuiltins "int" = some (.type "int") := by decide +kernel
section
variable {P : Program} {w : World} {K : PySem.W.Frag} {mg : Str → Option Value} {base : Heap}
def isBS : PyData → Bool
  | .bool _ => true
  | .str _ => true
  | _ => false
def isB : PyData → Bool
  | .bool _ => true
  | _ => false
theorem kitf {a b : String} (h : kitB a b = some false) : PySem.W.kitOne K (.type a) (.type b) = some false := kit_ty h
theorem kitt {a b : String} (h : kitB a b = some true) : PySem.W.kitOne K (.type a) (.type b) = some true := kit_ty h
theorem kit_list (d : PyData) : ∃ b, PySem.W.kitOne K (tyD d) (.type "list") = some b := by cases d <;> first | exact ⟨false, kitf (by decide +kernel)⟩ | exact ⟨true, kitt (by decide +kernel)⟩
theorem kit_tuple (d : PyData) : ∃ b, PySem.W.kitOne K (tyD d) (.type "tuple") = some b := by cases d <;> first | exact ⟨false, kitf (by decide +kernel)⟩ | exact ⟨true, kitt (by decide +kernel)⟩
theorem kit_bool (d : PyData) : PySem.W.kitOne K (tyD d) (.type "bool") = some (isB d) := by cases d <;> first | exact kitf (by decide +kernel) | exact kitt (by decide +kernel)
theorem kit_int (i : Int) : PySem.W.kitOne K (tyD (.int i)) (.type "int") = some true := kitt (by decide +kernel)
theorem bs_kit (d : PyData) : PySem.W.kitAny K (tyD d) [.type "bool", .type "str"] = some (isBS d) := by
  cases d with
  | none => exact kit2 (a := false) (b := false) (by decide +kernel) (by decide +kernel)
  | bool b => exact kit2 (a := true) (b := false) (by decide +kernel) (by decide +kernel)
  | int i => exact kit2 (a := false) (b := false) (by decide +kernel) (by decide +kernel)
  | str x => exact kit2 (a := false) (b := true) (by decide +kernel) (by decide +kernel)
  | list ds => exact kit2 (a := false) (b := false) (by decide +kernel) (by decide +kernel)
  | tuple ds => exact kit2 (a := false) (b := false) (by decide +kernel) (by decide +kernel)
  | dict kvs => exact kit2 (a := false) (b := false) (by decide +kernel) (by decide +kernel)
theorem all_true : ∀ n : Nat, (List.replicate n true).all id = true
  | 0 => rfl
  | n + 1 => by rw [List.replicate_succ, List.all_cons, all_true n]; rfl
theorem eq_true_map : ∀ (ys : List V), (∀ (i : Nat) y, ys[i]? = some y → y = .bl true) → ys = (List.replicate ys.length true).map V.bl
  | [], _ => rfl
  | y :: ys, h => by
    have h0 := h 0 y rfl
    have r := eq_true_map ys fun i z e => h (i + 1) z (by simpa using e)
    rw [List.length_cons, List.replicate_succ, List.map_cons, ← r, h0]
theorem seq2_of {H : Hp} {v u : V} {d : PyData} (hv : Dp K H v d) (hu : Dp K H u d) (h : isSeq d = true) : ∃ a xs a2 xs2, v = .ref a ∧ u = .ref a2 ∧ ((SqL K H a xs ∧ SqL K H a2 xs2) ∨ (SqT K H a xs ∧ SqT K H a2 xs2)) ∧ DpAll K H xs (itemsD d) ∧ DpAll K H xs2 (itemsD d) := by
  cases d with
  | list ds => cases hv with
    | lst h1 h2 => cases hu with
      | lst h3 h4 => exact ⟨_, _, _, _, rfl, rfl, .inl ⟨h1, h3⟩, h2, h4⟩
  | tuple ds => cases hv with
    | tup h1 h2 => cases hu with
      | tup h3 h4 => exact ⟨_, _, _, _, rfl, rfl, .inr ⟨h1, h3⟩, h2, h4⟩
  | none => simp [isSeq] at h
  | bool b => simp [isSeq] at h
  | int b => simp [isSeq] at h
  | str b => simp [isSeq] at h
  | dict b => simp [isSeq] at h
theorem scSame : FnScope ["_law_found", "_law_due", "_law_mine", "_law_its"] ["_law_found", "_law_due"] (defScope sSame) := ⟨rfl, rfl, rfl, by decide +kernel, rfl, by decide +kernel, by decide +kernel⟩
def spSame (K : PySem.W.Frag) (n : Nat) : Sp := fun vs H Q _ => ∃ (v u : V) (d : PyData), vs = [v, u] ∧ Dp K H v d ∧ Dp K H u d ∧ okD n d ∧ ∀ H' : Hp, Same H H' → Q (.bl true) H'
theorem ok_same {f : Addr} {fd : FuncData} (F : Fun K "_law_same" "_law_same" sSame f fd) (b : Binds K fd ["_law_found", "_law_due"] []) (gF : mg "_law_same" = some (.ref f)) (mi : mg "isinstance" = none) (ml : mg "list" = none) (mt : mg "tuple" = none)
    (mz : mg "zip" = none) (me : mg "len" = none) (ma : mg "all" = none) (mb : mg "bool" = none) (ms : mg "str" = none) (mn : mg "int" = none) :
    ∀ n : Nat, FnOk P w K mg base CX0 n f fd ["_law_found", "_law_due"] (spSame K n)
  | 0 => no_fn fun vs H Q E ⟨v, u, d, _, _, _, h, _⟩ => h
  | n + 1 => by
    have G := ok_same F b gF mi ml mt mz me ma mb ms mn n
    refine F.ok scSame (fun vs H Q E h => ?_) (fun cdv A outer s H vs Q E hr h => ?_)
    · obtain ⟨v, u, d, rfl, _⟩ := h
      rfl
    obtain ⟨v, u, d, rfl, hv, hu, ok, q⟩ := h
    refine ⟨_, pss_cons (ps_if (pt_val (pe_callB call_isiT rfl mi boot_isinstance (pa_cons (pv 1) (pa_cons (pe_tup (pa_cons (pe_bltn (v := .ty "list") rfl ml boot_list rfl) (pa_cons (pe_bltn (v := .ty "tuple") rfl mt boot_tuple rfl) pa_nil))) pa_nil))))
        (pss_cons (ps_if (PW.pt (pw_or (pt_cmpR op_ne (pe_callB call_isi rfl mi boot_isinstance (pa_cons (pv 0) (pa_cons (pe_bltn (v := .ty "list") rfl ml boot_list rfl) pa_nil))) (pe_callB call_isi rfl mi boot_isinstance (pa_cons (pv 1) (pa_cons (pe_bltn (v := .ty "list") rfl ml boot_list rfl) pa_nil))) (nomark _))
              (pw_or1 (pt_cmpR op_ne (pe_callB call_isi rfl mi boot_isinstance (pa_cons (pv 0) (pa_cons (pe_bltn (v := .ty "tuple") rfl mt boot_tuple rfl) pa_nil))) (pe_callB call_isi rfl mi boot_isinstance (pa_cons (pv 1) (pa_cons (pe_bltn (v := .ty "tuple") rfl mt boot_tuple rfl) pa_nil))) (nomark _)))))
            (pss_one (ps_ret pe_bl)) pss_nil)
        (pss_cons (ps_if (pt_cmpR op_ne (pe_callB call_len_seq rfl me PySem.boot_len (pa_cons (pv 0) pa_nil)) (pe_callB call_len_seq rfl me PySem.boot_len (pa_cons (pv 1) pa_nil)) (nomark _)) (pss_one (ps_ret pe_bl)) pss_nil)
        (pss_one (ps_ret (pe_callB (cr_all rfl) rfl ma boot_all (pa_cons (pe_lc (own := [("_law_mine", 2), ("_law_its", 3)]) (g := gAny K 2 (gCons (gName 2) (gCons (gName 3) gNil))) (tt := tYes) rfl scSame.nd (pi_z2 rfl mz (pa_cons (pv 0) (pa_cons (pv 1) pa_nil)))
            (blkOk_by (own := [("_law_mine", 2), ("_law_its", 3)]) (N := ["_law_found", "_law_due", "_law_mine", "_law_its"]) (sc := defScope sSame) (by decide +kernel))
            (fun _ _ _ _ _ => pg_any rfl (pgs_cons (pg_name (i := 2) scSame.nd rfl (Or.inl rfl)) (pgs_cons (pg_name (i := 3) scSame.nd rfl (Or.inl rfl)) pgs_nil))) (fun _ _ _ _ _ => pts_nil)
            (fun _ _ _ _ _ => pe_hide (pe_call G hr rfl gF F.kp b .nil pass0 (pa_cons (pv 2) (pa_cons (pv 3) pa_nil))))) pa_nil)))))) pss_nil)
      (pss_cons (ps_if (PW.pt (pw_or (pt_cmpR op_isN (pv 1) pe_non (nomark _)) (pw_or1 (pt_val (pe_callB call_isiT rfl mi boot_isinstance (pa_cons (pv 1) (pa_cons (pe_tup (pa_cons (pe_bltn (v := .ty "bool") rfl mb boot_bool' rfl) (pa_cons (pe_bltn (v := .ty "str") rfl ms boot_str' rfl) pa_nil))) pa_nil)))))))
          (pss_cons (ps_if (pt_cmpR op_ne (pe_callB call_isi rfl mi boot_isinstance (pa_cons (pv 0) (pa_cons (pe_bltn (v := .ty "bool") rfl mb boot_bool' rfl) pa_nil))) (pe_callB call_isi rfl mi boot_isinstance (pa_cons (pv 1) (pa_cons (pe_bltn (v := .ty "bool") rfl mb boot_bool' rfl) pa_nil))) (nomark _)) (pss_one (ps_ret pe_bl)) pss_nil)
            (pss_one (ps_ret (pe_and (pe_cmpR op_eq (pe_cmpR op_isN (pv 0) pe_non (nomark _)) (pe_cmpR op_isN (pv 1) pe_non (nomark _)) (nomark _)) (pe_one (pe_cmpR op_eq (pv 0) (pv 1) (nomark _))))))) pss_nil)
      (pss_one (ps_ret (pe_and (pe_callB call_isi rfl mi boot_isinstance (pa_cons (pv 0) (pa_cons (pe_bltn (v := .ty "int") rfl mn boot_int' rfl) pa_nil)))
        (pe_and (pe_not (pe_callB call_isi rfl mi boot_isinstance (pa_cons (pv 0) (pa_cons (pe_bltn (v := .ty "bool") rfl mb boot_bool' rfl) pa_nil)))) (pe_one (pe_cmpR op_eq (pv 0) (pv 1) (nomark _)))))))), ?_⟩
    refine ⟨_, rfl, (by show 2 ≤ sizeLine; decide), fun tp np => ?_⟩
    have s1 : Same H (upd H tp (.tup [.ty "list", .ty "tuple"])) := same_new np
    have hv1 := Dp.same s1 d hv
    have hu1 := Dp.same s1 d hu
    refine ⟨u, tp, _, tyD d, _, isSeq d, rfl, upd_same, .cons (.ty _) (.cons (.ty _) .nil), tyx_of hu1, seq_kit d (Dp.nodict hu), isSeq d, rfl, ?_⟩
    obtain ⟨kl, ekl⟩ := kit_list (K := K) d
    obtain ⟨kt, ekt⟩ := kit_tuple (K := K) d
    cases hsq : isSeq d with
    | true =>
      refine iteT ?_
      obtain ⟨a, xs, a2, xs2, rfl, rfl, hss, hall, hall2⟩ := seq2_of hv hu hsq
      have hs : Sq2 K H a xs := hss.imp (fun z => z.1) (fun z => z.1)
      have hs2 : Sq2 K H a2 xs2 := hss.imp (fun z => z.2) (fun z => z.2)
      obtain ⟨hok, hlen⟩ := okD_items ok hsq
      have hx1 : xs.length = (itemsD d).length := DpAll.length hall
      have hx2 : xs2.length = (itemsD d).length := DpAll.length hall2
      -- the kinds are alike
      refine ⟨_, rfl, _, _, _, _, kl, rfl, .ty _, tyx_of hv1, ekl, _, rfl, _, _, _, _, kl, rfl, .ty _, tyx_of hu1, ekl, rfl, _, rfl, iteNS rfl ?_⟩
      refine ⟨_, rfl, _, _, _, _, kt, rfl, .ty _, tyx_of hv1, ekt, _, rfl, _, _, _, _, kt, rfl, .ty _, tyx_of hu1, ekt, rfl, _, rfl, iteNS rfl ?_⟩
      -- the lengths are alike
      refine ⟨_, rfl, a, xs, rfl, Same.sq2 s1 hs, _, rfl, a2, xs2, rfl, Same.sq2 s1 hs2, rfl, _, rfl, iteNS (by rw [hx1, hx2]) ?_⟩
      have hn : min xs.length xs2.length = (itemsD d).length := by rw [hx1, hx2, Nat.min_self]
      refine ⟨_, rfl, _, rfl, a, a2, xs, xs2, rfl, hss.imp (fun z => ⟨s1.seq z.1, s1.seq z.2⟩) (fun z => ⟨Same.tup s1 z.1, Same.tup s1 z.2⟩), fun J wk => lc_map wk Same (fun a b => a.trans b) (fun i y F => y = .bl true) (fun i y A B s p => p) (by rw [hn]; exact small1000 hlen) (Same.refl _) (fun F D acc sF nF => sF.trans (same_new nF)) (fun i x D acc F H' hi nD sF nF hy B hB => ?_) (fun D ys F nD sF nF hl hR => ?_)⟩
      · obtain ⟨T, x1, y1, rfl, nT, rfl, e1, e2⟩ := hy
        have hTD : T ≠ D := fun z => by rw [z, upd_same] at nT; cases nT
        rw [upd_ne hTD] at nT
        obtain ⟨d1, ed1, p1⟩ := DpAll.get hall e1
        obtain ⟨d2, ed2, p2⟩ := DpAll.get hall2 e2
        rw [ed1] at ed2
        cases ed2
        rw [upd_comm hTD]
        have sT : Same F (upd F T (.tup [x1, y1])) := same_new nT
        refine ⟨T, [x1, y1], rfl, .inr (.inl (.inl (by rw [upd_ne hTD, upd_same]))), rfl, x1, [y1], rfl, y1, [], rfl, rfl, ?_⟩
        refine hB _ (upd F T (.tup [x1, y1])) rfl (by rw [upd_ne (Ne.symm hTD)]; exact nF) fun Qt hq => ?_
        exact ⟨x1, rfl, y1, rfl, x1, y1, d1, rfl, Dp.same ((s1.trans sF).trans sT) _ p1, Dp.same ((s1.trans sF).trans sT) _ p2, hok _ (List.mem_of_getElem? ed1), fun H' s' => hq _ _ (sT.trans s') rfl⟩
      · refine ⟨D, List.replicate ys.length true, rfl, ?_, ?_⟩
        · rw [← eq_true_map ys hR]; exact SqL.of upd_same
        · rw [all_true]
          exact q _ (s1.trans (sF.trans (same_new nF)))
    | false =>
      refine iteF ?_
      have fin : ∀ H', Same H H' → Q (.bl true) H' := q
      cases d with
      | list ds => simp [isSeq] at hsq
      | tuple ds => simp [isSeq] at hsq
      | dict kvs => cases hv
      | none =>
        cases hv; cases hu
        refine ⟨_, rfl, rfl, _, rfl, iteT (iteT ?_)⟩
        refine ⟨_, rfl, _, _, _, _, _, rfl, .ty _, tyx_of hv1, kit_bool .none, _, rfl, _, _, _, _, _, rfl, .ty _, tyx_of hu1, kit_bool .none, rfl, _, rfl, iteNS rfl ?_⟩
        refine ⟨_, rfl, rfl, _, rfl, rfl, rfl, _, rfl, iteT ?_⟩
        refine ⟨_, rfl, _, rfl, rfl, ?_⟩
        exact fin _ s1
      | bool b0 =>
        cases hv; cases hu
        refine ⟨_, rfl, rfl, _, rfl, iteF ?_⟩
        refine ⟨_, rfl, (by show 2 ≤ sizeLine; decide), fun tq nq => ?_⟩
        have s2 : Same H (upd (upd H tp (.tup [.ty "list", .ty "tuple"])) tq (.tup [.ty "bool", .ty "str"])) := s1.trans (same_new nq)
        refine ⟨_, tq, _, _, _, _, rfl, upd_same, .cons (.ty _) (.cons (.ty _) .nil), tyx_of (Dp.bl b0), bs_kit (.bool b0), _, rfl, iteT ?_⟩
        refine ⟨_, rfl, _, _, _, _, _, rfl, .ty _, tyx_of (Dp.bl b0), kit_bool (.bool b0), _, rfl, _, _, _, _, _, rfl, .ty _, tyx_of (Dp.bl b0), kit_bool (.bool b0), rfl, _, rfl, iteNS rfl ?_⟩
        refine ⟨_, rfl, rfl, _, rfl, rfl, rfl, _, rfl, iteT ?_⟩
        refine ⟨_, rfl, _, rfl, rfl, ?_⟩
        have e : decide (V.bl b0 = V.bl b0) = true := decide_eq_true rfl
        have e2 := fin _ s2
        rw [← e] at e2
        exact e2
      | str x0 =>
        cases hv; cases hu
        refine ⟨_, rfl, rfl, _, rfl, iteF ?_⟩
        refine ⟨_, rfl, (by show 2 ≤ sizeLine; decide), fun tq nq => ?_⟩
        have s2 : Same H (upd (upd H tp (.tup [.ty "list", .ty "tuple"])) tq (.tup [.ty "bool", .ty "str"])) := s1.trans (same_new nq)
        refine ⟨_, tq, _, _, _, _, rfl, upd_same, .cons (.ty _) (.cons (.ty _) .nil), tyx_of (Dp.str x0), bs_kit (.str x0), _, rfl, iteT ?_⟩
        refine ⟨_, rfl, _, _, _, _, _, rfl, .ty _, tyx_of (Dp.str x0), kit_bool (.str x0), _, rfl, _, _, _, _, _, rfl, .ty _, tyx_of (Dp.str x0), kit_bool (.str x0), rfl, _, rfl, iteNS rfl ?_⟩
        refine ⟨_, rfl, rfl, _, rfl, rfl, rfl, _, rfl, iteT ?_⟩
        refine ⟨_, rfl, _, rfl, rfl, ?_⟩
        have e : decide (V.str x0 = V.str x0) = true := decide_eq_true rfl
        have e2 := fin _ s2
        rw [← e] at e2
        exact e2
      | int i0 =>
        cases hv; cases hu
        refine ⟨_, rfl, rfl, _, rfl, iteF ?_⟩
        refine ⟨_, rfl, (by show 2 ≤ sizeLine; decide), fun tq nq => ?_⟩
        have s2 : Same H (upd (upd H tp (.tup [.ty "list", .ty "tuple"])) tq (.tup [.ty "bool", .ty "str"])) := s1.trans (same_new nq)
        refine ⟨_, tq, _, _, _, _, rfl, upd_same, .cons (.ty _) (.cons (.ty _) .nil), tyx_of (Dp.int i0), bs_kit (.int i0), _, rfl, iteF ?_⟩
        refine ⟨_, rfl, _, _, _, _, _, rfl, .ty _, tyx_of (Dp.int i0), kit_int i0, _, rfl, iteT ?_⟩
        refine ⟨_, rfl, _, _, _, _, _, rfl, .ty _, tyx_of (Dp.int i0), kit_bool (.int i0), _, rfl, _, rfl, iteT ?_⟩
        refine ⟨_, rfl, _, rfl, rfl, ?_⟩
        have e : decide (V.int i0 = V.int i0) = true := decide_eq_true rfl
        have e2 := fin _ s2
        rw [← e] at e2
        exact e2
end
end XL
namespace XL
open PySem PySem.Spec PyProof.Rows L2
abbrev sCells : Stmt := topS 26
abbrev sBox : Stmt := topS 24
theorem boot_enumerate' : bootBuiltins "enumerate" = some (.type "enumerate") := by decide +kernel
theorem boot_abs' : bootBuiltins "abs" = some (.builtin "abs") := by decide +kernel
section
variable {P : Program} {w : World} {K : PySem.W.Frag} {mg : Str → Option Value} {base : Heap}
theorem cut_ints (ns : List Int) (lo hi : Option Int) : cutV (ns.map V.int) lo hi = ((ns.drop (HT.sIx ns.length 0 lo)).take (HT.sIx ns.length ns.length hi - HT.sIx ns.length 0 lo)).map V.int := by
  unfold cutV
  rw [List.length_map, List.map_take, List.map_drop]
theorem set_ints : ∀ (zs : List Int) (j : Nat) (v : Int), (zs.map V.int).set j (.int v) = (zs.set j v).map V.int
  | [], _, _ => rfl
  | z :: zs, 0, v => rfl
  | z :: zs, j + 1, v => by
    show .int z :: (zs.map V.int).set j (.int v) = .int z :: (zs.set j v).map V.int
    rw [set_ints zs j v]
/-! ### _law_cells -/
theorem scCells : FnScope ["_law_script", "_law_utmost", "_law_cells_here", "_law_k", "_law_cell"] ["_law_script", "_law_utmost"] (defScope sCells) := ⟨rfl, rfl, rfl, by decide +kernel, rfl, by decide +kernel, by decide +kernel⟩
def spCells (K : PySem.W.Frag) : Sp := fun vs H Q _ => ∃ (a : Addr) (ns : List Int) (m : Nat), vs = [.ref a, .int m] ∧ SqL K H a (ns.map V.int) ∧ ns.length ≤ 63 ∧ 1 ≤ m ∧ m ≤ 5 ∧
  ∀ (p : Addr) (zs : List Int) (H' : Hp), Same H H' → H p = none → H' p = some (.lst (zs.map V.int)) → 1 ≤ zs.length → zs.length ≤ m → Q (.ref p) H'
theorem ok_cells {f : Addr} {fd : FuncData} {k : Nat} (F : Fun K "_law_cells" "_law_cells" sCells f fd) (ml : mg "list" = none) (me : mg "enumerate" = none) : FnOk P w K mg base CX0 (k + 1) f fd ["_law_script", "_law_utmost"] (spCells K) := by
  refine F.ok scCells (fun vs H Q E h => ?_) (fun cdv A outer s H vs Q E hr h => ?_)
  · obtain ⟨a, ns, m, rfl, _⟩ := h
    rfl
  obtain ⟨a, ns, m, rfl, ha, hn, m1, m2, q⟩ := h
  have tail : ∃ t, PSs (cxOf CX0 P w K mg base ["_law_script", "_law_utmost", "_law_cells_here", "_law_k", "_law_cell"] "_law_cells" (defScope sCells) f cdv A outer s H E).nox ((defBody sCells).drop 1) t ∧
      ∀ (c : Addr) (zs : List Int) (H2 : Hp), Same H H2 → H c = none → H2 c = some (.lst (zs.map V.int)) → 1 ≤ zs.length → zs.length ≤ m → (m < ns.length → zs.length = m) →
        t { nx := fun _ H' => Q .non H', rt := Q } [some (.ref a), some (.int m), some (.ref c), none, none] H2 := by
    refine ⟨_, pss_cons (ps_for PassesOwn.never rfl (pi_enum (by rfl) me (pa_cons (pe_slice sl_list (pv 0) (po_some (pv 1)) (po_some pe_int)) pa_nil)) (pg_tup rfl (pgs_cons (pg_name (i := 3) scCells.nd rfl (.inl rfl)) (pgs_cons (pg_name (i := 4) scCells.nd rfl (.inl rfl)) pgs_nil)))
        (pss_one (ps_asg (pe_op op_add (pe_ix ix_list (pv 2) (pe_op op_modN (pv 3) (pv 1)) (fun _ _ => rfl)) (pe_op op_mul (pv 4) (pe_op op_add (pv 3) pe_int))) (pg_sub (pv 2) (pe_op op_modN (pv 3) (pv 1)) set_list))))
      (pss_one (ps_ret (pv 2))), fun c zs H2 s2 nc ec z1 z2 z3 => ?_⟩
    refine ⟨_, rfl, _, rfl, (m : Int), rfl, 63, rfl, a, _, rfl, s2.seq ha, fun p np => ?_⟩
    rw [cut_ints]
    generalize hes : ((ns.drop (HT.sIx ns.length 0 (some (m : Int)))).take (HT.sIx ns.length ns.length (some 63) - HT.sIx ns.length 0 (some (m : Int)))) = es
    have hel : 0 < es.length → m < ns.length := fun h => by
      rw [← hes, List.length_take, List.length_drop, HT.sIx_nat] at h
      omega
    have hel2 : es.length ≤ 63 := by
      rw [← hes, List.length_take, List.length_drop]
      omega
    have s3 : Same H (upd H2 p (.lst (es.map V.int))) := s2.trans (same_new np)
    have cp : c ≠ p := ne_of_none ec np
    refine ⟨p, es.map V.int, rfl, SqL.of upd_same, for_it (walk_enum (xs := es.map V.int)) (fun i σ H3 => ∃ (ws : List Int) (y3 y4 : Option V), σ = [some (.ref a), some (.int m), some (.ref c), y3, y4] ∧ Same H H3 ∧ H3 p = some (.lst (es.map V.int)) ∧ H3 c = some (.lst (ws.map V.int)) ∧ ws.length = zs.length)
      ⟨zs, none, none, rfl, s3, upd_same, by rw [upd_ne cp]; exact ec, rfl⟩ (fun i σ H3 _ h => ?_) (fun i x σ H3 H4 hi h hy => ?_) (fun σ H3 h => ?_)⟩
    · obtain ⟨_, _, _, _, _, e, _⟩ := h
      exact SqL.of e
    · obtain ⟨ws, y3, y4, rfl, sm, ep, ew, wl⟩ := h
      obtain ⟨T, x1, x2, rfl, nT, rfl, e1, e2⟩ := hy
      have hi' : i < es.length := by rw [List.length_map] at hi; exact hi
      have e1' : x1 = .int (i : Nat) := (Option.some.inj e1).symm
      have e2' : x2 = .int es[i] := by
        have e3 : (es.map V.int)[i]? = some x2 := e2
        rw [List.getElem?_map, List.getElem?_eq_getElem hi'] at e3
        exact (Option.some.inj e3).symm
      subst e1' e2'
      have sT : Same H3 (upd H3 T (.tup [.int (i : Nat), .int es[i]])) := same_new nT
      have wm : ws.length = m := by rw [wl]; exact z3 (hel (by omega))
      have fm := fmod_lt (a := (i : Int)) (n := (m : Int)) (by omega)
      have hj : ((i : Int).fmod (m : Int)).toNat < ws.length := by omega
      refine ⟨T, _, rfl, .inl (.inl upd_same), rfl, _, _, rfl, _, _, rfl, rfl, ?_⟩
      have ewT := sT _ _ ew
      have aw : atI (ws.map V.int) ((i : Int).fmod (m : Int)) = some (.int ws[((i : Int).fmod (m : Int)).toNat]) := atI_int fm.1 (by rw [List.getElem?_map, List.getElem?_eq_getElem hj]; rfl)
      refine ⟨_, rfl, _, rfl, _, rfl, _, _, rfl, rfl, by omega, c, _, _, _, rfl, rfl, SqL.of ewT, aw, _, rfl, _, rfl, _, _, rfl, rfl, _, _, rfl, rfl, .inr ⟨by omega, by omega⟩, _, _, rfl, rfl, ?_⟩
      refine ⟨_, rfl, _, rfl, _, rfl, _, _, rfl, rfl, by omega, c, _, _, ((i : Int).fmod (m : Int)).toNat, rfl, rfl, ewT, ?_, ?_⟩
      · unfold ixN
        rw [if_pos fm.1, if_pos (by rw [List.length_map]; omega)]
      · refine ⟨_, _, _, rfl, fun b o e => ?_, ?_, by rw [set_ints, upd_same], by rw [List.length_set]; exact wl⟩
        · rw [upd_ne (ne_of_none e nc)]; exact sT _ _ (sm _ _ e)
        · rw [upd_ne cp.symm]; exact sT _ _ ep
    · obtain ⟨ws, y3, y4, rfl, sm, ep, ew, wl⟩ := h
      exact ⟨_, rfl, q c ws H3 sm nc ew (by omega) (by omega)⟩
  obtain ⟨t, ht, hgo⟩ := tail
  refine ⟨_, pss_cons (ps_set (i := 2) scCells.nd rfl (.inl rfl) (pe_orT (pe_callTy call_list_of rfl ml boot_list (pa_cons (pe_slice sl_list (pv 0) po_none (po_some (pv 1))) pa_nil)) (pe_one (pe_lst (pa_cons pe_int pa_nil))))) ht, ?_⟩
  -- list(script[:utmost])
  refine ⟨_, rfl, _, rfl, (m : Int), rfl, a, _, rfl, ha, fun p np => ?_⟩
  have s1 : Same H (upd H p (.lst (cutV (ns.map V.int) none (some (m : Int))))) := same_new np
  refine ⟨p, _, rfl, .inl (SqL.of upd_same), fun c nc => ?_⟩
  have e0 : cutV (ns.map V.int) none (some (m : Int)) = (ns.take m).map V.int := by
    rw [cut_ints, HT.sIx_none, HT.sIx_nat, List.drop_zero, Nat.sub_zero]
    congr 1
    rcases Nat.le_total m ns.length with h | h
    · rw [Nat.min_eq_left h]
    · rw [Nat.min_eq_right h, List.take_of_length_le (Nat.le_refl _), List.take_of_length_le h]
  rw [e0] at nc s1 ⊢
  have s2 := s1.trans (same_new nc (o := .lst ((ns.take m).map V.int)))
  refine ⟨!((ns.take m).map V.int).isEmpty, .inl ⟨_, SqL.of upd_same, rfl⟩, ?_⟩
  cases hns : ns with
  | nil =>
    have em : ((([] : List Int).take m).map V.int) = [] := by rw [List.take_nil]; rfl
    rw [em]
    refine iteF ⟨(by show 1 ≤ sizeLine; decide), fun c2 nc2 => ?_⟩
    subst hns
    rw [em] at s2
    exact hgo c2 [0] _ (s2.trans (same_new nc2)) (s2.free nc2) upd_same (Nat.le_refl _) m1 (fun h => by simp at h)
  | cons n0 r =>
    obtain ⟨m', rfl⟩ : ∃ m', m = m' + 1 := ⟨m - 1, by omega⟩
    rw [← hns]
    have e1 : (ns.take (m' + 1)).map V.int ≠ [] := by rw [hns]; simp
    have e2 : (!((ns.take (m' + 1)).map V.int).isEmpty) = true := by
      cases h : (ns.take (m' + 1)).map V.int with
      | nil => exact absurd h e1
      | cons _ _ => rfl
    rw [e2]
    have hl : (ns.take (m' + 1)).length = min (m' + 1) ns.length := List.length_take
    have hn1 : 1 ≤ ns.length := by rw [hns]; simp
    exact iteT (hgo c (ns.take (m' + 1)) _ s2 (s1.free nc) upd_same (by omega) (by omega) (fun h => by omega))
/-! ### _law_box -/
theorem b01 (b : Bool) : -2 ^ 64 < (if b = true then (1 : Int) else 0) ∧ (if b = true then (1 : Int) else 0) < 2 ^ 64 := by cases b <;> decide
theorem scBox : FnScope ["_law_cells_here", "_law_k", "_law_cell"] ["_law_cells_here", "_law_k"] (defScope sBox) := ⟨rfl, rfl, rfl, by decide +kernel, rfl, by decide +kernel, by decide +kernel⟩
def spBox (K : PySem.W.Frag) : Sp := fun vs H Q _ => ∃ (a : Addr) (zs : List Int) (k : Nat), vs = [.ref a, .int k] ∧ SqL K H a (zs.map V.int) ∧ k < zs.length ∧
  ∀ (b : Addr) (x y : Int), H b = none → Q (.ref b) (upd H b (.lst [.int x, .int y, .int 0]))
theorem ok_box {f : Addr} {fd : FuncData} {k : Nat} (F : Fun K "_law_box" "_law_box" sBox f fd) (ma : mg "abs" = none) (mi : mg "int" = none) : FnOk P w K mg base CX0 (k + 1) f fd ["_law_cells_here", "_law_k"] (spBox K) := by
  refine F.ok scBox (fun vs H Q E h => ?_) (fun cdv A outer s H vs Q E hr h => ?_)
  · obtain ⟨a, zs, k, rfl, _⟩ := h
    rfl
  obtain ⟨a, zs, k, rfl, ha, hk, q⟩ := h
  refine ⟨_, pss_cons (ps_set (i := 2) scBox.nd rfl (.inl rfl) (pe_ix ix_list (pv 0) (pv 1) (fun _ _ => rfl)))
    (pss_one (ps_ret (pe_lst (pa_cons (pe_op op_mul (pe_callB call_abs rfl ma boot_abs' (pa_cons (pv 2) pa_nil)) (pe_callTy call_int1 rfl mi boot_int' (pa_cons (pe_cmpR op_ge (pe_callB call_abs rfl ma boot_abs' (pa_cons (pv 2) pa_nil)) (pe_op op_pow pe_int pe_int) (nomark _)) pa_nil)))
      (pa_cons (pe_op op_add (pe_op op_add (pe_op op_modN (pv 2) pe_int) (pe_op op_mul pe_int (pv 1))) pe_int) (pa_cons pe_int pa_nil)))))), ?_⟩
  have hx : atI (zs.map V.int) ((k : Nat) : Int) = some (.int zs[k]) := atI_nat (by rw [List.getElem?_map, List.getElem?_eq_getElem hk]; rfl)
  refine ⟨_, rfl, _, rfl, a, _, _, _, rfl, rfl, ha, hx, ?_⟩
  refine ⟨_, rfl, _, rfl, _, rfl, _, rfl, _, _, rfl, rfl, ⟨by decide, by decide, by decide⟩, _, _, rfl, rfl, .inr ⟨_, rfl, _, _, rfl, rfl, .inr ?_, ?_⟩⟩
  · exact b01 _
  · refine ⟨_, rfl, _, _, rfl, rfl, (by show (2305843009213693951 : Int) ≠ 0; decide), _, rfl, _, _, rfl, rfl, .inl ⟨by decide, by decide⟩, _, _, rfl, rfl, _, _, rfl, rfl, (by show 3 ≤ sizeLine; decide), fun b nb => ?_⟩
    exact q b _ _ nb
end
end XL
namespace XL
open PySem PySem.Spec PyProof.Rows L2
abbrev sCanal : Stmt := topS 30
theorem boot_range' : bootBuiltins "range" = some (.type "range") := by decide +kernel
section
variable {P : Program} {w : World} {K : PySem.W.Frag} {mg : Str → Option Value} {base : Heap}
theorem Dr.tp {b : Addr} {H H' : Hp} (h : Bx H b) (d : Dr b H H') : Tp H H' := by
  obtain ⟨x, y, z, e⟩ := h
  exact ⟨fun a xs q => d.same a _ (fun c => by rw [c, e] at q; cases q) q, fun a o xs q => d.same a _ (fun c => by rw [c, e] at q; cases q) q⟩
theorem Bx.ne {b p : Addr} {H : Hp} (h : Bx H b) (n : H p = none) : p ≠ b := fun e => by
  obtain ⟨x, y, z, q⟩ := h
  rw [e, q] at n; cases n
/-- a step besides the box: a new object, or one of ours written -/
theorem Dr.wr {b p : Addr} {H : Hp} {o : HO} (h : Bx H b) (n : p ≠ b) (hs : H p = none) : Dr b H (upd H p o) := Dr.new h hs
abbrev nCanal : List Str := ["_law_box_here", "_law_wide", "_law_utmost", "_law_sizes", "_law_sort", "_law_gates", "_law_k", "_law_ends", "_law_flood", "_law_size"]
theorem scCanal : FnScope nCanal ["_law_box_here", "_law_wide", "_law_utmost"] (defScope sCanal) := ⟨rfl, rfl, rfl, by decide +kernel, rfl, by decide +kernel, by decide +kernel⟩
def spCanal (K : PySem.W.Frag) : Sp := fun vs H Q _ => ∃ (b : Addr) (wide utmost : Nat), vs = [.ref b, .int wide, .int utmost] ∧ Bx H b ∧ 1 ≤ wide ∧ wide ≤ 100 ∧ utmost ≤ 100 ∧
  ∀ (c : Cn) (v : V) (H' : Hp), okCn wide utmost c → Dr b H H' → Dp K H' v (cnD c) → Q v H'
/-- the four ends of a gate -/
def endsV (l : Lk) : List V := [.int l.1, .int l.2.1, .int l.2.2.1, .int l.2.2.2]
theorem dp_lk {H : Hp} {a : Addr} {l : Lk} (h : SqT K H a (endsV l)) : Dp K H (.ref a) (lkD l) := .tup h (.cons (.int _) (.cons (.int _) (.cons (.int _) (.cons (.int _) .nil))))
/-- between two turns: b the box, z the sizes, g the gates -/
structure Gt (K : PySem.W.Frag) (b z g : Addr) (s0 s1 : Int) (n : Nat) (H0 H : Hp) (vs : List V) (ls : List Lk) : Prop where
  box : Bx H b
  old : ∀ a o, a ≠ b → H0 a = some o → H a = some o
  ez : H z = some (.lst [.int s0, .int s1])
  eg : H g = some (.lst vs)
  dp : DpAll K H vs (ls.map lkD)
  len : ls.length = n
  ok : ∀ l ∈ ls, okLk s0 s1 l
theorem Gt.draw {b z g : Addr} {s0 s1 : Int} {n : Nat} {H0 H H' : Hp} {vs : List V} {ls : List Lk} (q : Gt K b z g s0 s1 n H0 H vs ls) (hz : z ≠ b) (hg : g ≠ b) (d : Dr b H H') : Gt K b z g s0 s1 n H0 H' vs ls :=
  ⟨d.box, fun a o na e => d.same a o na (q.old a o na e), d.same _ _ hz q.ez, d.same _ _ hg q.eg, DpAll.tp (d.tp q.box) _ (noLs_lk ls) q.dp, q.len, q.ok⟩
theorem Gt.new {b z g p : Addr} {s0 s1 : Int} {n : Nat} {H0 H : Hp} {vs : List V} {ls : List Lk} {o : HO} (q : Gt K b z g s0 s1 n H0 H vs ls) (hz : z ≠ b) (hg : g ≠ b) (np : H p = none) : Gt K b z g s0 s1 n H0 (upd H p o) vs ls := q.draw hz hg (Dr.new q.box np)
def fbody : Stmt → List Stmt
  | .For _ _ b _ _ => b
  | _ => []
abbrev slC (b : Addr) (wide utmost : Nat) (z : Addr) (kind : Int) (g : Addr) (y6 y7 y8 y9 : Option V) : L2.St := [some (.ref b), some (.int wide), some (.int utmost), some (.ref z), some (.int kind), some (.ref g), y6, y7, y8, y9]
theorem ok_canal {f ft fo : Addr} {fd fdt fdo : FuncData} {k : Nat} (F : Fun K "_law_canal" "_law_canal" sCanal f fd) (FT : Fun K "_law_take" "_law_take" sTake ft fdt) (bT : Binds K fdt ["_law_box_here", "_law_size"] []) (gT : mg "_law_take" = some (.ref ft))
    (FO : Fun K "_law_of" "_law_of" sOf fo fdo) (bO : Binds K fdo ["_law_box_here", "_law_some"] []) (gO : mg "_law_of" = some (.ref fo)) (me : mg "len" = none) (ml : mg "list" = none) (mt : mg "tuple" = none) (mr : mg "range" = none) :
    FnOk P w K mg base CX0 (k + 1 + 1 + 1) f fd ["_law_box_here", "_law_wide", "_law_utmost"] (spCanal K) := by
  have GT : FnOk P w K mg base CX0 (k + 1) ft fdt ["_law_box_here", "_law_size"] spTake := ok_take FT
  have GO : FnOk P w K mg base CX0 (k + 1 + 1) fo fdo ["_law_box_here", "_law_some"] (spOf K) := ok_of FO FT bT gT me
  refine F.ok scCanal (fun vs H Q E h => ?_) (fun cdv A outer s H vs Q E hr h => ?_)
  · obtain ⟨b, wide, utmost, rfl, _⟩ := h
    rfl
  obtain ⟨b, wide, utmost, rfl, hb, w1, w2, u2, q⟩ := h
  have hr1 : Room (k + 1) _ := hr.mono (Nat.le_succ _)
  -- one turn behind the choice of the ends
  have tail : ∃ t, PSs (cxOf CX0 P w K mg base nCanal "_law_canal" (defScope sCanal) f cdv A outer s H E).nox ((fbody ((defBody sCanal).getD 2 (.Pass ⟨0, 0, 0, 0⟩))).drop 1) t ∧
      ∀ (D : Ends) (z g e : Addr) (kind s0 s1 : Int) (i : Nat) (y6 y8 y9 : Option V) (l : Lk) (vs : List V) (ls : List Lk) (H3 : Hp), z ≠ b → g ≠ b → z ≠ g → e ≠ g → H z = none → H g = none → Gt K b z g s0 s1 i H H3 vs ls → i ≤ 200 → H3 e = some (.lst (endsV l)) → okLk s0 s1 l →
        (∀ vs' H4, Gt K b z g s0 s1 (i + 1) H H4 vs' (ls ++ [l]) → D.nx (slC b wide utmost z kind g y6 (some (.ref e)) y8 y9) H4) → t D (slC b wide utmost z kind g y6 (some (.ref e)) y8 y9) H3 := by
    refine ⟨_, pss_one (ps_expr (pe_bm PySem.F.plainAttrs_list PySem.F.slot_list_append PySem.F.type_list_append mt_append (pv 5) (pa_cons (pe_callTy call_tuple_of rfl mt boot_tuple (pa_cons (pv 7) pa_nil)) pa_nil))), ?_⟩
    intro D z g e kind s0 s1 i y6 y8 y9 l vs ls H3 hzb hgb hzg heg nz ng hG hi he hl hnx
    refine ⟨_, rfl, .inl ⟨rfl, _, SqL.of hG.eg⟩, _, rfl, e, _, rfl, .inl ⟨SqL.of he, fun t nt => ?_⟩⟩
    have G1 := hG.new hzb hgb (o := .tup (endsV l)) nt
    have lv : vs.length = i := by rw [DpAll.length hG.dp, List.length_map, hG.len]
    refine ⟨g, _, _, rfl, rfl, G1.eg, ?_, hnx _ _ ⟨?_, ?_, ?_, upd_same, ?_, ?_, ?_⟩⟩
    · rw [lv]; exact small1000 (by omega)
    · obtain ⟨x, y, w, e⟩ := G1.box
      exact ⟨x, y, w, by rw [upd_ne (fun q => hgb q.symm)]; exact e⟩
    · intro a o na e
      rw [upd_ne (ne_of_none e ng)]; exact G1.old a o na e
    · rw [upd_ne hzg]; exact G1.ez
    · rw [List.map_append]
      have tp : Tp _ (upd (upd H3 t (.tup (endsV l))) g (.lst (vs ++ [.ref t]))) := Tp.upd G1.eg
      exact DpAll.app (DpAll.tp tp _ (noLs_lk ls) G1.dp) (.cons (dp_lk (.inl (.inl (tp.t _ _ upd_same)))) .nil)
    · rw [List.length_append, hG.len]; rfl
    · intro l' h
      rcases List.mem_append.mp h with h | h
      · exact hG.ok l' h
      · rw [List.mem_singleton.mp h]; exact hl
  obtain ⟨t, ht, hgo⟩ := tail
  refine ⟨_, pss_cons (ps_par rfl scCanal.nd (i := 3) (j := 4) rfl rfl (by decide) rfl rfl
      (pa_cons (pe_lc (own := [("_law_flood", 8)]) (g := gName 8) (tt := tYes) rfl scCanal.nd (pi_range1 rfl mr (pa_cons pe_int pa_nil)) (blkOk_by (own := [("_law_flood", 8)]) (N := nCanal) (sc := defScope sCanal) (by decide +kernel))
          (fun _ _ _ _ _ => pg_name (i := 8) scCanal.nd rfl (Or.inl rfl)) (fun _ _ _ _ _ => pts_nil) (fun _ _ _ _ _ => pe_hide (pe_op op_add pe_int (pe_call GT hr1 rfl gT FT.kp bT .nil pass0 (pa_cons (pv 0) (pa_cons (pv 1) pa_nil))))))
        (pa_cons (pe_call GT hr1 rfl gT FT.kp bT .nil pass0 (pa_cons (pv 0) (pa_cons pe_int pa_nil))) pa_nil)) rfl)
    (pss_cons (ps_set (i := 5) scCanal.nd rfl (.inl rfl) (pe_lst pa_nil))
    (pss_cons (ps_for PassesOwn.never rfl (pi_range1 rfl mr (pa_cons (pe_call GT hr1 rfl gT FT.kp bT .nil pass0 (pa_cons (pv 0) (pa_cons (pe_op op_add (pv 2) pe_int) pa_nil))) pa_nil)) (pg_name (i := 6) scCanal.nd rfl (.inl rfl))
      (pss_cons (ps_if (PW.pt (pw_and (pt_cmpR op_eq (pv 4) pe_int (nomark _)) (pw_and1 (pt_cmpR (op_neD hr.units) (pv 5) (pe_lst pa_nil) (nomark _)))))
          (pss_one (ps_set (i := 7) scCanal.nd rfl (.inl rfl) (pe_op op_cat (pe_slice sl_list (pe_callTy call_list_of rfl ml boot_list (pa_cons (pe_ix ix_list (pv 5) (pe_un un_neg pe_int) (fun _ _ => rfl)) pa_nil)) po_none (po_some pe_int))
            (pe_lst (pa_cons (pe_call GT hr1 rfl gT FT.kp bT .nil pass0 (pa_cons (pv 0) (pa_cons (pe_ix ix_list (pv 3) pe_int (fun _ _ => rfl)) pa_nil))) (pa_cons (pe_call GT hr1 rfl gT FT.kp bT .nil pass0 (pa_cons (pv 0) (pa_cons (pe_ix ix_list (pv 3) pe_int (fun _ _ => rfl)) pa_nil))) pa_nil))))))
          (pss_one (ps_if (pt_cmpR op_eq (pv 4) pe_int (nomark _))
            (pss_one (ps_set (i := 7) scCanal.nd rfl (.inl rfl) (pe_lst (pa_cons (pe_op op_modN (pv 6) (pe_ix ix_list (pv 3) pe_int (fun _ _ => rfl))) (pa_cons (pe_op op_modN (pe_op op_add (pv 6) pe_int) (pe_ix ix_list (pv 3) pe_int (fun _ _ => rfl)))
              (pa_cons (pe_call GT hr1 rfl gT FT.kp bT .nil pass0 (pa_cons (pv 0) (pa_cons (pe_ix ix_list (pv 3) pe_int (fun _ _ => rfl)) pa_nil))) (pa_cons (pe_call GT hr1 rfl gT FT.kp bT .nil pass0 (pa_cons (pv 0) (pa_cons (pe_ix ix_list (pv 3) pe_int (fun _ _ => rfl)) pa_nil))) pa_nil)))))))
            (pss_one (ps_if (PW.pt (pw_and (pt_cmpR op_eq (pv 4) pe_int (nomark _)) (pw_and1 (pt_cmpR (op_neD hr.units) (pv 5) (pe_lst pa_nil) (nomark _)))))
              (pss_cons (ps_set (i := 7) scCanal.nd rfl (.inl rfl) (pe_callTy call_list_of rfl ml boot_list (pa_cons (pe_call GO hr rfl gO FO.kp bO .nil pass0 (pa_cons (pv 0) (pa_cons (pv 5) pa_nil))) pa_nil)))
                (pss_one (ps_asg pe_int (pg_sub (pv 7) (pe_call GT hr1 rfl gT FT.kp bT .nil pass0 (pa_cons (pv 0) (pa_cons pe_int pa_nil))) set_list))))
              (pss_one (ps_setLc (i := 7) (own := [("_law_size", 9)]) (g := gName 9) (tt := tYes) rfl scCanal.nd rfl rfl (sw_true rfl rfl rfl (by decide +kernel)) (pi_seq (pe_tup (pa_cons (pe_ix ix_list (pv 3) pe_int (fun _ _ => rfl)) (pa_cons (pe_ix ix_list (pv 3) pe_int (fun _ _ => rfl)) (pa_cons (pe_ix ix_list (pv 3) pe_int (fun _ _ => rfl)) (pa_cons (pe_ix ix_list (pv 3) pe_int (fun _ _ => rfl)) pa_nil))))))
                (blkOk_by (own := [("_law_size", 9)]) (N := nCanal) (sc := defScope sCanal) (by decide +kernel)) (fun _ _ _ _ _ => pg_name (i := 9) scCanal.nd rfl (Or.inl rfl)) (fun _ _ _ _ _ => pts_nil)
                (fun _ _ _ _ _ => pe_hide (pe_call GT hr1 rfl gT FT.kp bT .nil pass0 (pa_cons (pv 0) (pa_cons (pv 9) pa_nil)))))))))))
        ht))
    (pss_one (ps_ret (pe_tup (pa_cons (pe_ix ix_list (pv 3) pe_int (fun _ _ => rfl)) (pa_cons (pe_ix ix_list (pv 3) pe_int (fun _ _ => rfl)) (pa_cons (pe_callTy call_tuple_of rfl mt boot_tuple (pa_cons (pv 5) pa_nil)) pa_nil)))))))), ?_⟩
  refine ⟨2, rfl, by decide, by decide, lc_map walk_range (Dr b) (fun a b => a.trans b) (fun i y F => ∃ x : Int, y = .int x ∧ 1 ≤ x ∧ x ≤ wide) (fun i y A B _ p => p) (by decide) (Dr.refl hb) (fun _ _ _ _ _ => trivial) (fun i x D acc F H' hi nD dF nF hy B hB => ?_) (fun z ys F nz dF nF hl hR => ?_)⟩
  · obtain ⟨rfl, rfl⟩ := hy
    refine hB _ F rfl nF fun Qt hq => ?_
    refine ⟨_, rfl, _, rfl, b, _, rfl, dF.box, by omega, by omega, fun v F' v0 v1 d => ⟨_, _, rfl, rfl, hq _ _ d ⟨_, rfl, by omega, by omega⟩⟩⟩
  have hys : ∃ s0 s1 : Int, ys = [.int s0, .int s1] ∧ 1 ≤ s0 ∧ s0 ≤ wide ∧ 1 ≤ s1 ∧ s1 ≤ wide := by
    match ys, hl with
    | [y0, y1], _ =>
      obtain ⟨s0, rfl, a1, a2⟩ := hR 0 y0 rfl
      obtain ⟨s1, rfl, c1, c2⟩ := hR 1 y1 rfl
      exact ⟨s0, s1, rfl, a1, a2, c1, c2⟩
  obtain ⟨s0, s1, rfl, a1, a2, c1, c2⟩ := hys
  have hzb : z ≠ b := hb.ne nz
  have d1 : Dr b H (upd F z (.lst [.int s0, .int s1])) := dF.trans (Dr.new dF.box nF)
  refine ⟨_, rfl, b, 5, rfl, d1.box, by decide, by decide, fun kind H2 k0 k1 d2 => ?_⟩
  refine ⟨_, _, rfl, ?_⟩
  -- gates = []
  refine ⟨(by show 0 ≤ sizeLine; decide), fun g ng => ?_⟩
  have d12 := d1.trans d2
  have ez2 : H2 z = some (.lst [.int s0, .int s1]) := d2.same z _ hzb upd_same
  have hgb : g ≠ b := d2.box.ne ng
  have hzg : z ≠ g := ne_of_none ez2 ng
  have ngH : H g = none := by
    cases e : H g with
    | none => rfl
    | some o => rw [d12.same g o hgb e] at ng; cases ng
  have d3 : Dr b H (upd H2 g (.lst [])) := d12.trans (Dr.new d2.box ng)
  -- the number of gates
  refine ⟨_, rfl, _, rfl, _, _, rfl, rfl, b, _, rfl, d3.box, by omega, by omega, fun n H3 n0 n1 d4 => ?_⟩
  have d34 := d3.trans d4
  have G0 : Gt K b z g s0 s1 0 H H3 [] [] := ⟨d34.box, fun a o na e => d34.same a o na e, d4.same z _ hzb (by rw [upd_ne hzg]; exact ez2), d4.same g _ hgb upd_same, .nil, rfl, fun l h => by simp at h⟩
  refine ⟨n, rfl, by omega, by omega, for_it walk_range (fun i σ H4 => ∃ y6 y7 y8 y9 vs ls, σ = slC b wide utmost z kind g y6 y7 y8 y9 ∧ Gt K b z g s0 s1 i H H4 vs ls) ⟨none, none, none, none, [], [], rfl, G0⟩ (fun _ _ _ _ _ => trivial) (fun i x σ H4 H5 hi h hy => ?_) (fun σ H4 h => ?_)⟩
  · obtain ⟨y6, y7, y8, y9, vs, ls, rfl, hG⟩ := h
    obtain ⟨rfl, rfl⟩ := hy
    have hi2 : i ≤ 200 := by omega
    -- what is left, by the ends that were chosen
    have fin : ∀ (D : Ends) (e : Addr) (l : Lk) (y8 y9 : Option V) (H6 : Hp) (vs : List V) (ls : List Lk), D.nx = (fun σ H4 => ∃ y6 y7 y8 y9 vs ls, σ = slC b wide utmost z kind g y6 y7 y8 y9 ∧ Gt K b z g s0 s1 (i + 1) H H4 vs ls) →
        Gt K b z g s0 s1 i H H6 vs ls → e ≠ g → H6 e = some (.lst (endsV l)) → okLk s0 s1 l → t D (slC b wide utmost z kind g (some (.int (0 + i))) (some (.ref e)) y8 y9) H6 := by
      intro D e l y8 y9 H6 vs ls hD hG heg he hl
      refine hgo D z g e kind s0 s1 i _ y8 y9 l vs ls H6 hzb hgb hzg heg nz ngH hG hi2 he hl fun vs' H7 hG7 => ?_
      rw [hD]
      exact ⟨_, _, _, _, vs', _, rfl, hG7⟩
    -- two draws by the blues' size
    have draw1 : ∀ (H6 : Hp) (vs : List V) (ls : List Lk) (Q' : V → Hp → Prop), Gt K b z g s0 s1 i H H6 vs ls → (∀ (x : Int) (H7 : Hp), 0 ≤ x → x < s1 → Gt K b z g s0 s1 i H H7 vs ls → Dr b H6 H7 → Q' (.int x) H7) →
        spTake ([.ref b, .int s1] ++ []) H6 Q' E0 := by
      intro H6 vs ls Q' hG h
      exact ⟨b, s1, rfl, hG.box, by omega, by omega, fun v H7 v0 v1 d => h v H7 v0 v1 (hG.draw hzb hgb d) d⟩
    -- kind == 1 and gates != []
    have neq : ∀ (H6 : Hp) (vs : List V) (ls : List Lk) (p : Addr) (Q' : Bool → Hp → Prop), Gt K b z g s0 s1 i H H6 vs ls → H6 p = none → (∀ H7, Gt K b z g s0 s1 i H H7 vs ls → Q' (!ls.isEmpty) H7) →
        rNeD K (.ref g) (.ref p) (upd H6 p (.lst [])) (fun v H7 => ∃ k, v = .bl k ∧ Q' k H7) := by
      intro H6 vs ls p Q' hG np h
      have G7 := hG.new hzb hgb (o := .lst []) np
      refine ⟨.list (ls.map lkD), .list [], .lst (SqL.of G7.eg) G7.dp, .lst (SqL.of upd_same) .nil, lks_shaped ls, nil_shaped, _, rfl, ?_⟩
      rw [eqv_nil]
      exact h _ G7
    have fst : ∀ {xs : List V} {l : Lk} {a : Addr} {H6 : Hp}, Dp K H6 (.ref a) (lkD l) → SqT K H6 a (endsV l) := by
      intro xs l a H6 h
      cases h with
      | tup hs ha =>
        cases ha with
        | cons p1 ha => cases p1; cases ha with
          | cons p2 ha => cases p2; cases ha with
            | cons p3 ha => cases p3; cases ha with
              | cons p4 ha => cases p4; cases ha; exact hs
    have lkref : ∀ {v : V} {l : Lk} {H6 : Hp}, Dp K H6 v (lkD l) → ∃ a, v = .ref a ∧ SqT K H6 a (endsV l) := by
      intro v l H6 h
      have h' := h
      cases h with
      | tup hs ha => exact ⟨_, rfl, fst (xs := []) h'⟩
    refine ⟨_, rfl, rfl, _, rfl, ?_⟩
    by_cases hk1 : kind = 1
    · subst hk1
      refine iteT ⟨_, rfl, (by show 0 ≤ sizeLine; decide), fun p np => neq _ vs ls p _ hG np fun H6 G6 => ?_⟩
      cases ls with
      | nil =>
        refine iteF ⟨_, rfl, rfl, _, rfl, iteF ⟨_, rfl, rfl, _, rfl, iteF ?_⟩⟩
        refine ⟨_, rfl, z, _, _, _, rfl, rfl, SqL.of G6.ez, rfl, _, rfl, z, _, _, _, rfl, rfl, SqL.of G6.ez, rfl, _, rfl, z, _, _, _, rfl, rfl, SqL.of G6.ez, rfl, _, rfl, z, _, _, _, rfl, rfl, SqL.of G6.ez, rfl, (by show 4 ≤ sizeLine; decide), fun p np => ?_⟩
        have G8 := G6.new hzb hgb (o := .tup [.int s0, .int s0, .int s1, .int s1]) np
        have hpb : p ≠ b := G6.box.ne np
        refine ⟨p, [.int s0, .int s0, .int s1, .int s1], rfl, .inr (.inl (.inl upd_same)), fun J wk => lc_map wk (Dr b) (fun a b => a.trans b) (fun j y F => ∃ x : Int, y = .int x ∧ 0 ≤ x ∧ ∀ sz : Int, [s0, s0, s1, s1][j]? = some sz → x < sz) (fun j y A B _ p => p) (by show 4 < sizeLine; decide) (Dr.refl G8.box) (fun F D acc dF nF => ?_) (fun j x D acc F H' hj nD dF nF hy B hB => ?_) (fun D ys F nD dF nF hl hR => ?_)⟩
        · exact ⟨fun _ h => (same_new nF).seq (dF.sqL hpb h), fun h => Same.tup (same_new nF) (dF.sqT hpb h)⟩
        · obtain ⟨rfl, hx⟩ := hy
          have hx' : ∃ sz : Int, x = .int sz ∧ [s0, s0, s1, s1][j]? = some sz ∧ 1 ≤ sz ∧ sz ≤ wide := by
            match j, hj, hx with
            | 0, _, hx => exact ⟨s0, (Option.some.inj hx).symm, rfl, a1, a2⟩
            | 1, _, hx => exact ⟨s0, (Option.some.inj hx).symm, rfl, a1, a2⟩
            | 2, _, hx => exact ⟨s1, (Option.some.inj hx).symm, rfl, c1, c2⟩
            | 3, _, hx => exact ⟨s1, (Option.some.inj hx).symm, rfl, c1, c2⟩
          obtain ⟨sz, rfl, hsz, z1, z2⟩ := hx'
          refine hB _ F rfl nF fun Qt hq => ?_
          exact ⟨_, rfl, _, rfl, b, sz, rfl, dF.box, by omega, by omega, fun v F' v0 v1 d => hq _ _ d ⟨v, rfl, v0, fun sz' e => by rw [hsz] at e; cases e; exact v1⟩⟩
        · have hys : ∃ l : Lk, ys = endsV l ∧ okLk s0 s1 l := by
            match ys, hl with
            | [y0, y1, y2, y3], _ =>
              obtain ⟨x0, rfl, p0, q0⟩ := hR 0 _ rfl
              obtain ⟨x1, rfl, p1, q1⟩ := hR 1 _ rfl
              obtain ⟨x2, rfl, p2, q2⟩ := hR 2 _ rfl
              obtain ⟨x3, rfl, p3, q3⟩ := hR 3 _ rfl
              exact ⟨(x0, x1, x2, x3), rfl, ⟨p0, q0 _ rfl, p1, q1 _ rfl, p2, q2 _ rfl, p3, q3 _ rfl⟩⟩
          obtain ⟨l, rfl, okl⟩ := hys
          have G9 := (G8.draw hzb hgb dF).new hzb hgb (o := .lst (endsV l)) nF
          exact fin _ D l _ _ _ _ _ rfl G9 (fun e => by rw [e, G8.eg] at nD; cases nD) upd_same okl
      | cons l0 lr =>
        refine iteT ?_
        obtain ⟨vs', v', rfl⟩ : ∃ vs' v', vs = vs' ++ [v'] := by
          have hv : vs ≠ [] := fun e => by have := DpAll.length G6.dp; rw [e] at this; simp at this
          exact ⟨vs.dropLast, vs.getLast hv, (List.dropLast_concat_getLast hv).symm⟩
        have hvl : (vs' ++ [v']).length = (l0 :: lr).length := by rw [DpAll.length G6.dp, List.length_map]
        obtain ⟨d, ed, pd⟩ := DpAll.get G6.dp (i := vs'.length) (v := v') (by rw [List.getElem?_append_right (Nat.le_refl _), Nat.sub_self]; rfl)
        rw [List.getElem?_map] at ed
        cases el : (l0 :: lr)[vs'.length]? with
        | none => rw [el] at ed; cases ed
        | some l =>
          rw [el] at ed
          cases ed
          have okl := G6.ok l (List.mem_of_getElem? el)
          obtain ⟨a, rfl, ha⟩ := lkref pd
          refine ⟨_, rfl, 1, rfl, g, _, _, _, rfl, rfl, SqL.of G6.eg, atI_last _ _, a, _, rfl, .inr ha, fun c nc => ?_⟩
          have G7 := G6.new hzb hgb (o := .lst (endsV l)) nc
          refine ⟨2, rfl, c, _, rfl, SqL.of upd_same, fun c2 nc2 => ?_⟩
          have G8 := G7.new hzb hgb (o := .lst [.int l.1, .int l.2.1]) nc2
          have hc2b : c2 ≠ b := G7.box.ne nc2
          refine ⟨_, rfl, _, rfl, z, _, _, _, rfl, rfl, SqL.of G8.ez, rfl, b, s1, rfl, G8.box, by omega, by omega, fun x H7 x0 x1 dd1 => ?_⟩
          have G9 := G8.draw hzb hgb dd1
          refine ⟨_, rfl, _, rfl, z, _, _, _, rfl, rfl, SqL.of G9.ez, rfl, b, s1, rfl, G9.box, by omega, by omega, fun y H8 y0 y1 dd2 => ?_⟩
          have G10 := G9.draw hzb hgb dd2
          refine ⟨(by show 2 ≤ sizeLine; decide), fun c3 nc3 => ?_⟩
          have G11 := G10.new hzb hgb (o := .lst [.int x, .int y]) nc3
          have ec2 : H8 c2 = some (.lst [.int l.1, .int l.2.1]) := dd2.same _ _ hc2b (dd1.same _ _ hc2b upd_same)
          refine ⟨c2, c3, [.int l.1, .int l.2.1], [.int x, .int y], rfl, rfl, by rw [upd_ne (ne_of_none ec2 nc3)]; exact ec2, upd_same, (by show 2 + 2 ≤ sizeLine; decide), fun c4 nc4 => ?_⟩
          have G12 := G11.new hzb hgb (o := .lst (endsV (l.1, l.2.1, x, y))) nc4
          exact fin _ c4 (l.1, l.2.1, x, y) _ _ _ _ _ rfl G12 (fun e => by rw [e, G11.eg] at nc4; cases nc4) upd_same ⟨okl.a0, okl.a1, okl.c0, okl.c1, x0, x1, y0, y1⟩
    · have e1 : decide (V.int kind = V.int 1) = false := decide_eq_false fun e => hk1 (V.int.inj e)
      rw [e1]
      refine iteF (iteF ⟨_, rfl, rfl, _, rfl, ?_⟩)
      by_cases hk2 : kind = 2
      · subst hk2
        have f1 := fmod_lt (a := 0 + (i : Int)) (n := s0) (by omega)
        have f2 := fmod_lt (a := 0 + (i : Int) + 1) (n := s0) (by omega)
        refine iteT ⟨_, rfl, _, rfl, z, _, _, _, rfl, rfl, SqL.of hG.ez, rfl, _, _, rfl, rfl, by omega, _, rfl, _, _, rfl, rfl, _, rfl, z, _, _, _, rfl, rfl, SqL.of hG.ez, rfl, _, _, rfl, rfl, by omega, ?_⟩
        refine ⟨_, rfl, _, rfl, z, _, _, _, rfl, rfl, SqL.of hG.ez, rfl, b, s1, rfl, hG.box, by omega, by omega, fun x H7 x0 x1 dd1 => ?_⟩
        have G9 := hG.draw hzb hgb dd1
        refine ⟨_, rfl, _, rfl, z, _, _, _, rfl, rfl, SqL.of G9.ez, rfl, b, s1, rfl, G9.box, by omega, by omega, fun y H8 y0 y1 dd2 => ?_⟩
        have G10 := G9.draw hzb hgb dd2
        refine ⟨(by show 4 ≤ sizeLine; decide), fun c3 nc3 => ?_⟩
        have G11 := G10.new hzb hgb (o := .lst (endsV ((0 + (i : Int)).fmod s0, (0 + (i : Int) + 1).fmod s0, x, y))) nc3
        exact fin _ c3 ((0 + (i : Int)).fmod s0, (0 + (i : Int) + 1).fmod s0, x, y) _ _ _ _ _ rfl G11 (fun e => by rw [e, G10.eg] at nc3; cases nc3) upd_same ⟨f1.1, f1.2, f2.1, f2.2, x0, x1, y0, y1⟩
      · have e2 : decide (V.int kind = V.int 2) = false := decide_eq_false fun e => hk2 (V.int.inj e)
        rw [e2]
        refine iteF ⟨_, rfl, rfl, _, rfl, ?_⟩
        by_cases hk3 : kind = 3
        · subst hk3
          refine iteT ⟨_, rfl, (by show 0 ≤ sizeLine; decide), fun p np => neq _ vs ls p _ hG np fun H6 G6 => ?_⟩
          cases ls with
          | nil =>
            refine iteF ?_
            refine ⟨_, rfl, z, _, _, _, rfl, rfl, SqL.of G6.ez, rfl, _, rfl, z, _, _, _, rfl, rfl, SqL.of G6.ez, rfl, _, rfl, z, _, _, _, rfl, rfl, SqL.of G6.ez, rfl, _, rfl, z, _, _, _, rfl, rfl, SqL.of G6.ez, rfl, (by show 4 ≤ sizeLine; decide), fun p np => ?_⟩
            have G8 := G6.new hzb hgb (o := .tup [.int s0, .int s0, .int s1, .int s1]) np
            have hpb : p ≠ b := G6.box.ne np
            refine ⟨p, [.int s0, .int s0, .int s1, .int s1], rfl, .inr (.inl (.inl upd_same)), fun J wk => lc_map wk (Dr b) (fun a b => a.trans b) (fun j y F => ∃ x : Int, y = .int x ∧ 0 ≤ x ∧ ∀ sz : Int, [s0, s0, s1, s1][j]? = some sz → x < sz) (fun j y A B _ p => p) (by show 4 < sizeLine; decide) (Dr.refl G8.box) (fun F D acc dF nF => ?_) (fun j x D acc F H' hj nD dF nF hy B hB => ?_) (fun D ys F nD dF nF hl hR => ?_)⟩
            · exact ⟨fun _ h => (same_new nF).seq (dF.sqL hpb h), fun h => Same.tup (same_new nF) (dF.sqT hpb h)⟩
            · obtain ⟨rfl, hx⟩ := hy
              have hx' : ∃ sz : Int, x = .int sz ∧ [s0, s0, s1, s1][j]? = some sz ∧ 1 ≤ sz ∧ sz ≤ wide := by
                match j, hj, hx with
                | 0, _, hx => exact ⟨s0, (Option.some.inj hx).symm, rfl, a1, a2⟩
                | 1, _, hx => exact ⟨s0, (Option.some.inj hx).symm, rfl, a1, a2⟩
                | 2, _, hx => exact ⟨s1, (Option.some.inj hx).symm, rfl, c1, c2⟩
                | 3, _, hx => exact ⟨s1, (Option.some.inj hx).symm, rfl, c1, c2⟩
              obtain ⟨sz, rfl, hsz, z1, z2⟩ := hx'
              refine hB _ F rfl nF fun Qt hq => ?_
              exact ⟨_, rfl, _, rfl, b, sz, rfl, dF.box, by omega, by omega, fun v F' v0 v1 d => hq _ _ d ⟨v, rfl, v0, fun sz' e => by rw [hsz] at e; cases e; exact v1⟩⟩
            · have hys : ∃ l : Lk, ys = endsV l ∧ okLk s0 s1 l := by
                match ys, hl with
                | [y0, y1, y2, y3], _ =>
                  obtain ⟨x0, rfl, p0, q0⟩ := hR 0 _ rfl
                  obtain ⟨x1, rfl, p1, q1⟩ := hR 1 _ rfl
                  obtain ⟨x2, rfl, p2, q2⟩ := hR 2 _ rfl
                  obtain ⟨x3, rfl, p3, q3⟩ := hR 3 _ rfl
                  exact ⟨(x0, x1, x2, x3), rfl, ⟨p0, q0 _ rfl, p1, q1 _ rfl, p2, q2 _ rfl, p3, q3 _ rfl⟩⟩
              obtain ⟨l, rfl, okl⟩ := hys
              have G9 := (G8.draw hzb hgb dF).new hzb hgb (o := .lst (endsV l)) nF
              exact fin _ D l _ _ _ _ _ rfl G9 (fun e => by rw [e, G8.eg] at nD; cases nD) upd_same okl
          | cons l0 lr =>
            refine iteT ?_
            have hv : vs ≠ [] := fun e => by have := DpAll.length G6.dp; rw [e] at this; simp at this
            have hvl : vs.length ≤ 200 := by rw [DpAll.length G6.dp, List.length_map, G6.len]; exact hi2
            refine ⟨_, rfl, _, rfl, b, g, vs, rfl, G6.box, hgb, SqL.of G6.eg, hv, by omega, fun j v H7 ej dd => ?_⟩
            have G7 := G6.draw hzb hgb dd
            obtain ⟨d, ed, pd⟩ := DpAll.get G7.dp ej
            rw [List.getElem?_map] at ed
            cases el : (l0 :: lr)[j]? with
            | none => rw [el] at ed; cases ed
            | some l =>
              rw [el] at ed
              cases ed
              have okl := G7.ok l (List.mem_of_getElem? el)
              obtain ⟨a, rfl, ha⟩ := lkref pd
              refine ⟨a, _, rfl, .inr ha, fun c nc => ?_⟩
              have G8 := G7.new hzb hgb (o := .lst (endsV l)) nc
              have hcb : c ≠ b := G7.box.ne nc
              have hcg : c ≠ g := fun e => by rw [e, G7.eg] at nc; cases nc
              have hcz : c ≠ z := fun e => by rw [e, G7.ez] at nc; cases nc
              refine ⟨_, rfl, _, rfl, b, 4, rfl, G8.box, by decide, by decide, fun j2 H9 j0 j1 dd2 => ?_⟩
              have G9 := G8.draw hzb hgb dd2
              have ec : H9 c = some (.lst (endsV l)) := dd2.same c _ hcb upd_same
              refine ⟨c, _, _, j2.toNat, rfl, rfl, ec, ?_, ?_⟩
              · unfold ixN
                rw [if_pos j0, if_pos (by show j2 < 4; exact j1)]
              · have G10 : Gt K b z g s0 s1 i H (upd H9 c (.lst ((endsV l).set j2.toNat (.int 0)))) vs (l0 :: lr) := by
                  refine ⟨?_, fun a o na e => ?_, ?_, ?_, DpAll.tp (Tp.upd ec) _ (noLs_lk _) G9.dp, G9.len, G9.ok⟩
                  · obtain ⟨x, y, w, e⟩ := G9.box
                    exact ⟨x, y, w, by rw [upd_ne (fun q => hcb q.symm)]; exact e⟩
                  · by_cases hac : a = c
                    · exfalso
                      rw [hac] at e
                      rw [G7.old c o hcb e] at nc; cases nc
                    · rw [upd_ne hac]; exact G9.old a o na e
                  · rw [upd_ne (fun q => hcz q.symm)]; exact G9.ez
                  · rw [upd_ne (fun q => hcg q.symm)]; exact G9.eg
                have hset : ∃ l2 : Lk, (endsV l).set j2.toNat (.int 0) = endsV l2 ∧ okLk s0 s1 l2 := by
                  have hj : j2.toNat = 0 ∨ j2.toNat = 1 ∨ j2.toNat = 2 ∨ j2.toNat = 3 := by omega
                  rcases hj with e | e | e | e <;> rw [e]
                  · exact ⟨(0, l.2.1, l.2.2.1, l.2.2.2), rfl, ⟨Int.le_refl 0, by show 0 < s0; omega, okl.c0, okl.c1, okl.x0, okl.x1, okl.y0, okl.y1⟩⟩
                  · exact ⟨(l.1, 0, l.2.2.1, l.2.2.2), rfl, ⟨okl.a0, okl.a1, Int.le_refl 0, by show 0 < s0; omega, okl.x0, okl.x1, okl.y0, okl.y1⟩⟩
                  · exact ⟨(l.1, l.2.1, 0, l.2.2.2), rfl, ⟨okl.a0, okl.a1, okl.c0, okl.c1, Int.le_refl 0, by show 0 < s1; omega, okl.y0, okl.y1⟩⟩
                  · exact ⟨(l.1, l.2.1, l.2.2.1, 0), rfl, ⟨okl.a0, okl.a1, okl.c0, okl.c1, okl.x0, okl.x1, Int.le_refl 0, by show 0 < s1; omega⟩⟩
                obtain ⟨l2, el2, ok2⟩ := hset
                rw [el2] at G10 ⊢
                exact fin _ c l2 _ _ _ _ _ rfl G10 hcg upd_same ok2
        · have e3 : decide (V.int kind = V.int 3) = false := decide_eq_false fun e => hk3 (V.int.inj e)
          rw [e3]
          refine iteF (iteF ?_)
          refine ⟨_, rfl, z, _, _, _, rfl, rfl, SqL.of hG.ez, rfl, _, rfl, z, _, _, _, rfl, rfl, SqL.of hG.ez, rfl, _, rfl, z, _, _, _, rfl, rfl, SqL.of hG.ez, rfl, _, rfl, z, _, _, _, rfl, rfl, SqL.of hG.ez, rfl, (by show 4 ≤ sizeLine; decide), fun p np => ?_⟩
          have G8 := hG.new hzb hgb (o := .tup [.int s0, .int s0, .int s1, .int s1]) np
          have hpb : p ≠ b := hG.box.ne np
          refine ⟨p, [.int s0, .int s0, .int s1, .int s1], rfl, .inr (.inl (.inl upd_same)), fun J wk => lc_map wk (Dr b) (fun a b => a.trans b) (fun j y F => ∃ x : Int, y = .int x ∧ 0 ≤ x ∧ ∀ sz : Int, [s0, s0, s1, s1][j]? = some sz → x < sz) (fun j y A B _ p => p) (by show 4 < sizeLine; decide) (Dr.refl G8.box) (fun F D acc dF nF => ?_) (fun j x D acc F H' hj nD dF nF hy B hB => ?_) (fun D ys F nD dF nF hl hR => ?_)⟩
          · exact ⟨fun _ h => (same_new nF).seq (dF.sqL hpb h), fun h => Same.tup (same_new nF) (dF.sqT hpb h)⟩
          · obtain ⟨rfl, hx⟩ := hy
            have hx' : ∃ sz : Int, x = .int sz ∧ [s0, s0, s1, s1][j]? = some sz ∧ 1 ≤ sz ∧ sz ≤ wide := by
              match j, hj, hx with
              | 0, _, hx => exact ⟨s0, (Option.some.inj hx).symm, rfl, a1, a2⟩
              | 1, _, hx => exact ⟨s0, (Option.some.inj hx).symm, rfl, a1, a2⟩
              | 2, _, hx => exact ⟨s1, (Option.some.inj hx).symm, rfl, c1, c2⟩
              | 3, _, hx => exact ⟨s1, (Option.some.inj hx).symm, rfl, c1, c2⟩
            obtain ⟨sz, rfl, hsz, z1, z2⟩ := hx'
            refine hB _ F rfl nF fun Qt hq => ?_
            exact ⟨_, rfl, _, rfl, b, sz, rfl, dF.box, by omega, by omega, fun v F' v0 v1 d => hq _ _ d ⟨v, rfl, v0, fun sz' e => by rw [hsz] at e; cases e; exact v1⟩⟩
          · have hys : ∃ l : Lk, ys = endsV l ∧ okLk s0 s1 l := by
              match ys, hl with
              | [y0, y1, y2, y3], _ =>
                obtain ⟨x0, rfl, p0, q0⟩ := hR 0 _ rfl
                obtain ⟨x1, rfl, p1, q1⟩ := hR 1 _ rfl
                obtain ⟨x2, rfl, p2, q2⟩ := hR 2 _ rfl
                obtain ⟨x3, rfl, p3, q3⟩ := hR 3 _ rfl
                exact ⟨(x0, x1, x2, x3), rfl, ⟨p0, q0 _ rfl, p1, q1 _ rfl, p2, q2 _ rfl, p3, q3 _ rfl⟩⟩
            obtain ⟨l, rfl, okl⟩ := hys
            have G9 := (G8.draw hzb hgb dF).new hzb hgb (o := .lst (endsV l)) nF
            exact fin _ D l _ _ _ _ _ rfl G9 (fun e => by rw [e, G8.eg] at nD; cases nD) upd_same okl
  · obtain ⟨y6, y7, y8, y9, vs, ls, rfl, hG⟩ := h
    refine ⟨_, rfl, z, _, _, _, rfl, rfl, SqL.of hG.ez, rfl, _, rfl, z, _, _, _, rfl, rfl, SqL.of hG.ez, rfl, _, rfl, g, _, rfl, .inl ⟨SqL.of hG.eg, fun t nt => ?_⟩⟩
    refine ⟨(by show 3 ≤ sizeLine; decide), fun r nr => ?_⟩
    have s1' : Same H4 (upd H4 t (.tup vs)) := same_new nt
    have s2' : Same _ (upd (upd H4 t (.tup vs)) r (.tup [.int s0, .int s1, .ref t])) := same_new nr
    refine q ⟨s0, s1, ls⟩ _ _ ⟨a1, a2, c1, c2, by rw [hG.len]; omega, hG.ok⟩ (Dr.trans (b := b) (H1 := H4) ⟨hG.box, hG.old⟩ (Dr.of hG.box (s1'.trans s2'))) ?_
    exact .tup (.inl (.inl upd_same)) (.cons (.int _) (.cons (.int _) (.cons (.tup (.inl (.inl (s2' _ _ upd_same))) (DpAll.same (s1'.trans s2') _ hG.dp)) .nil)))
end
end XL
namespace XL
open PySem PySem.Spec PyProof.Rows L2
abbrev sLying : Stmt := topS 31
/-! ### standings as data -/
structure Sn where
  rs : List Int
  bs : List Int
  ls : List Int
def intsD (zs : List Int) : List PyData := zs.map PyData.int
def snD (s : Sn) : PyData := .tuple [.tuple (intsD s.rs), .tuple (intsD s.bs), .tuple (intsD s.ls)]
structure okSn (c : Cn) (most : Int) (s : Sn) : Prop where
  r : (s.rs.length : Int) = c.r
  b : (s.bs.length : Int) = c.b
  n : s.ls.length = c.ls.length
  r0 : ∀ x ∈ s.rs, 0 ≤ x ∧ x ≤ most
  b0 : ∀ x ∈ s.bs, 0 ≤ x ∧ x ≤ most
  l0 : ∀ x ∈ s.ls, x = 0 ∨ x = 1
theorem noLs_ints : ∀ zs : List Int, noLs (intsD zs) = true
  | [] => rfl
  | z :: zs => by show noLs (.int z :: intsD zs) = true; rw [noLs, noLs_ints zs]; rfl
theorem noL_sn (s : Sn) : noL (snD s) = true := by
  show noLs [.tuple (intsD s.rs), .tuple (intsD s.bs), .tuple (intsD s.ls)] = true
  simp [noLs, noL, noLs_ints]
section
variable {P : Program} {w : World} {K : PySem.W.Frag} {mg : Str → Option Value} {base : Heap}
theorem dp_ints {H : Hp} : ∀ zs : List Int, DpAll K H (zs.map V.int) (intsD zs)
  | [] => .nil
  | z :: zs => .cons (.int z) (dp_ints zs)
theorem dp_tints {H : Hp} {a : Addr} {zs : List Int} (h : SqT K H a (zs.map V.int)) : Dp K H (.ref a) (.tuple (intsD zs)) := .tup h (dp_ints zs)
theorem ints_of : ∀ {ys : List V}, (∀ (i : Nat) y, ys[i]? = some y → ∃ x : Int, y = .int x) → ∃ zs : List Int, ys = zs.map V.int
  | [], _ => ⟨[], rfl⟩
  | y :: ys, h => by
    obtain ⟨x, rfl⟩ := h 0 y rfl
    obtain ⟨zs, rfl⟩ := ints_of (ys := ys) fun i z e => h (i + 1) z (by simpa using e)
    exact ⟨x :: zs, rfl⟩
theorem cn_of {H : Hp} {v : V} {c : Cn} (h : Dp K H v (cnD c)) : ∃ a g vs, v = .ref a ∧ SqT K H a [.int c.r, .int c.b, .ref g] ∧ SqT K H g vs ∧ DpAll K H vs (c.ls.map lkD) := by
  cases h with
  | tup hs ha =>
    cases ha with
    | cons p1 ha => cases p1; cases ha with
      | cons p2 ha => cases p2; cases ha with
        | cons p3 ha =>
          cases ha
          cases p3 with
          | tup hg hl => exact ⟨_, _, _, rfl, hs, hg, hl⟩
abbrev nLying : List Str := ["_law_box_here", "_law_ship_way", "_law_most", "_law_boats", "_law_size", "_law_basin", "_law_gate"]
theorem scLying : FnScope nLying ["_law_box_here", "_law_ship_way", "_law_most"] (defScope sLying) := ⟨rfl, rfl, rfl, by decide +kernel, rfl, by decide +kernel, by decide +kernel⟩
def spLying (K : PySem.W.Frag) : Sp := fun vs H Q _ => ∃ (b : Addr) (v : V) (c : Cn) (most : Int), vs = [.ref b, v, .int most] ∧ Bx H b ∧ Dp K H v (cnD c) ∧ okCn 100 100 c ∧ 0 ≤ most ∧ most ≤ 1000000000000 ∧
  ∀ (s : Sn) (v' : V) (H' : Hp), okSn c (most + 1) s → Dr b H H' → Dp K H' v' (snD s) → Q v' H'
theorem ok_lying {f ft fo : Addr} {fd fdt fdo : FuncData} {k : Nat} (F : Fun K "_law_lying" "_law_lying" sLying f fd) (FT : Fun K "_law_take" "_law_take" sTake ft fdt) (bT : Binds K fdt ["_law_box_here", "_law_size"] []) (gT : mg "_law_take" = some (.ref ft))
    (FO : Fun K "_law_of" "_law_of" sOf fo fdo) (bO : Binds K fdo ["_law_box_here", "_law_some"] []) (gO : mg "_law_of" = some (.ref fo)) (me : mg "len" = none) (mt : mg "tuple" = none) (mr : mg "range" = none) :
    FnOk P w K mg base CX0 (k + 1 + 1 + 1) f fd ["_law_box_here", "_law_ship_way", "_law_most"] (spLying K) := by
  have GT : FnOk P w K mg base CX0 (k + 1) ft fdt ["_law_box_here", "_law_size"] spTake := ok_take FT
  have GO : FnOk P w K mg base CX0 (k + 1 + 1) fo fdo ["_law_box_here", "_law_some"] (spOf K) := ok_of FO FT bT gT me
  refine F.ok scLying (fun vs H Q E h => ?_) (fun cdv A outer s H vs Q E hr h => ?_)
  · obtain ⟨b, v, c, most, rfl, _⟩ := h
    rfl
  obtain ⟨b, v, c, most, rfl, hb, hv, okc, m1, m2, q⟩ := h
  have hr1 : Room (k + 1) _ := hr.mono (Nat.le_succ _)
  refine ⟨_, pss_cons (ps_setLc (i := 3) (own := [("_law_size", 4)]) (g := gName 4) (tt := tYes) rfl scLying.nd rfl rfl (sw_true rfl rfl rfl (by decide +kernel)) (pi_seq (pe_slice sl_tupA (pv 1) po_none (po_some pe_int)))
      (blkOk_by (own := [("_law_size", 4)]) (N := nLying) (sc := defScope sLying) (by decide +kernel)) (fun _ _ _ _ _ => pg_name (i := 4) scLying.nd rfl (Or.inl rfl)) (fun _ _ _ _ _ => pts_nil)
      (fun _ _ _ _ _ => pe_hide (pe_lc (own := [("_law_basin", 5)]) (g := gName 5) (tt := tYes) rfl scLying.nd (pi_range1 rfl mr (pa_cons (pv 4) pa_nil)) (blkOk_by (own := [("_law_basin", 5)]) (N := nLying) rfl)
        (fun _ _ _ _ _ => pg_name (i := 5) scLying.nd rfl (Or.inl rfl)) (fun _ _ _ _ _ => pts_nil)
        (fun _ _ _ _ _ => pe_hide (pe_call GO hr rfl gO FO.kp bO .nil pass0 (pa_cons (pv 0) (pa_cons (pe_lst (pa_cons pe_int (pa_cons (pe_call GT hr1 rfl gT FT.kp bT .nil pass0 (pa_cons (pv 0) (pa_cons (pe_op op_add (pv 2) pe_int) pa_nil))) (pa_cons pe_int pa_nil)))) pa_nil)))))))
    (pss_one (ps_ret (pe_tup (pa_cons (pe_callTy call_tuple_of rfl mt boot_tuple (pa_cons (pe_ix ix_list (pv 3) pe_int (fun _ _ => rfl)) pa_nil)) (pa_cons (pe_callTy call_tuple_of rfl mt boot_tuple (pa_cons (pe_ix ix_list (pv 3) pe_int (fun _ _ => rfl)) pa_nil))
      (pa_cons (pe_callTy call_tuple_of rfl mt boot_tuple (pa_cons (pe_lc (own := [("_law_gate", 6)]) (g := gName 6) (tt := tYes) rfl scLying.nd (pi_seq (pe_ix ix_tup (pv 1) pe_int (fun _ _ => rfl))) (blkOk_by (own := [("_law_gate", 6)]) (N := nLying) (sc := defScope sLying) (by decide +kernel))
        (fun _ _ _ _ _ => pg_name (i := 6) scLying.nd rfl (Or.inl rfl)) (fun _ _ _ _ _ => pts_nil) (fun _ _ _ _ _ => pe_hide (pe_call GT hr1 rfl gT FT.kp bT .nil pass0 (pa_cons (pv 0) (pa_cons pe_int pa_nil))))) pa_nil)) pa_nil)))))), ?_⟩
  obtain ⟨a, g, gs, rfl, ha, hg, hgs⟩ := cn_of hv
  -- ship_way[:2]
  refine ⟨_, rfl, 2, rfl, a, _, rfl, ha, fun e => absurd e.2 (by show ¬ (2 = 3); decide), fun _ p np => ?_⟩
  have d1 : Dr b H (upd H p (.tup [.int c.r, .int c.b])) := Dr.new hb np
  have hpb : p ≠ b := hb.ne np
  have okr : 1 ≤ c.r ∧ c.r ≤ 100 := ⟨okc.r1, okc.r2⟩
  have okb : 1 ≤ c.b ∧ c.b ≤ 100 := ⟨okc.b1, okc.b2⟩
  refine ⟨p, [.int c.r, .int c.b], rfl, .inr (.inl (.inl upd_same)), fun J wk => lc_map wk (Dr b) (fun a b => a.trans b)
    (fun i y F => ∃ (l : Addr) (zs : List Int), y = .ref l ∧ l ≠ b ∧ F l = some (.lst (zs.map V.int)) ∧ (∀ n : Int, [c.r, c.b][i]? = some n → (zs.length : Int) = n) ∧ ∀ z ∈ zs, 0 ≤ z ∧ z ≤ most + 1)
    (fun i y A B d ⟨l, zs, e, n, el, r⟩ => ⟨l, zs, e, n, d.same l _ n el, r⟩) (by show 2 < sizeLine; decide) (Dr.refl d1.box) (fun F D acc dF nF => ?_) (fun i x D acc F H' hi nD dF nF hy B hB => ?_) (fun D ys F nD dF nF hl hR => ?_)⟩
  · exact ⟨fun _ h => (same_new nF).seq (dF.sqL hpb h), fun h => Same.tup (same_new nF) (dF.sqT hpb h)⟩
  · obtain ⟨rfl, hx⟩ := hy
    have hx' : ∃ n : Int, x = .int n ∧ [c.r, c.b][i]? = some n ∧ 1 ≤ n ∧ n ≤ 100 := by
      match i, hi, hx with
      | 0, _, hx => exact ⟨c.r, (Option.some.inj hx).symm, rfl, okr⟩
      | 1, _, hx => exact ⟨c.b, (Option.some.inj hx).symm, rfl, okb⟩
    obtain ⟨n, rfl, hn, n1, n2⟩ := hx'
    refine hB _ F rfl nF fun Qt hq => ?_
    -- the inner row
    refine ⟨_, rfl, n, rfl, by omega, by omega, lc_map walk_range (Dr b) (fun a b => a.trans b) (fun j y F => ∃ z : Int, y = .int z ∧ 0 ≤ z ∧ z ≤ most + 1) (fun j y A B _ p => p) (small1000 (by omega)) (Dr.refl dF.box) (fun _ _ _ _ _ => trivial) (fun j x D2 acc2 F2 H2 hj nD2 dF2 nF2 hy B hB => ?_) (fun D2 ys F2 nD2 dF2 nF2 hl hR => ?_)⟩
    · obtain ⟨rfl, rfl⟩ := hy
      refine hB _ F2 rfl nF2 fun Qt hq => ?_
      refine ⟨_, rfl, _, rfl, _, rfl, _, _, rfl, rfl, b, _, rfl, dF2.box, by omega, by omega, fun v F3 v0 v1 d3 => ?_⟩
      refine ⟨(by show 3 ≤ sizeLine; decide), fun l nl => ?_⟩
      have d4 : Dr b F3 (upd F3 l (.lst [.int 0, .int v, .int 1])) := Dr.new d3.box nl
      refine ⟨b, l, [.int 0, .int v, .int 1], rfl, d4.box, d3.box.ne nl, SqL.of upd_same, by simp, by show 3 < 1000; decide, fun j2 u F5 ej d5 => ?_⟩
      refine hq _ _ (d3.trans (d4.trans d5)) ?_
      match j2, ej with
      | 0, ej => exact ⟨0, (Option.some.inj ej).symm, by omega, by omega⟩
      | 1, ej => exact ⟨v, (Option.some.inj ej).symm, v0, by omega⟩
      | 2, ej => exact ⟨1, (Option.some.inj ej).symm, by omega, by omega⟩
    · obtain ⟨zs, rfl⟩ := ints_of fun j y e => let ⟨z, ez, _⟩ := hR j y e; ⟨z, ez⟩
      refine hq _ _ (dF2.trans (Dr.new dF2.box nF2)) ⟨D2, zs, rfl, dF.box.ne nD2, upd_same, fun n' e => ?_, fun z hz => ?_⟩
      · rw [hn] at e; cases e
        rw [List.length_map] at hl
        rw [hl]; omega
      · obtain ⟨j, ej⟩ := List.getElem?_of_mem hz
        obtain ⟨z', e', h1, h2⟩ := hR j (.int z) (by rw [List.getElem?_map, ej]; rfl)
        cases e'
        exact ⟨h1, h2⟩
  · -- boats
    have hys : ∃ (l0 l1 : Addr) (z0 z1 : List Int), ys = [.ref l0, .ref l1] ∧ l0 ≠ b ∧ l1 ≠ b ∧ F l0 = some (.lst (z0.map V.int)) ∧ F l1 = some (.lst (z1.map V.int)) ∧ (z0.length : Int) = c.r ∧ (z1.length : Int) = c.b ∧ (∀ z ∈ z0, 0 ≤ z ∧ z ≤ most + 1) ∧ (∀ z ∈ z1, 0 ≤ z ∧ z ≤ most + 1) := by
      match ys, hl with
      | [y0, y1], _ =>
        obtain ⟨l0, z0, rfl, n0, e0, r0, w0⟩ := hR 0 _ rfl
        obtain ⟨l1, z1, rfl, n1, e1, r1, w1⟩ := hR 1 _ rfl
        exact ⟨l0, l1, z0, z1, rfl, n0, n1, e0, e1, r0 _ rfl, r1 _ rfl, w0, w1⟩
    obtain ⟨l0, l1, z0, z1, rfl, n0, n1, e0, e1, r0, r1, w0, w1⟩ := hys
    have sD : Same F (upd F D (.lst [.ref l0, .ref l1])) := same_new nF
    have dD : Dr b H (upd F D (.lst [.ref l0, .ref l1])) := d1.trans (dF.trans (Dr.new dF.box nF))
    refine ⟨_, rfl, D, _, _, _, rfl, rfl, SqL.of upd_same, rfl, l0, _, rfl, .inl ⟨SqL.of (sD _ _ e0), fun t0 nt0 => ?_⟩⟩
    have s0 : Same _ (upd (upd F D (.lst [.ref l0, .ref l1])) t0 (.tup (z0.map V.int))) := same_new nt0
    refine ⟨_, rfl, D, _, _, _, rfl, rfl, SqL.of (s0 _ _ upd_same), rfl, l1, _, rfl, .inl ⟨SqL.of (s0 _ _ (sD _ _ e1)), fun t1 nt1 => ?_⟩⟩
    have s1 : Same _ (upd (upd (upd F D (.lst [.ref l0, .ref l1])) t0 (.tup (z0.map V.int))) t1 (.tup (z1.map V.int))) := same_new nt1
    have d2 : Dr b H (upd (upd (upd F D (.lst [.ref l0, .ref l1])) t0 (.tup (z0.map V.int))) t1 (.tup (z1.map V.int))) := dD.trans (Dr.of dD.box (s0.trans s1))
    have tpH := Dr.tp hb d2
    have hgb : SqT K _ g gs := tpH.sqT hg
    refine ⟨_, rfl, a, _, _, _, rfl, rfl, tpH.sqT ha, rfl, g, gs, rfl, .inr hgb, fun J wk => lc_map wk (Dr b) (fun a b => a.trans b) (fun j y F => ∃ z : Int, y = .int z ∧ (z = 0 ∨ z = 1)) (fun j y A B _ p => p) (by rw [DpAll.length hgs, List.length_map]; exact small1000 (by have := okc.n; omega)) (Dr.refl d2.box) (fun F2 D2 acc dF2 nF2 => ?_) (fun i x D2 acc F2 H' hi nD2 dF2 nF2 hy B hB => ?_) (fun D2 ys2 F2 nD2 dF2 nF2 hl2 hR2 => ?_)⟩
    · exact ⟨fun n _ => absurd hgb n, fun h => Same.tup (same_new nF2) ((Dr.tp d2.box dF2).sqT h)⟩
    · obtain ⟨rfl, hx⟩ := hy
      refine hB _ F2 rfl nF2 fun Qt hq => ?_
      exact ⟨_, rfl, b, 2, rfl, dF2.box, by decide, by decide, fun v F' v0 v1 d => hq _ _ d ⟨v, rfl, by omega⟩⟩
    · obtain ⟨zs, rfl⟩ := ints_of fun j y e => let ⟨z, ez, _⟩ := hR2 j y e; ⟨z, ez⟩
      refine ⟨D2, _, rfl, .inl ⟨SqL.of upd_same, fun t2 nt2 => ⟨(by show 3 ≤ sizeLine; decide), fun r nr => ?_⟩⟩⟩
      have sa : Same F2 (upd F2 D2 (.lst (zs.map V.int))) := same_new nF2
      have sb : Same _ (upd (upd F2 D2 (.lst (zs.map V.int))) t2 (.tup (zs.map V.int))) := same_new nt2
      have sc : Same _ (upd (upd (upd F2 D2 (.lst (zs.map V.int))) t2 (.tup (zs.map V.int))) r (.tup [.ref t0, .ref t1, .ref t2])) := same_new nr
      have tp3 := (Dr.tp d2.box dF2).trans (Tp.of (sa.trans (sb.trans sc)))
      refine q ⟨z0, z1, zs⟩ _ _ ⟨r0, r1, ?_, w0, w1, fun x hx => ?_⟩ (d2.trans (dF2.trans (Dr.of dF2.box (sa.trans (sb.trans sc))))) ?_
      · rw [List.length_map, DpAll.length hgs, List.length_map] at hl2; exact hl2
      · obtain ⟨j, ej⟩ := List.getElem?_of_mem hx
        obtain ⟨z', e', h1⟩ := hR2 j (.int x) (by rw [List.getElem?_map, ej]; rfl)
        cases e'
        exact h1
      · exact .tup (.inl (.inl upd_same)) (.cons (dp_tints (.inl (.inl (tp3.t _ _ (s1 _ _ upd_same))))) (.cons (dp_tints (.inl (.inl (tp3.t _ _ upd_same)))) (.cons (dp_tints (.inl (.inl (sc _ _ upd_same)))) .nil)))
end
end XL
namespace XL
open PySem PySem.Spec PyProof.Rows L2
section
variable {prog : Program} {w : World} {A : Around} {E : Value → Shared → Prop} {s : Shared}
theorem applied_rev2 {sl : Addr} {vs : Value} {Q : Int × Int × Nat → Shared → Prop} (hs : s.heap.IsSliceOf sl .none .none vs) (ps : IsPart vs (some (-1))) (h : Q (1, -1, 2) s) :
    wpAny (model prog w) A (Builtin.Slice.sliceApplied (.ref sl) (pure ((2 : Nat) : Int))) Q E s := by
  obtain ⟨os, hos, hcs, hds⟩ := id hs
  unfold Builtin.Slice.sliceApplied Builtin.Slice.sliceFields
  refine wpAny_bind (wpAny_bind (wpAny_field hos hds (x := .none) rfl (wpAny_bind (wpAny_field hos hds (x := .none) rfl (wpAny_bind (wpAny_field hos hds (x := vs) rfl (wpAny_pure ?_)))))))
  refine wpAny_bind (HT.slicePart_ ps ?_)
  show wpAny _ _ (if ((-1 : Int) == 0) = true then _ else _) _ _ s
  rw [if_neg (by decide)]
  refine wpAny_bind (HT.slicePart_ .none (wpAny_bind (HT.slicePart_ .none (wpAny_bind (wpAny_pure ?_)))))
  show wpAny _ _ (match Builtin.Slice.sliceAdjust none none (-1) ((2 : Nat) : Int) with | (lo, hi) => pure (lo, (-1 : Int), Builtin.Slice.slicePlaces lo hi (-1))) _ _ s
  have e : Builtin.Slice.sliceAdjust none none (-1) ((2 : Nat) : Int) = (1, -1) := by decide
  rw [e]
  have e2 : Builtin.Slice.slicePlaces 1 (-1) (-1) = 2 := by decide
  show wpAny _ _ (pure ((1 : Int), (-1 : Int), Builtin.Slice.slicePlaces 1 (-1) (-1))) _ _ s
  rw [e2]
  exact wpAny_pure h
theorem getItem_rev2 {t sl : Addr} {u1 u2 vs : Value} {Q : Value → Shared → Prop} (ht : IsTup s.heap t #[u1, u2]) (hs : s.heap.IsSliceOf sl .none .none vs) (ps : IsPart vs (some (-1)))
    (h : Q (.ref s.heap.objs.size) { s with heap := s.heap.push { cls := .type "tuple", data := .seq #[u2, u1] } }) : wpAny (model prog w) A (getItem (.ref t) (.ref sl)) Q E s := by
  have fits : sizeOk (.seq #[u2, u1]) := by show 2 ≤ sizeLine; decide
  obtain ⟨os, hos, hcs, hds⟩ := id hs
  have hTs : s.TypeIs (.ref sl) "slice" := ⟨os, hos, hcs⟩
  unfold getItem
  try with_reducible refine wpAny_holding ?_
  first | refine wpAny_bind (wpAny_pure ?_) | skip
  refine wpAny_bind (wpAny_sequenceKey ht.typeIs (by decide) ?_)
  refine wpAny_bind (wpAny_callSpecial?_slot (name := Str.ofString "__getitem__") ht.typeIs PyProof.Rows.slot_tuple_getitem (wpAny_call_entry PyProof.Rows.slot_tuple_getitem ht.typeIs entry_tuple_getitem ?_ (args_tuple_getitem _ _)))
  show wpAny _ _ (Builtin.Tuple.tupleItemsOf (.ref t) >>= _) _ _ s
  refine wpAny_bind (tupleItemsOf_ ht ?_)
  refine wpAny_bind (wpAny_typeOf hTs ?_)
  rw [if_pos (by decide)]
  refine wpAny_bind (applied_rev2 hs ps ?_)
  show wpAny _ _ (if ((1 : Int) == 0 && (-1 : Int) == 1 && (2 : Nat) == 2) = true then _ else _) _ _ s
  rw [if_neg (by decide)]
  have e : ((List.range 2).filterMap fun (m : Nat) => (#[u1, u2] : Array Value)[((1 : Int) + (m : Int) * (-1)).toNat]?).toArray = #[u2, u1] := by rfl
  rw [e]
  first
    | exact wpAny_bind (m := Builtin.Tuple.tupleExact _) (wpAny_newObj_type (wpAny_pure ⟨_, rfl, wpAny_pure h⟩) fits)
    | exact wpAny_bind (m := Builtin.Tuple.tupleExact _) (wpAny_newObj_type (wpAny_bind (wpAny_pure (wpAny_pure ⟨_, rfl, wpAny_pure h⟩))) fits)
    | exact wpAny_bind (wpAny_bind (m := Builtin.Tuple.tupleExact _) (wpAny_newObj_type (wpAny_pure (wpAny_pure ⟨_, rfl, wpAny_pure h⟩)) fits))
    | exact wpAny_bind (wpAny_bind (m := Builtin.Tuple.tupleExact _) (wpAny_newObj_type (wpAny_pure ⟨_, rfl, wpAny_pure h⟩) fits))
end
section
variable {X : Cx}
/-- t[::-1] of a pair -/
def tRev2 (K : PySem.W.Frag) (te : TE) : TE := fun σ H Q => te σ H fun x H1 => ∃ a y z, x = .ref a ∧ SqT K H1 a [y, z] ∧ ∀ p, H1 p = none → Q (.ref p) (upd H1 p (.tup [z, y]))
theorem pe_rev2 {e : Expr} {te : TE} {k : Nat} {p1 p2 p3 pos : Pos} (he : PE X e te) : PE X (.Subscript e (.Slice none none (some (.UnaryOp .USub (.Constant (.int 1) k p1) p2)) p3) pos) (tRev2 X.K te) := by
  refine ⟨fun pins s σ H Q I h => ?_⟩
  refine Subscript_ (thn (he.run pins s σ H _ I h) fun v s1 ⟨x, H1, I1, r1, q1⟩ => ?_)
  obtain ⟨a, y, z, ex, hx, q⟩ := q1
  subst ex
  cases r1
  have hst : PO X (some (.UnaryOp .USub (.Constant (.int 1) k p1) p2)) (tPart (tUn (rU fun i => .int (-i)) (tC (.int 1)))) := po_some (pe_un un_neg pe_int)
  refine wpAny_Slice (thn (po_none.run pins s1 σ H1 (fun o H2 => o = none ∧ H2 = H1) I1 ⟨rfl, rfl⟩) fun vl s2 ⟨l, H2, I2, pl, el, e2⟩ => ?_)
  subst el e2
  refine thn (po_none.run pins s2 σ H2 (fun o H3 => o = none ∧ H3 = H2) I2 ⟨rfl, rfl⟩) fun vu s3 ⟨u, H3, I3, pu, eu, e3⟩ => ?_
  subst eu e3
  refine thn (hst.run pins s3 σ H3 (fun o H4 => o = some (-1) ∧ H4 = H3) I3 ⟨1, rfl, -1, rfl, rfl, rfl⟩) fun vs s4 ⟨o, H4, I4, ps, eo, e4⟩ => ?_
  subst eo e4
  cases pl
  cases pu
  have I5 : Inv X pins σ H4 { s4 with heap := s4.heap.push { cls := .type "slice", data := .fields #[.none, .none, vs] } } := I4.kept (t' := s4.toks) fun b ob q => Heap.get?_push_of_some _ q
  obtain ⟨its, r, ht, hz⟩ := I5.tuple hx
  obtain ⟨w1, w2, rfl, q1, q2⟩ := vals2 r
  show wpAny (model X.prog X.w) X.A (subscriptTail e (.Slice none none (some (.UnaryOp .USub (.Constant (.int 1) k p1) p2)) p3) (.ref a) (.ref s4.heap.objs.size)) (EP X pins σ Q) X.xe { s4 with heap := s4.heap.push { cls := .type "slice", data := .fields #[.none, .none, vs] } }
  refine tail_any (ops := [.ref a, .ref s4.heap.objs.size]) ht.typeIs (PyProof.Rows.slot_tuple_getitem.lookup) ?_ (by with_unfolding_all rfl)
  refine getItem_rev2 (u1 := w1) (u2 := w2) ht (Heap.IsSliceOf.new _ .none .none vs) ps ?_
  refine ⟨.ref _, _, I5.laid (t' := s4.toks) (o := .tup [z, y]) (fun b ob q => Heap.get?_push_of_some _ q) (Nat.le_refl _) ?_, rfl, q _ (I5.hok.fresh (Nat.le_refl _))⟩
  exact ⟨by show 2 ≤ sizeLine; decide, [w2, w1], .cons q2 (.cons q1 .nil), IsTup.new _ _⟩
/-- xs[i], for xs[i] op= e -/
def rGetL (K : PySem.W.Frag) : V → V → Hp → VK → Prop := fun o y H Q => ∃ p xs i v, o = .ref p ∧ y = .int i ∧ SqL K H p xs ∧ 0 ≤ i ∧ xs[i.toNat]? = some v ∧ Q v H
theorem get_list : PGet X (rGetL X.K) := by
  intro pins s σ H o y ov iv Q I ro ry h
  obtain ⟨p, xs, i, v, rfl, rfl, hq, h0, he, q⟩ := h
  cases ro
  obtain ⟨t, rfl⟩ := ry
  obtain ⟨its, r, pl, hz⟩ := I.list hq
  obtain ⟨u, eu, ru⟩ := r.get he
  have hl : i.toNat < xs.length := (List.getElem?_eq_some_iff.mp he).1
  have hn := line63
  exact wpAny_getItem_list pl.isList h0 (by omega) (by simpa using eu) ⟨v, H, I, ru, q⟩
end
end XL
namespace XL
open PySem PySem.Spec PyProof.Rows L2
abbrev sEnds : Stmt := topS 6
abbrev sFT : Stmt := topS 12
abbrev sHas : Stmt := topS 13
abbrev sMay : Stmt := topS 14
section
variable {P : Program} {w : World} {K : PySem.W.Frag} {mg : Str → Option Value} {base : Heap}
/-- a canal of tuples or of lists -/
structure CnAny (K : PySem.W.Frag) (H : Hp) (v : V) (c : Cn) : Prop where
  ex : ∃ a g vs, v = .ref a ∧ Sq2 K H a [.int c.r, .int c.b, .ref g] ∧ Sq2 K H g vs ∧ vs.length = c.ls.length ∧ ∀ (i : Nat) u, vs[i]? = some u → ∃ l t, c.ls[i]? = some l ∧ u = .ref t ∧ Sq2 K H t (endsV l)
theorem ends_of {H : Hp} {v : V} {l : Lk} (h : Dp K H v (lkD l)) : ∃ a, v = .ref a ∧ SqT K H a (endsV l) := by
  cases h with
  | tup hs ha =>
    cases ha with
    | cons p1 ha => cases p1; cases ha with
      | cons p2 ha => cases p2; cases ha with
        | cons p3 ha => cases p3; cases ha with
          | cons p4 ha => cases p4; cases ha; exact ⟨_, rfl, hs⟩
theorem ends_of' {H : Hp} {v : V} {l : Lk} (h : Dp K H v (lstD (lkD l))) : ∃ a, v = .ref a ∧ SqL K H a (endsV l) := by
  have e : lstD (lkD l) = .list [.int l.1, .int l.2.1, .int l.2.2.1, .int l.2.2.2] := rfl
  rw [e] at h
  cases h with
  | lst hs ha =>
    cases ha with
    | cons p1 ha => cases p1; cases ha with
      | cons p2 ha => cases p2; cases ha with
        | cons p3 ha => cases p3; cases ha with
          | cons p4 ha => cases p4; cases ha; exact ⟨_, rfl, hs⟩
theorem cnAny_t {H : Hp} {v : V} {c : Cn} (h : Dp K H v (cnD c)) : CnAny K H v c := by
  obtain ⟨a, g, vs, e, ha, hg, hl⟩ := cn_of h
  refine ⟨a, g, vs, e, .inr ha, .inr hg, by rw [DpAll.length hl, List.length_map], fun i u hu => ?_⟩
  obtain ⟨d, ed, pd⟩ := DpAll.get hl hu
  rw [List.getElem?_map] at ed
  cases el : c.ls[i]? with
  | none => rw [el] at ed; cases ed
  | some l =>
    rw [el] at ed
    cases ed
    obtain ⟨t, et, ht⟩ := ends_of pd
    exact ⟨l, t, rfl, et, .inr ht⟩
theorem cnAny_l {H : Hp} {v : V} {c : Cn} (h : Dp K H v (lstD (cnD c))) : CnAny K H v c := by
  have e : lstD (cnD c) = .list [.int c.r, .int c.b, .list ((c.ls.map lkD).map lstD)] := by
    show PyData.list [.int c.r, .int c.b, .list (lstDs (c.ls.map lkD))] = _
    rw [lstDs_eq]
  rw [e] at h
  cases h with
  | lst hs ha =>
    cases ha with
    | cons p1 ha => cases p1; cases ha with
      | cons p2 ha => cases p2; cases ha with
        | cons p3 ha =>
          cases ha
          cases p3 with
          | lst hg hl =>
            refine ⟨_, _, _, rfl, .inl hs, .inl hg, by rw [DpAll.length hl, List.length_map, List.length_map], fun i u hu => ?_⟩
            obtain ⟨d, ed, pd⟩ := DpAll.get hl hu
            rw [List.map_map, List.getElem?_map] at ed
            cases el : c.ls[i]? with
            | none => rw [el] at ed; cases ed
            | some l =>
              rw [el] at ed
              cases ed
              obtain ⟨t, et, ht⟩ := ends_of' pd
              exact ⟨l, t, rfl, et, .inl ht⟩
theorem CnAny.same {H H' : Hp} {v : V} {c : Cn} (h : CnAny K H v c) (s : Same H H') : CnAny K H' v c := by
  obtain ⟨a, g, vs, e, ha, hg, hl, hv⟩ := h.ex
  refine ⟨a, g, vs, e, Same.sq2 s ha, Same.sq2 s hg, hl, fun i u hu => ?_⟩
  obtain ⟨l, t, h1, h2, h3⟩ := hv i u hu
  exact ⟨l, t, h1, h2, Same.sq2 s h3⟩
/-! ### waters, basins, ends -/
def isRed (w : Str) : Bool := decide (V.str w = V.str "red")
def basW (r : Bool) (c : Cn) : Int := if r = true then c.r else c.b
def endW (r : Bool) (l : Lk) : Int × Int := if r = true then (l.1, l.2.1) else (l.2.2.1, l.2.2.2)
def wS (r : Bool) : Str := if r = true then "red" else "blue"
theorem isRed_wS (r : Bool) : isRed (wS r) = r := by cases r <;> decide +kernel
abbrev nEnds : List Str := ["lock", "water", "a", "c", "x", "y"]
theorem scEnds : FnScope nEnds ["lock", "water"] (defScope sEnds) := ⟨rfl, rfl, rfl, by decide +kernel, rfl, by decide +kernel, by decide +kernel⟩
def prV (p : Int × Int) : List V := [.int p.1, .int p.2]
def spEnds (K : PySem.W.Frag) : Sp := fun vs H Q _ => ∃ (t : Addr) (w : Str) (l : Lk), vs = [.ref t, .str w] ∧ Sq2 K H t (endsV l) ∧ ∀ p, H p = none → Q (.ref p) (upd H p (.tup (prV (endW (isRed w) l))))
theorem ok_ends {f : Addr} {fd : FuncData} {k : Nat} {tR : Tok} (F : Fun K "ends_of" "ends_of" sEnds f fd) (gRED : mg "RED" = some (.str "red" tR)) : FnOk P w K mg base CX0 (k + 1) f fd ["lock", "water"] (spEnds K) := by
  refine F.ok scEnds (fun vs H Q E h => ?_) (fun cdv A outer s H vs Q E hr h => ?_)
  · obtain ⟨v, w, c, rfl, _⟩ := h
    rfl
  obtain ⟨t, w, l, rfl, ht, q⟩ := h
  refine ⟨_, (pss_cons (ps_asg (pv 0) (pg_any rfl (pgs_cons (pg_name (i := 2) scEnds.nd rfl (.inl rfl)) (pgs_cons (pg_name (i := 3) scEnds.nd rfl (.inl rfl)) (pgs_cons (pg_name (i := 4) scEnds.nd rfl (.inl rfl)) (pgs_cons (pg_name (i := 5) scEnds.nd rfl (.inl rfl)) pgs_nil))))))
    (pss_one (ps_ret (pe_ifExp (pt_cmpR op_eq (pv 1) (pe_glob (v := .str "red") rfl gRED ⟨_, rfl⟩) (nomark _)) (pe_tup (pa_cons (pv 2) (pa_cons (pv 3) pa_nil))) (pe_tup (pa_cons (pv 4) (pa_cons (pv 5) pa_nil))))))), ?_⟩
  refine ⟨_, rfl, t, _, rfl, ht, rfl, _, _, rfl, _, _, rfl, _, _, rfl, _, _, rfl, rfl, ?_⟩
  refine at_s (σ' := [some (.ref t), some (.str w), some (.int l.1), some (.int l.2.1), some (.int l.2.2.1), some (.int l.2.2.2)]) rfl ?_
  refine ⟨_, rfl, rfl, _, rfl, ite2 (fun e => ?_) (fun e => ?_)⟩
  · refine ⟨_, rfl, _, rfl, (by show 2 ≤ sizeLine; decide), fun p np => ?_⟩
    have q' := q p np
    have e2 : isRed w = true := e
    rw [e2] at q'; exact q'
  · refine ⟨_, rfl, _, rfl, (by show 2 ≤ sizeLine; decide), fun p np => ?_⟩
    have q' := q p np
    have e2 : isRed w = false := by cases z : isRed w; rfl; exact absurd z e
    rw [e2] at q'; exact q'
/-! ### standings of tuples or of lists -/
structure SnAny (K : PySem.W.Frag) (H : Hp) (v : V) (s : Sn) : Prop where
  ex : ∃ a ar ab al, v = .ref a ∧ Sq2 K H a [.ref ar, .ref ab, .ref al] ∧ Sq2 K H ar (s.rs.map V.int) ∧ Sq2 K H ab (s.bs.map V.int) ∧ Sq2 K H al (s.ls.map V.int)
theorem SnAny.same {H H' : Hp} {v : V} {s : Sn} (h : SnAny K H v s) (e : Same H H') : SnAny K H' v s := by
  obtain ⟨a, ar, ab, al, e1, h1, h2, h3, h4⟩ := h.ex
  exact ⟨a, ar, ab, al, e1, Same.sq2 e h1, Same.sq2 e h2, Same.sq2 e h3, Same.sq2 e h4⟩
theorem ints_inv {H : Hp} : ∀ {vs : List V} {zs : List Int}, DpAll K H vs (intsD zs) → vs = zs.map V.int
  | _, [], h => by cases h; rfl
  | _, z :: zs, h => by
    cases h with
    | cons p r => cases p; rw [ints_inv r]; rfl
theorem snAny_t {H : Hp} {v : V} {s : Sn} (h : Dp K H v (snD s)) : SnAny K H v s := by
  cases h with
  | tup hs ha =>
    cases ha with
    | cons p1 ha => cases ha with
      | cons p2 ha => cases ha with
        | cons p3 ha =>
          cases ha
          cases p1 with
          | tup a1 b1 => cases p2 with
            | tup a2 b2 => cases p3 with
              | tup a3 b3 =>
                rw [ints_inv b1] at a1; rw [ints_inv b2] at a2; rw [ints_inv b3] at a3
                exact ⟨_, _, _, _, rfl, .inr hs, .inr a1, .inr a2, .inr a3⟩
theorem map_li : ∀ zs : List Int, (intsD zs).map lstD = intsD zs
  | [] => rfl
  | z :: zs => by show lstD (.int z) :: (intsD zs).map lstD = _; rw [map_li zs]; rfl
theorem snAny_l {H : Hp} {v : V} {s : Sn} (h : Dp K H v (lstD (snD s))) : SnAny K H v s := by
  have e : lstD (snD s) = .list [.list (intsD s.rs), .list (intsD s.bs), .list (intsD s.ls)] := by
    show PyData.list [.list (lstDs (intsD s.rs)), .list (lstDs (intsD s.bs)), .list (lstDs (intsD s.ls))] = _
    rw [lstDs_eq, lstDs_eq, lstDs_eq, map_li, map_li, map_li]
  rw [e] at h
  cases h with
  | lst hs ha =>
    cases ha with
    | cons p1 ha => cases ha with
      | cons p2 ha => cases ha with
        | cons p3 ha =>
          cases ha
          cases p1 with
          | lst a1 b1 => cases p2 with
            | lst a2 b2 => cases p3 with
              | lst a3 b3 =>
                rw [ints_inv b1] at a1; rw [ints_inv b2] at a2; rw [ints_inv b3] at a3
                exact ⟨_, _, _, _, rfl, .inl hs, .inl a1, .inl a2, .inl a3⟩
/-! ### goings -/
def gt (zs : List Int) (j : Int) : Int := zs.getD j.toNat 0
theorem gt_get {zs : List Int} {j : Int} (h0 : 0 ≤ j) (h1 : j < zs.length) : zs[j.toNat]? = some (gt zs j) := by
  unfold gt
  rw [List.getD_eq_getElem?_getD, List.getElem?_eq_getElem (show j.toNat < zs.length by omega)]; rfl
theorem gt_at {zs : List Int} {j : Int} (h0 : 0 ≤ j) (h1 : j < zs.length) : atI (zs.map V.int) j = some (.int (gt zs j)) := atI_int h0 (by rw [List.getElem?_map, gt_get h0 h1]; rfl)
def lk0 : Lk := (0, 0, 0, 0)
def lkAt (c : Cn) (i : Nat) : Lk := c.ls.getD i lk0
theorem lkAt_get {c : Cn} {i : Nat} (h : i < c.ls.length) : c.ls[i]? = some (lkAt c i) := by
  unfold lkAt
  rw [List.getD_eq_getElem?_getD, List.getElem?_eq_getElem h]; rfl
def boatsW (r : Bool) (s : Sn) : List Int := if r = true then s.rs else s.bs
/-- from and to -/
def fromTo (c : Cn) (s : Sn) (i : Nat) (r : Bool) : Int × Int := if gt s.ls i = 0 then endW r (lkAt c i) else ((endW r (lkAt c i)).2, (endW r (lkAt c i)).1)
def hasB (c : Cn) (s : Sn) (i : Nat) (r : Bool) : Bool := decide (gt (boatsW r s) (fromTo c s i r).1 > 0)
def mov (zs : List Int) (p : Int × Int) : List Int :=
  let b1 := zs.set p.1.toNat (gt zs p.1 - 1)
  b1.set p.2.toNat (gt b1 p.2 + 1)
def flip1 (zs : List Int) (i : Nat) : List Int := zs.set i (1 - gt zs i)
def goneS (c : Cn) (s : Sn) (i : Nat) (r : Bool) : Sn :=
  if r = true then ⟨mov s.rs (fromTo c s i r), s.bs, flip1 s.ls i⟩ else ⟨s.rs, mov s.bs (fromTo c s i r), flip1 s.ls i⟩
theorem mov_len (zs : List Int) (p : Int × Int) : (mov zs p).length = zs.length := by unfold mov; rw [List.length_set, List.length_set]
theorem flip_len (zs : List Int) (i : Nat) : (flip1 zs i).length = zs.length := by unfold flip1; rw [List.length_set]
theorem mem_set_or {α : Type} {l : List α} {i : Nat} {a x : α} (h : x ∈ l.set i a) : x ∈ l ∨ x = a := by
  rcases List.mem_or_eq_of_mem_set h with q | q
  · exact .inl q
  · exact .inr q
theorem gt_mem {zs : List Int} {j : Int} (h0 : 0 ≤ j) (h1 : j < zs.length) : gt zs j ∈ zs := List.mem_of_getElem? (gt_get h0 h1)
theorem mov_bd {zs : List Int} {p : Int × Int} {B : Int} (h0 : 0 ≤ p.1) (h1 : p.1 < zs.length) (h2 : 0 ≤ p.2) (h3 : p.2 < zs.length) (hb : ∀ x ∈ zs, 0 ≤ x ∧ x ≤ B) (hp : gt zs p.1 > 0) : ∀ x ∈ mov zs p, 0 ≤ x ∧ x ≤ B + 1 := by
  intro x hx
  have k1 : ∀ y ∈ zs.set p.1.toNat (gt zs p.1 - 1), 0 ≤ y ∧ y ≤ B := fun y hy => by
    rcases mem_set_or hy with q | q
    · exact hb y q
    · have := hb _ (gt_mem h0 h1); omega
  unfold mov at hx
  rcases mem_set_or hx with q | q
  · have := k1 x q; omega
  · have := k1 _ (gt_mem (zs := zs.set p.1.toNat (gt zs p.1 - 1)) (j := p.2) h2 (by rw [List.length_set]; exact h3)); omega
theorem endW_ok {c : Cn} {W U : Nat} (ok : okCn W U c) {i : Nat} (hi : i < c.ls.length) (r : Bool) : (0 ≤ (endW r (lkAt c i)).1 ∧ (endW r (lkAt c i)).1 < basW r c) ∧ (0 ≤ (endW r (lkAt c i)).2 ∧ (endW r (lkAt c i)).2 < basW r c) := by
  have o := ok.l _ (List.mem_of_getElem? (lkAt_get hi))
  cases r with
  | true => exact ⟨⟨o.a0, o.a1⟩, o.c0, o.c1⟩
  | false => exact ⟨⟨o.x0, o.x1⟩, o.y0, o.y1⟩
theorem fromTo_ok {c : Cn} {W U : Nat} (ok : okCn W U c) {s : Sn} {i : Nat} (hi : i < c.ls.length) (r : Bool) : (0 ≤ (fromTo c s i r).1 ∧ (fromTo c s i r).1 < basW r c) ∧ (0 ≤ (fromTo c s i r).2 ∧ (fromTo c s i r).2 < basW r c) := by
  have h := endW_ok ok hi r
  unfold fromTo
  split
  · exact h
  · exact ⟨h.2, h.1⟩
theorem boats_len {c : Cn} {B : Int} {s : Sn} (ok : okSn c B s) (r : Bool) : ((boatsW r s).length : Int) = basW r c := by
  cases r with
  | true => exact ok.r
  | false => exact ok.b
theorem goneS_ok {c : Cn} {W U : Nat} {B : Int} {s : Sn} (okc : okCn W U c) (ok : okSn c B s) {i : Nat} (hi : i < c.ls.length) (r : Bool) (h : hasB c s i r = true) : okSn c (B + 1) (goneS c s i r) := by
  have f := fromTo_ok okc (s := s) hi r
  have hp : gt (boatsW r s) (fromTo c s i r).1 > 0 := of_decide_eq_true h
  have hl := boats_len ok r
  have fl : ∀ x ∈ flip1 s.ls i, x = 0 ∨ x = 1 := fun x hx => by
    unfold flip1 at hx
    rcases mem_set_or hx with q | q
    · exact ok.l0 x q
    · have hm := gt_mem (zs := s.ls) (j := (i : Int)) (by omega) (by rw [ok.n]; omega)
      rcases ok.l0 _ hm with z | z <;> omega
  have up : ∀ {zs : List Int}, (∀ x ∈ zs, 0 ≤ x ∧ x ≤ B) → ∀ x ∈ zs, 0 ≤ x ∧ x ≤ B + 1 := fun h x hx => by have := h x hx; omega
  cases r with
  | true => exact ⟨by show ((mov s.rs _).length : Int) = _; rw [mov_len]; exact ok.r, ok.b, by show (flip1 s.ls i).length = _; rw [flip_len]; exact ok.n, mov_bd f.1.1 (by rw [show (s.rs.length : Int) = basW true c from hl]; exact f.1.2) f.2.1 (by rw [show (s.rs.length : Int) = basW true c from hl]; exact f.2.2) ok.r0 hp, up ok.b0, fl⟩
  | false => exact ⟨ok.r, by show ((mov s.bs _).length : Int) = _; rw [mov_len]; exact ok.b, by show (flip1 s.ls i).length = _; rw [flip_len]; exact ok.n, up ok.r0, mov_bd f.1.1 (by rw [show (s.bs.length : Int) = basW false c from hl]; exact f.1.2) f.2.1 (by rw [show (s.bs.length : Int) = basW false c from hl]; exact f.2.2) ok.b0 hp, fl⟩
/-- the goings that may be, lock by lock, red ahead of blue -/
abbrev Mv := Nat × Bool
def mvV (m : Mv) : List V := [.int m.1, .str (wS m.2)]
def mvD (m : Mv) : PyData := .tuple [.int m.1, .str (wS m.2)]
def mayL (c : Cn) (s : Sn) (i : Nat) : List Mv := [true, false].filterMap fun r => if hasB c s i r = true then some (i, r) else none
def may (c : Cn) (s : Sn) (n : Nat) : List Mv := (List.range n).flatMap (mayL c s)
theorem may_succ (c : Cn) (s : Sn) (n : Nat) : may c s (n + 1) = may c s n ++ mayL c s n := by
  unfold may
  rw [List.range_succ, List.flatMap_append]
  simp
theorem mayL_eq (c : Cn) (s : Sn) (i : Nat) : mayL c s i = (if hasB c s i true = true then [(i, true)] else []) ++ (if hasB c s i false = true then [(i, false)] else []) := by
  unfold mayL
  by_cases h1 : hasB c s i true = true <;> by_cases h2 : hasB c s i false = true <;> simp [h1, h2]
theorem mem_may {c : Cn} {s : Sn} {m : Mv} : ∀ {n : Nat}, m ∈ may c s n ↔ m.1 < n ∧ hasB c s m.1 m.2 = true
  | 0 => by simp [may]
  | n + 1 => by
    rw [may_succ, List.mem_append, mem_may (n := n), mayL_eq]
    obtain ⟨i, r⟩ := m
    constructor
    · rintro (h | h)
      · exact ⟨by have := h.1; omega, h.2⟩
      · rcases List.mem_append.mp h with h | h
        · by_cases h1 : hasB c s n true = true
          · rw [if_pos h1] at h
            have e : (i, r) = (n, true) := by simpa using h
            cases e; exact ⟨Nat.lt_succ_self _, h1⟩
          · rw [if_neg h1] at h; simp at h
        · by_cases h1 : hasB c s n false = true
          · rw [if_pos h1] at h
            have e : (i, r) = (n, false) := by simpa using h
            cases e; exact ⟨Nat.lt_succ_self _, h1⟩
          · rw [if_neg h1] at h; simp at h
    · intro ⟨h1, h2⟩
      by_cases e : i = n
      · refine .inr ?_
        have e' : i = n := e
        subst e'
        have h2' : hasB c s i r = true := h2
        cases r with
        | true => rw [if_pos h2']; exact List.mem_append_left _ (by simp)
        | false => rw [if_pos h2']; exact List.mem_append_right _ (by simp)
      · exact .inl ⟨by have : i < n + 1 := h1; show i < n; omega, h2⟩
theorem may_len (c : Cn) (s : Sn) : ∀ n : Nat, (may c s n).length ≤ 2 * n
  | 0 => by simp [may]
  | n + 1 => by
    have h := may_len c s n
    rw [may_succ, List.length_append, mayL_eq, List.length_append]
    have h1 : (if hasB c s n true = true then [(n, true)] else ([] : List Mv)).length ≤ 1 := by split <;> simp
    have h2 : (if hasB c s n false = true then [(n, false)] else ([] : List Mv)).length ≤ 1 := by split <;> simp
    omega
/-! ### from_and_to, has_boat, may_go -/
abbrev nFT : List Str := ["canal", "standing", "lock", "water", "start", "end"]
theorem scFT : FnScope nFT ["canal", "standing", "lock", "water"] (defScope sFT) := ⟨rfl, rfl, rfl, by decide +kernel, rfl, by decide +kernel, by decide +kernel⟩
def spFT (K : PySem.W.Frag) : Sp := fun vs H Q _ => ∃ (v u : V) (i : Nat) (r : Bool) (c : Cn) (s : Sn), vs = [v, u, .int i, .str (wS r)] ∧ CnAny K H v c ∧ SnAny K H u s ∧ i < c.ls.length ∧ i < s.ls.length ∧ ∀ p H', Same H H' → H p = none → H' p = some (.tup (prV (fromTo c s i r))) → Q (.ref p) H'
theorem ok_ft {f fe : Addr} {fd fde : FuncData} {k : Nat} (F : Fun K "from_and_to" "from_and_to" sFT f fd) (En : Fns P w K mg base k "ends_of" ["lock", "water"] (spEnds K) fe fde) : FnOk P w K mg base CX0 (k + 1) f fd ["canal", "standing", "lock", "water"] (spFT K) := by
  refine F.ok scFT (fun vs H Q E h => ?_) (fun cdv A outer s H vs Q E hr h => ?_)
  · obtain ⟨v, u, i, r, c, s, rfl, _⟩ := h
    rfl
  obtain ⟨v, u, i, r, c, s, rfl, hc, hs, hi, hi2, q⟩ := h
  obtain ⟨a, g, vs, rfl, ha, hg, hl, hv⟩ := hc.ex
  obtain ⟨b, br, bb, bl, rfl, hb, hbr, hbb, hbl⟩ := hs.ex
  refine ⟨_, (pss_cons (ps_asg (pe_fn En hr rfl (pa_cons (pe_ix (r := rIxA K) ix_any (pe_ix (r := rIxA K) ix_any (pv 0) pe_int (fun _ _ => rfl)) (pv 2) (fun _ _ => rfl)) (pa_cons (pv 3) pa_nil))) (pg_any rfl (pgs_cons (pg_name (i := 4) scFT.nd rfl (.inl rfl)) (pgs_cons (pg_name (i := 5) scFT.nd rfl (.inl rfl)) pgs_nil))))
    (pss_one (ps_ret (pe_ifExp (pt_cmpR op_eq (pe_ix (r := rIxA K) ix_any (pe_ix (r := rIxA K) ix_any (pv 1) pe_int (fun _ _ => rfl)) (pv 2) (fun _ _ => rfl)) pe_int (nomark _)) (pe_tup (pa_cons (pv 4) (pa_cons (pv 5) pa_nil))) (pe_tup (pa_cons (pv 5) (pa_cons (pv 4) pa_nil))))))), ?_⟩
  have hvi : i < vs.length := by rw [hl]; exact hi
  obtain ⟨l, t, el, et, ht⟩ := hv i _ (List.getElem?_eq_getElem hvi)
  have el' : l = lkAt c i := by rw [lkAt_get hi] at el; exact (Option.some.inj el).symm
  subst el'
  refine ⟨_, rfl, a, _, _, _, rfl, rfl, ha, rfl, _, rfl, g, _, _, _, rfl, rfl, hg, atI_nat (List.getElem?_eq_getElem hvi), _, rfl, t, wS r, lkAt c i, by rw [et]; rfl, ht, fun p np => ?_⟩
  rw [isRed_wS]
  have s1 : Same H (upd H p (.tup (prV (endW r (lkAt c i))))) := same_new np
  refine ⟨p, _, rfl, .inr (.inl (.inl upd_same)), rfl, _, _, rfl, _, _, rfl, rfl, ?_⟩
  refine at_s (σ' := [some (.ref a), some (.ref b), some (.int i), some (.str (wS r)), some (.int (endW r (lkAt c i)).1), some (.int (endW r (lkAt c i)).2)]) rfl ?_
  refine ⟨_, rfl, b, _, _, _, rfl, rfl, Same.sq2 s1 hb, rfl, _, rfl, bl, _, _, _, rfl, rfl, Same.sq2 s1 hbl, gt_at (by omega) (by omega), rfl, _, rfl, ite2 (fun e => ?_) (fun e => ?_)⟩
  · refine ⟨_, rfl, _, rfl, (by show 2 ≤ sizeLine; decide), fun p2 np2 => ?_⟩
    have e' : gt s.ls (i : Int) = 0 := V.int.inj (of_decide_eq_true e)
    refine q p2 _ (s1.trans (same_new np2)) (s1.free np2) ?_
    rw [upd_same]; unfold fromTo; rw [if_pos e']; rfl
  · refine ⟨_, rfl, _, rfl, (by show 2 ≤ sizeLine; decide), fun p2 np2 => ?_⟩
    have e' : ¬ gt s.ls (i : Int) = 0 := fun z => e (decide_eq_true (by rw [z]))
    refine q p2 _ (s1.trans (same_new np2)) (s1.free np2) ?_
    rw [upd_same]; unfold fromTo; rw [if_neg e']; rfl
abbrev nHas : List Str := ["canal", "standing", "lock", "water", "start", "boats"]
theorem scHas : FnScope nHas ["canal", "standing", "lock", "water"] (defScope sHas) := ⟨rfl, rfl, rfl, by decide +kernel, rfl, by decide +kernel, by decide +kernel⟩
def spHas (K : PySem.W.Frag) : Sp := fun vs H Q _ => ∃ (v u : V) (i : Nat) (r : Bool) (c : Cn) (s : Sn) (B : Int), vs = [v, u, .int i, .str (wS r)] ∧ CnAny K H v c ∧ SnAny K H u s ∧ i < c.ls.length ∧ okCn 100 100 c ∧ okSn c B s ∧ ∀ H', Same H H' → Q (.bl (hasB c s i r)) H'
theorem ok_has {f fe : Addr} {fd fde : FuncData} {k : Nat} {tR : Tok} (F : Fun K "has_boat" "has_boat" sHas f fd) (FT : Fns P w K mg base k "from_and_to" ["canal", "standing", "lock", "water"] (spFT K) fe fde) (gRED : mg "RED" = some (.str "red" tR)) : FnOk P w K mg base CX0 (k + 1) f fd ["canal", "standing", "lock", "water"] (spHas K) := by
  refine F.ok scHas (fun vs H Q E h => ?_) (fun cdv A outer s H vs Q E hr h => ?_)
  · obtain ⟨v, u, i, r, c, s, B, rfl, _⟩ := h
    rfl
  obtain ⟨v, u, i, r, c, s, B, rfl, hc, hs, hi, okc, oks, q⟩ := h
  obtain ⟨b, br, bb, bl, rfl, hb, hbr, hbb, hbl⟩ := hs.ex
  refine ⟨_, (pss_cons (ps_set (i := 4) scHas.nd rfl (.inl rfl) (pe_ix (r := rIxA K) ix_any (pe_fn FT hr rfl (pa_cons (pv 0) (pa_cons (pv 1) (pa_cons (pv 2) (pa_cons (pv 3) pa_nil))))) pe_int (fun _ _ => rfl)))
    (pss_cons (ps_set (i := 5) scHas.nd rfl (.inl rfl) (pe_ifExp (pt_cmpR op_eq (pv 3) (pe_glob (v := .str "red") rfl gRED ⟨_, rfl⟩) (nomark _)) (pe_ix (r := rIxA K) ix_any (pv 1) pe_int (fun _ _ => rfl)) (pe_ix (r := rIxA K) ix_any (pv 1) pe_int (fun _ _ => rfl))))
    (pss_one (ps_ret (pe_cmpR op_gt (pe_ix (r := rIxA K) ix_any (pv 5) (pv 4) (fun _ _ => rfl)) pe_int (nomark _)))))), ?_⟩
  refine ⟨_, rfl, _, rfl, _, rfl, _, rfl, v, .ref b, i, r, c, s, rfl, hc, hs, hi, by rw [oks.n]; exact hi, fun p H1 s1 np ep => ?_⟩
  refine ⟨p, _, _, _, rfl, rfl, .inr (.inl (.inl ep)), rfl, ?_⟩
  have f := fromTo_ok okc (s := s) hi r
  have hl := boats_len oks r
  have g1 : atI ((boatsW r s).map V.int) (fromTo c s i r).1 = some (.int (gt (boatsW r s) (fromTo c s i r).1)) := gt_at f.1.1 (by rw [hl]; exact f.1.2)
  refine at_g (σ' := [some v, some (.ref b), some (.int i), some (.str (wS r)), some (.int (fromTo c s i r).1), none]) rfl ?_
  refine ⟨_, rfl, rfl, _, rfl, ite2 (fun e => ?_) (fun e => ?_)⟩
  · have er : r = true := by rw [← isRed_wS r]; exact e
    subst er
    refine ⟨_, rfl, b, _, _, _, rfl, rfl, Same.sq2 s1 hb, rfl, ?_⟩
    exact ⟨_, rfl, _, rfl, br, _, _, _, rfl, rfl, Same.sq2 s1 hbr, g1, _, _, rfl, rfl, q _ s1⟩
  · have er : r = false := by
      cases r with
      | false => rfl
      | true => exact absurd (isRed_wS true) e
    subst er
    refine ⟨_, rfl, b, _, _, _, rfl, rfl, Same.sq2 s1 hb, rfl, ?_⟩
    exact ⟨_, rfl, _, rfl, bb, _, _, _, rfl, rfl, Same.sq2 s1 hbb, g1, _, _, rfl, rfl, q _ s1⟩
abbrev nMay : List Str := ["canal", "standing", "told", "lock", "water"]
theorem scMay : FnScope nMay ["canal", "standing"] (defScope sMay) := ⟨rfl, rfl, rfl, by decide +kernel, rfl, by decide +kernel, by decide +kernel⟩
/-- a list of goings, tuples all -/
structure MvAt (H : Hp) (a : Addr) (ms : List Mv) (us : List V) : Prop where
  e : H a = some (.lst us)
  l : us.length = ms.length
  d : ∀ (j : Nat) u, us[j]? = some u → ∃ t m, u = .ref t ∧ ms[j]? = some m ∧ H t = some (.tup (mvV m))
theorem MvAt.dp {H : Hp} {a : Addr} : ∀ {ms : List Mv} {us : List V}, us.length = ms.length → (∀ (j : Nat) u, us[j]? = some u → ∃ t m, u = .ref t ∧ ms[j]? = some m ∧ H t = some (.tup (mvV m))) → DpAll K H us (ms.map mvD)
  | [], [], _, _ => .nil
  | [], _ :: _, h, _ => by simp at h
  | _ :: _, [], h, _ => by simp at h
  | m :: ms, u :: us, h, hd => by
    obtain ⟨t, m', e, em, et⟩ := hd 0 u rfl
    have e' : m = m' := by simpa using em
    subst e'
    rw [e]
    exact .cons (.tup (.inl (.inl et)) (.cons (.int _) (.cons (.str _) .nil))) (MvAt.dp (a := a) (by simpa using h) fun j u q => by simpa using hd (j + 1) u (by simpa using q))
theorem MvAt.snoc {H H' : Hp} {a t : Addr} {ms : List Mv} {us : List V} {m : Mv} (h : MvAt H a ms us) (hk : ∀ (b : Addr) xs, H b = some (.tup xs) → H' b = some (.tup xs)) (et : H' t = some (.tup (mvV m))) (ea : H' a = some (.lst (us ++ [.ref t]))) : MvAt H' a (ms ++ [m]) (us ++ [.ref t]) := by
  refine ⟨ea, by rw [List.length_append, List.length_append, h.l]; rfl, fun j u hu => ?_⟩
  by_cases hj : j < us.length
  · rw [List.getElem?_append_left hj] at hu
    obtain ⟨t', m', e1, e2, e3⟩ := h.d j u hu
    exact ⟨t', m', e1, by rw [List.getElem?_append_left (by rw [← h.l]; exact hj)]; exact e2, hk _ _ e3⟩
  · rw [List.getElem?_append_right (by omega)] at hu
    have hj0 : j - us.length = 0 := by
      rcases Nat.eq_zero_or_pos (j - us.length) with q | q
      · exact q
      · rw [List.getElem?_eq_none (by simp; omega)] at hu; cases hu
    rw [hj0] at hu
    have e : V.ref t = u := by simpa using hu
    refine ⟨t, m, e.symm, ?_, et⟩
    rw [List.getElem?_append_right (by rw [← h.l]; omega), ← h.l, hj0]; rfl
def spMay (K : PySem.W.Frag) : Sp := fun vs H Q _ => ∃ (v u : V) (c : Cn) (s : Sn) (B : Int), vs = [v, u] ∧ CnAny K H v c ∧ SnAny K H u s ∧ okCn 100 100 c ∧ okSn c B s ∧ ∀ p us H', Same H H' → H p = none → MvAt H' p (may c s c.ls.length) us → Q (.ref p) H'
theorem ok_may {f fe : Addr} {fd fde : FuncData} {k : Nat} {tR tB : Tok} (F : Fun K "may_go" "may_go" sMay f fd) (Ha : Fns P w K mg base k "has_boat" ["canal", "standing", "lock", "water"] (spHas K) fe fde) (gRED : mg "RED" = some (.str "red" tR)) (gBLUE : mg "BLUE" = some (.str "blue" tB)) (m_range : mg "range" = none) (m_len : mg "len" = none) : FnOk P w K mg base CX0 (k + 1) f fd ["canal", "standing"] (spMay K) := by
  refine F.ok scMay (fun vs H Q E h => ?_) (fun cdv A outer s H vs Q E hr h => ?_)
  · obtain ⟨v, u, c, s, B, rfl, _⟩ := h
    rfl
  obtain ⟨v, u, c, s, B, rfl, hc, hs, okc, oks, q⟩ := h
  obtain ⟨a, g, vs, rfl, ha, hg, hl, hv⟩ := hc.ex
  refine ⟨_, (pss_cons (ps_set (i := 2) scMay.nd rfl (.inl rfl) (pe_lst pa_nil))
    (pss_cons (ps_for PassesOwn.never rfl (pi_range1 rfl m_range (pa_cons (pe_callB (r := rLenA K) call_lenA rfl m_len PySem.boot_len (pa_cons (pe_ix (r := rIxA K) ix_any (pv 0) pe_int (fun _ _ => rfl)) pa_nil)) pa_nil)) (pg_name (i := 3) scMay.nd rfl (.inl rfl))
    (pss_one (ps_for PassesOwn.never rfl (pi_seq (pe_tup (pa_cons (pe_glob (v := .str "red") rfl gRED ⟨_, rfl⟩) (pa_cons (pe_glob (v := .str "blue") rfl gBLUE ⟨_, rfl⟩) pa_nil)))) (pg_name (i := 4) scMay.nd rfl (.inl rfl))
    (pss_one (ps_if (pt_val (pe_fn Ha hr rfl (pa_cons (pv 0) (pa_cons (pv 1) (pa_cons (pv 3) (pa_cons (pv 4) pa_nil)))))) (pss_one (ps_expr (pe_bm PySem.F.plainAttrs_list PySem.F.slot_list_append PySem.F.type_list_append mt_append (pv 2) (pa_cons (pe_tup (pa_cons (pv 3) (pa_cons (pv 4) pa_nil))) pa_nil)))) pss_nil)))))
    (pss_one (ps_ret (pv 2))))), ?_⟩
  refine ⟨(by show 0 ≤ sizeLine; decide), fun tl ntl => ?_⟩
  have s1 : Same H (upd H tl (.lst [])) := same_new ntl
  refine at_g (σ' := [some (.ref a), some u, some (.ref tl), none, none]) rfl ?_
  have hnl : c.ls.length ≤ 100 := okc.n
  refine ⟨_, rfl, a, _, _, _, rfl, rfl, Same.sq2 s1 ha, rfl, g, vs, rfl, Same.sq2 s1 hg, _, rfl, by omega, by omega, for_it walk_range (fun i σ H3 => ∃ (us : List V) (y3 y4 : Option V), σ = [some (.ref a), some u, some (.ref tl), y3, y4] ∧ Same H H3 ∧ MvAt H3 tl (may c s i) us) ⟨[], none, none, rfl, s1, upd_same, rfl, fun j u h => by simp at h⟩ (fun _ _ _ _ _ => trivial) (fun i x σ H3 H4 hi h hy => ?_) (fun σ H3 h => ?_)⟩
  · obtain ⟨us, y3, y4, rfl, sm, M⟩ := h
    obtain ⟨rfl, rfl⟩ := hy
    have hi2 : i < c.ls.length := by omega
    refine at_g (σ' := [some (.ref a), some u, some (.ref tl), some (.int (0 + i)), y4]) rfl ?_
    rw [Int.zero_add]
    refine ⟨(by show 2 ≤ sizeLine; decide), fun tp ntp => ?_⟩
    have stp : Same H4 (upd H4 tp (.tup [.str "red", .str "blue"])) := same_new ntp
    have etp : (upd H4 tp (.tup [.str "red", .str "blue"])) tp = some (.tup [.str "red", .str "blue"]) := upd_same
    have nlt : tl ≠ tp := ne_of_none M.e ntp
    -- between the two waters
    refine ⟨tp, [.str "red", .str "blue"], rfl, .inr (.inl (.inl etp)), fun J wk => for_it wk (fun j σ H5 => ∃ (us : List V) (y4 : Option V), σ = [some (.ref a), some u, some (.ref tl), some (.int (i : Nat)), y4] ∧ Same H H5 ∧ H5 tp = some (.tup [.str "red", .str "blue"]) ∧ MvAt H5 tl (may c s i ++ ([true, false].take j).filterMap fun r => if hasB c s i r = true then some (i, r) else none) us)
      ⟨us, y4, rfl, sm.trans stp, etp, ?_⟩ (fun j σ H5 _ h => ?_) (fun j x σ H5 H6 hj h hy => ?_) (fun σ H5 h => ?_)⟩
    · rw [show ([true, false].take 0).filterMap (fun r => if hasB c s i r = true then some (i, r) else none) = [] from rfl, List.append_nil]
      exact ⟨stp _ _ M.e, M.l, fun j u hu => by
        obtain ⟨t, m, e1, e2, e3⟩ := M.d j u hu
        exact ⟨t, m, e1, e2, stp _ _ e3⟩⟩
    · obtain ⟨_, _, _, s5, e5, _⟩ := h
      exact ⟨fun nt _ => absurd (.inl (.inl etp)) nt, fun _ => .inl (.inl e5)⟩
    · obtain ⟨us, y4, rfl, s5, e5, M5⟩ := h
      obtain ⟨rfl, hx⟩ := hy
      obtain ⟨r, ex, er⟩ : ∃ r : Bool, x = .str (wS r) ∧ [true, false][j]? = some r := by
        match j, hj, hx with
        | 0, _, hx => exact ⟨true, (Option.some.inj hx).symm, rfl⟩
        | 1, _, hx => exact ⟨false, (Option.some.inj hx).symm, rfl⟩
      subst ex
      have etk : ([true, false].take (j + 1)) = [true, false].take j ++ [r] := by rw [List.take_succ, er]; rfl
      refine at_g (σ' := [some (.ref a), some u, some (.ref tl), some (.int (i : Nat)), some (.str (wS r))]) rfl ?_
      refine ⟨_, rfl, _, rfl, _, rfl, _, rfl, .ref a, u, i, r, c, s, B, rfl, hc.same s5, hs.same s5, hi2, okc, oks, fun H7 s7 => ⟨_, rfl, ?_⟩⟩
      have M7 : MvAt H7 tl (may c s i ++ ([true, false].take j).filterMap fun r => if hasB c s i r = true then some (i, r) else none) us := ⟨s7 _ _ M5.e, M5.l, fun j u hu => by
        obtain ⟨t, m, e1, e2, e3⟩ := M5.d j u hu
        exact ⟨t, m, e1, e2, s7 _ _ e3⟩⟩
      cases hb : hasB c s i r with
      | false =>
        refine iteF ⟨us, _, rfl, s5.trans s7, s7 _ _ e5, ?_⟩
        rw [etk, List.filterMap_append]
        have e0 : [r].filterMap (fun r => if hasB c s i r = true then some (i, r) else none) = [] := by simp [hb]
        rw [e0, List.append_nil]; exact M7
      | true =>
        refine iteT ⟨_, rfl, .inl ⟨rfl, _, SqL.of M7.e⟩, _, rfl, _, rfl, (by show 2 ≤ sizeLine; decide), fun t nt => ?_⟩
        have st : Same H7 (upd H7 t (.tup (mvV (i, r)))) := same_new nt
        have hul : us.length ≤ 1000 := by
          rw [M7.l, List.length_append]
          have h1 := may_len c s i
          have h2 : (([true, false].take j).filterMap fun r => if hasB c s i r = true then some (i, r) else none).length ≤ ([true, false].take j).length := List.length_filterMap_le _ _
          have h3 : ([true, false].take j).length ≤ 2 := by rw [List.length_take]; exact Nat.min_le_right _ _
          omega
        refine ⟨tl, us, _, rfl, rfl, st _ _ M7.e, small1000 hul, ?_⟩
        have htl : ∀ {b : Addr} {xs : List V}, H7 b = some (.tup xs) → upd (upd H7 t (.tup (mvV (i, r)))) tl (.lst (us ++ [.ref t])) b = some (.tup xs) := fun {b xs} e => by
          rw [upd_ne (fun z => by rw [z, M7.e] at e; cases e)]; exact st _ _ e
        have ttl : t ≠ tl := fun z => by rw [z, M7.e] at nt; cases nt
        refine ⟨us ++ [.ref t], _, rfl, fun b o e => ?_, htl (s7 _ _ e5), ?_⟩
        · rw [upd_ne (ne_of_none e ntl)]; exact st _ _ (s7 _ _ (s5 _ _ e))
        · rw [etk, List.filterMap_append]
          have e0 : [r].filterMap (fun r => if hasB c s i r = true then some (i, r) else none) = [(i, r)] := by simp [hb]
          rw [e0, ← List.append_assoc]
          exact M7.snoc (fun b xs e => htl e) (by rw [upd_ne ttl, upd_same]; rfl) upd_same
    · obtain ⟨us, y4, rfl, s5, e5, M5⟩ := h
      refine ⟨us, _, _, rfl, s5, ?_⟩
      rw [may_succ]; exact M5
  · obtain ⟨us, y3, y4, rfl, sm, M⟩ := h
    have en : ((vs.length : Int)).toNat = c.ls.length := by omega
    rw [en] at M
    exact ⟨_, rfl, q tl us H3 sm ntl M⟩
end
end XL
namespace PySem
namespace XE
open Builtin Builtin.ObjectAttr
/-! ### own exceptions as values: made by place or with keywords -/
section
variable {prog : Program} {w : World} {M : Model} {A : Around} {E : Value → Shared → Prop} {R : Result → Shared → Prop} {h : Heap} {g : Array GenState} {d : Drawn} {t : Nat} {os : OsState}
variable {nm q : Str} {C N : Addr} {bs bm : List Value} {hdct : Bool} {sn : List Str} {sub : List Value} {ab : Bool} {col : Option Bool} {dd : Option Addr} {k0 k1 k2 k3 k5 : Option Value} {B newId initId : String}
theorem newK_check (F : ExcBaseFacts B newId initId bm) {rest : List Value} {kw : List (Str × Value)} {Q : Unit → Shared → Prop}
    (hC : h.get? C = some (excClassObj nm q C N bs bm hdct sn sub ab col dd k0 k1 k2 k3 k5 newId)) (hq : Q () ⟨h, g, d, t, os⟩) : wpAny M A (checkBuiltinCall newId ⟨.ref C :: rest, kw⟩) Q E ⟨h, g, d, t, os⟩ := by
  have hcont : (Value.ref C :: bm).contains (.type B) = true := by rw [List.contains_cons, F.hasB, Bool.or_true]
  have hstar := F.noStar; simp only [checkBuiltinCall, F.newKind, F.newSplit, F.newRow]
  repeat (first | refine wpAny_loadPart_at hC ?_ | (refine wpAny_isSubtype_exc hC ?_; rw [hcont]) | refine wpAny_staticBase_exc hC ?_ | refine wpAny_madeBy_exc hC ?_ | simp only [bne_self_eq_false, Bool.false_eq_true, if_false] | wp_step)
  exact hq
theorem newK_run (F : ExcBaseFacts B newId initId bm) {rest : List Value} {kw : List (Str × Value)}
    (hC : h.get? C = some (excClassObj nm q C N bs bm hdct sn sub ab col dd k0 k1 k2 k3 k5 newId))
    (hq : R (.ok (.ret (.ref (h.objs.size + 1)))) ⟨(h.push (W.kdv_tup rest)).push (HandSPX.excO C h.objs.size), g, d, t, os⟩) (hrest : rest.length ≤ sizeLine) :
    codeAny (model prog w) A (.builtin newId ⟨.ref C :: rest, kw⟩) R ⟨h, g, d, t, os⟩ := by
  have hends := F.ends; have hcB : (Value.ref C :: bm).contains (.type B) = true := by rw [List.contains_cons, F.hasB, Bool.or_true]
  have hcA : (Value.ref C :: bm).contains (.type "AttributeError") = false := by rw [List.contains_cons, F.noAttr]; rfl
  have hcN : (Value.ref C :: bm).contains (.type "NameError") = false := by rw [List.contains_cons, F.noName]; rfl
  refine codeAny_builtinAt F.entry ?_; unfold Builtin.«BaseException.__new__»; refine wpAt_bind ?_
  show wpAt _ _ _ (stack >>= _) _ _ _
  refine wpAt_bind (wpAt_stack fun p below => wpAt_of_wpAny ?_); wp_walk; refine wpAt_of_wpAny ?_; rw [F.owner]
  repeat (first | with_reducible refine wpAny_madeHere_exc F.canon hC ?_ | with_reducible refine wpAny_loadPart_at hC ?_ | (with_reducible refine wpAny_isSubtype_exc hC ?_; first | rw [hcB] | rw [hcA] | rw [hcN]) | wp_step)
  show R _ _
  rw [Heap.size_push]; exact hq
theorem typeK_check {rest : List Value} {kw : List (Str × Value)} {Q : Unit → Shared → Prop} (hC : h.get? C = some (excClassObj nm q C N bs bm hdct sn sub ab col dd k0 k1 k2 k3 k5 newId))
    (hq : Q () ⟨h, g, d, t, os⟩) : wpAny M A (checkBuiltinCall "type.__call__" ⟨.ref C :: rest, kw⟩) Q E ⟨h, g, d, t, os⟩ := by
  have f3 := tc_sub; have hT : (⟨h, g, d, t, os⟩ : Shared).TypeIs (.ref C) "type" := ⟨_, hC, rfl⟩
  simp only [checkBuiltinCall, tc_kind, tc_split]
  repeat (any_goals (first | assumption | with_reducible refine wpAny_loadPart_at hC ?_ | with_reducible refine wpAny_onRaise ?_ | with_reducible refine wpAny_map ?_ | wp_step))
theorem typeK_call (F : ExcBaseFacts B newId initId bm) {rest : List Value} {kw : List (Str × Value)} {fI : Addr} {Q : Fin → Shared → Prop}
    (hC : h.get? C = some (excClassObj nm q C N bs bm hdct sn sub ab col dd k0 k1 k2 k3 k5 newId))
    (hi : W.Looks (model prog w) h (typeLookup (.ref C) "__init__") (some (.ref fI))) (hb : ∀ self, W.Looks (model prog w) h (bindSpecial (.ref fI) self) (.ref fI, [self])) (hrest : rest.length ≤ sizeLine)
    (hq : codeAny (model prog w) A (.call (.ref fI) ⟨.ref (h.objs.size + 1) :: rest, kw⟩)
      (fun r s' => match r with | .ok (.ret v) => v = .none ∧ Q (.done (.ret (.ref (h.objs.size + 1)))) s' | .ok _ => False | .error e => E e s') ⟨(h.push (W.kdv_tup rest)).push (HandSPX.excO C h.objs.size), g, d, t, os⟩) :
    wpAny (model prog w) A (Builtin.«type.__call__» ⟨.ref C :: rest, kw⟩) Q E ⟨h, g, d, t, os⟩ := by
  repeat (first | with_reducible refine wpAny_loadPart_at hC ?_ | with_reducible refine wpAny_madeBy_exc hC ?_ | wp_step)
  refine codeAny_call_builtin_code (Code.quiet_builtin _ F.quiet) (newK_check F hC ?_)
  refine newK_run F hC ?_ hrest
  show wpAny _ _ _ _ _ _
  have k : ∀ b o, h.get? b = some o → ((h.push (W.kdv_tup rest)).push (HandSPX.excO C h.objs.size)).get? b = some o := fun b o e => Heap.get?_push_of_some _ (Heap.get?_push_of_some _ e)
  have hC₁ := k _ _ hC
  have hget : ((h.push (W.kdv_tup rest)).push (HandSPX.excO C h.objs.size)).get? (h.objs.size + 1) = some (HandSPX.excO C h.objs.size) := by heap_get
  have hcC : (Value.ref C :: bm).contains (.ref C) = true := by simp
  have i1 := hi.keeps k; have b1 := (hb (.ref (h.objs.size + 1))).keeps k
  unfold isInstance
  repeat (first | with_reducible refine wpAny_loadPart_at hget ?_ | (with_reducible refine wpAny_isSubtype_exc hC₁ ?_; rw [hcC]) | wp_step)
  show wpAny _ _ (typeLookup (.ref C) _) _ _ _
  refine i1.at ?_
  refine wpAny_holding (wpAny_bind (b1.at ?_))
  refine wpAny_bind (wpAny_call (codeAny_mono hq fun r s' z => ?_))
  rcases r with e | (v | _ | _ | _) <;> first | exact z | exact z.elim | skip
  obtain ⟨rfl, z⟩ := z
  first | exact wpAny_pure (wpAny_pure z) | (wp_walk; exact z)
theorem callK (F : ExcBaseFacts B newId initId bm) {rest : List Value} {kw : List (Str × Value)} {fI : Addr}
    (hC : h.get? C = some (excClassObj nm q C N bs bm hdct sn sub ab col dd k0 k1 k2 k3 k5 newId))
    (hi : W.Looks (model prog w) h (typeLookup (.ref C) "__init__") (some (.ref fI))) (hb : ∀ self, W.Looks (model prog w) h (bindSpecial (.ref fI) self) (.ref fI, [self])) (hrest : rest.length ≤ sizeLine)
    (hq : codeAny (model prog w) (A.under (.builtin "type.__call__" ⟨.ref C :: rest, kw⟩)) (.call (.ref fI) ⟨.ref (h.objs.size + 1) :: rest, kw⟩) (W.InitBack (h.objs.size + 1) R)
      ⟨(h.push (W.kdv_tup rest)).push (HandSPX.excO C h.objs.size), g, d, t, os⟩) : codeAny (model prog w) A (.call (.ref C) ⟨rest, kw⟩) R ⟨h, g, d, t, os⟩ := by
  have f1 := tc_lookup; have f2 := tc_bind (.ref C); have hTy : (⟨h, g, d, t, os⟩ : Shared).TypeIs (.ref C) "type" := ⟨_, hC, rfl⟩
  refine codeAny_of_tree ?_
  show wpAny _ _ (callAny (.ref C) _) _ _ _
  repeat (any_goals (first | assumption | with_reducible refine wpAny_loadPart_at hC ?_ | wp_step))
  refine ⟨rfl, ?_⟩
  refine codeAny_call_builtin_at (Code.quiet_builtin _ (by decide +kernel)) entry_typeCall (typeK_check hC (typeK_call F hC hi hb hrest ?_))
  refine codeAny_mono hq fun r s' z => ?_
  rcases r with e | (v | _ | _ | _) <;> exact z
end
/-! ### self.name = v -/
section
variable {prog : Program} {w : World} {A : Around} {E : Value → Shared → Prop} {R : Result → Shared → Prop} {hp : Heap} {g : Array GenState} {d : Drawn} {t : Nat} {os : OsState}
theorem osaG {K : W.Frag} {name : Str} {tk : Tok} {v : Value} {x C : Addr} {fv : Array Value} {cd : ClassData}
    (X : K.In hp) (hx : hp.get? x = some { cls := .ref C, data := .fields fv }) (hcd : W.clsIn K C = some cd) (ne : cd.mro.isEmpty = false) (hob : cd.mro.contains (.type "object") = true) (hpass : ∀ self, refuseLoop self "__setattr__" cd.mro = pure ())
    (hh : cd.hasDict = true) (ha : W.findIn K (.ref C) name = some none)
    (hq : ∀ h' tk' dx, (∀ b o, b ≠ x → hp.get? b = some o → h'.get? b = some o) → hp.objs.size ≤ dx → dx ≠ x → h'.get? x = some { cls := .ref C, dict := some dx, data := .fields fv } → h'.Ns1 dx (fun y => if y = name then some v else none) →
      R (.ok (.ret .none)) ⟨h', g, d, tk', os⟩) :
    codeAny (model prog w) A (.call (.builtin "object.__setattr__") ⟨[.ref x, .str name tk, v], []⟩) R ⟨hp, g, d, t, os⟩ := by
  have I : W.InstAt hp x { cls := .ref C, data := .fields fv } C none := ⟨hx, rfl, rfl, trivial⟩
  have SF := F.store_object; have hxs : x ≠ hp.objs.size := Nat.ne_of_lt (Heap.lt_size hx)
  have sub : W.Looks (model prog w) hp (isInstance (.ref x) (.type "object")) true := I.type.andThen (W.looks_mroIn X (by unfold W.mroIn; rw [hcd, Option.bind_some, if_neg (by rw [ne]; decide), hob]))
  refine codeAny_call_builtin SF.slot.plain SF.entry (@W.check_slot (model prog w) _ _ ⟨hp, g, d, t, os⟩ "object.__setattr__" "object" "__setattr__" (.ref x) [.str name tk, v] [] _ SF.kind SF.split sub (SF.args (.ref x) (.str name tk) v) ?_)
  have hmr : W.Looks (model prog w) hp (mroOf (.ref C)) cd.mro := (W.looks_clsIn X hcd).andThen .now
  have L3 : W.Looks (model prog w) hp (storeTaker? none) none := .now; have hcls : W.Looks (model prog w) hp (classData C) cd := W.looks_clsIn X hcd
  rw [W.osa_eq, refuse_eq]
  refine wpAny_bind (wpAny_bind (I.type.at (wpAny_bind (hmr.at ?_))))
  rw [hpass]
  refine wpAny_pure (wpAny_bind (I.type.at (wpAny_bind ((W.looks_findIn X ha).at (wpAny_bind (L3.at ?_))))))
  show wpAny _ _ (storeInOwnDict (.ref x) (.ref C) (.str name tk) name v false) _ _ _
  obtain ⟨nm, bs, mro, ns, qn, hd, sn, sb, ab, col, del⟩ := cd
  dsimp only at hh
  subst hh
  unfold storeInOwnDict ownDictForStores
  repeat (first | with_reducible refine HandSPX.store_in_new ?_ ?_ | with_reducible refine wpAny_loadPart_at hx ?_ | with_reducible refine hcls.at ?_ | wp_step)
  · exact ⟨_, #[], _, (Heap.get?_update_ne _ _ _ _ hxs.symm).trans (Heap.get?_push_at rfl rfl), rfl, fun e he => absurd he (by simp), fun _ => rfl⟩
  · intro h' tk' hn' hs
    have hx₁ : (hp.push { cls := .type "dict", data := .dict #[] }).get? x = some { cls := .ref C, data := .fields fv } := Heap.get?_push_of_some _ hx
    refine hq h' tk' hp.objs.size (fun b o hb ho => ?_) (Nat.le_refl _) hxs.symm ?_ hn'
    · exact (hs.2 b (Nat.ne_of_lt (Heap.lt_size ho))).trans ((Heap.get?_update_ne _ _ _ _ hb).trans (Heap.get?_push_of_some _ ho))
    · exact (hs.2 x hxs).trans (Heap.get?_update_self _ hx₁ rfl)
end
end XE
end PySem
namespace XL
open PySem PySem.Spec PyProof.Rows L2
/-- what the written part says of an own exception class straight over B -/
structure ExF (K : PySem.W.Frag) (C : Addr) (B newId initId : String) (bm : List Value) : Prop where
  base : ExcBaseFacts B newId initId bm
  pass : ∀ self, refuseLoop self "__setattr__" (.ref C :: bm) = pure ()
  obj : bm.contains (.type "object") = true
  cls : ∃ nm q N bs sn sub ab col dd k0 k1 k2 k3 k5, K.lookup C = some (excClassObj nm q C N bs bm true sn sub ab col dd k0 k1 k2 k3 k5 newId)
  sa : PySem.W.findIn K (.ref C) "__setattr__" = some (some (.builtin "object.__setattr__"))
  ga : PySem.W.findIn K (.ref C) "__getattribute__" = some (some (.builtin "BaseException.__getattribute__"))
  gt : PySem.W.findIn K (.ref C) "__getattr__" = some none
  exC : PySem.W.subIn K (.ref C) (.type "BaseException") = some true
  kC : PySem.W.keepIn K (.ref C) = true
  hd : PySem.W.hasDictIn K C = true
  ca : PySem.W.findIn K (.ref C) "__class__" = some (some (.builtin "object.__class__"))
  cn : PySem.W.specialIn K (.builtin "object.__class__") "__get__" = some (some (.builtin "getset_descriptor.__get__"))
  ct : PySem.W.takesIn K (.builtin "object.__class__") = some true
  mo : PySem.W.mroIn K C (.type "object") = some true
section
variable {X : Cx} {pins : List (Addr × Obj)} {σ : L2.St} {H : Hp} {s : Shared} {a C dx : Addr} {f : Str} {y : V} {u : Value} {fs : List (Str × V)} {E : Value → Shared → Prop} {A : Around} {B newId initId : String} {bm : List Value}
theorem ost_newG {Q : Unit → Shared → Prop} (T : ExF X.K C B newId initId bm) (I : Inv X pins σ H s) (e : H a = some (exo a C none)) (hno : PySem.W.findIn X.K (.ref C) f = some none) (ry : RelV y u)
    (h : ∀ dx s', H dx = none → dx ≠ a → Inv X pins σ (upd (upd H dx (exd dx [(f, y)])) a (exo a C (some dx))) s' → Q () s') : wpAny (model X.prog X.w) A (setAttr (.ref a) f u) Q E s := by
  obtain ⟨nm, q, N, bs, sn, sub, ab, col, dd, k0, k1, k2, k3, k5, hC⟩ := T.cls
  have hcl : PySem.W.clsIn X.K C = some { name := nm, bases := bs, mro := .ref C :: bm, ns := N, qualname := q, hasDict := true, slotNames := sn, subclasses := sub, abstract := ab, collection := col, hasDel := false } := by unfold PySem.W.clsIn; rw [hC] <;> rfl
  obtain ⟨t1, ho⟩ := exo_at I.hok e
  obtain ⟨hp, g, d, t, os⟩ := s
  refine PySem.W.set_plain I.kIn (ox := { cls := .ref C, dict := none, data := .fields #[.ref t1, .none, .none, .none, .bool false, .none] }) (od := none) ⟨ho, rfl, rfl, trivial⟩ T.sa ?_
  refine PySem.XE.osaG I.kIn ho hcl rfl (by show (Value.ref C :: bm).contains (.type "object") = true; rw [List.contains_cons, T.obj, Bool.or_true]) T.pass rfl hno (fun h' tk' dx k dn dne hx hn => ?_)
  have hnd : H dx = none := I.hok.fresh dn
  have nd : ∀ {b : Addr} {o : Obj}, hp.get? b = some o → b ≠ dx := fun {b o} q => Nat.ne_of_lt (Nat.lt_of_lt_of_le (Heap.lt_size q) dn)
  have na : ∀ {b : Addr}, H b = none → b ≠ a := fun {b} n z => by rw [z, e] at n; cases n
  have Un1 : Un X.fs [] H (upd (upd H dx (exd dx [(f, y)])) a (exo a C (some dx))) hp h' := {
    keep := fun b o q n _ _ => k b o (na n) q
    slot := fun b o q n _ _ => ⟨o.slots, k b o (na n) q⟩
    free := fun b o q n _ => by rw [upd_ne (na n), upd_ne (nd q)]; exact n
    there := fun b o q _ => by
      by_cases hb : b = a
      · exact ⟨_, by rw [hb]; exact hx⟩
      · exact ⟨o, k b o hb q⟩
    tups := fun b xs q => by rw [upd_ne (at_ne e q exo_tup), upd_ne (ne_of_none q hnd)]; exact q
    frzs := fun b o v q => by rw [upd_ne (at_ne e q exo_frz), upd_ne (ne_of_none q hnd)]; exact q
    tbls := fun b ps q => ⟨#[], by rw [upd_ne (at_ne e q exo_tbl), upd_ne (ne_of_none q hnd), q]; simp⟩ }
  refine h dx _ hnd dne (I.un (t' := tk') Un1 fun b o q => ?_)
  by_cases hb : b = a
  · subst hb; rw [upd_same] at q; cases q; exact exo_ok hx
  · rw [upd_ne hb] at q
    by_cases hd : b = dx
    · subst hd; rw [upd_same] at q; cases q
      exact exd_ok hn (relO_put (fs := []) ry fun g => True.intro)
    · rw [upd_ne hd] at q
      refine (I.hok b o q).stay (fun c v hc z => k c v ?_ z) (fun c hc => ?_) fun c xs hc => ?_
      · rcases hc with hc | hc
        · rw [hc]; exact hb
        · exact at_ne e hc exo_own
      · rw [upd_ne (at_ne e hc exo_own), upd_ne (ne_of_none hc hnd)]; exact hc
      · rw [upd_ne (at_ne e hc exo_tup), upd_ne (ne_of_none hc hnd)]; exact hc
theorem initG {us : List Value} {Q : Value → Shared → Prop} (T : ExF X.K C B newId initId bm) (I : Inv X pins σ H s) (e : H a = some (exo a C none)) (hl : us.length ≤ sizeLine) (h : ∀ s', Inv X pins σ H s' → Q .none s') :
    wpAny (model X.prog X.w) A (call (.builtin initId) (.ref a :: us)) Q E s := by
  obtain ⟨nm, q, N, bs, sn, sub, ab, col, dd, k0, k1, k2, k3, k5, hC⟩ := T.cls
  obtain ⟨t1, ho⟩ := exo_at I.hok e
  obtain ⟨hp, g, d, t, os⟩ := s
  refine wpAny_call (PySem.HandSPX.init_base T.base (fun Y => rfl) (I.kIn _ _ hC) ho hl fun h' t2 k hx => ?_)
  have J := I.write (t' := t) (x := a) (e := a) (o := exo a C none) (by rw [e]; exact True.intro) (.inl rfl) k ⟨_, hx⟩ (exo_ok hx)
  have eu : upd H a (exo a C none) = H := by
    funext b
    by_cases hb : b = a
    · rw [hb, upd_same, e]
    · rw [upd_ne hb]
  rw [eu] at J
  exact h _ J
end
theorem inst_of {X : Cx} {pins : List (Addr × Obj)} {σ : L2.St} {H : Hp} {s : Shared} {a C : Addr} {d : Option Addr} (I : Inv X pins σ H s) (ea : H a = some (exo a C d)) (hd : ∀ dd, d = some dd → ∃ fs, H dd = some (exd dd fs)) :
    ∃ (t1 : Addr) , ∃ od, PySem.W.InstAt s.heap a ({ cls := .ref C, dict := d, data := .fields #[.ref t1, .none, .none, .none, .bool false, .none] } : Obj) C od := by
  obtain ⟨t1, ho⟩ := exo_at I.hok ea
  cases d with
  | none => exact ⟨t1, none, ho, rfl, rfl, trivial⟩
  | some dd =>
    obtain ⟨fs, ed⟩ := hd dd rfl
    obtain ⟨mA, hns, hr⟩ := exd_at I.hok ed
    obtain ⟨od, hod, hl⟩ := lookIn_ns hns
    exact ⟨t1, some od, ho, rfl, rfl, hod⟩
/-- B.__init__(self, ..) -/
def tBi (K : PySem.W.Frag) (B newId initId : String) (bm : List Value) (ta : TA) : TE := fun σ H Q => ta σ H fun vs H1 => ∃ (a C : Addr) (ws : List V), vs = .ref a :: ws ∧ ws.length ≤ 1000 ∧ ExF K C B newId initId bm ∧ H1 a = some (exo a C none) ∧ Q .non H1
/-- self.f = e, the first one -/
def tOs1 (K : PySem.W.Frag) (B newId initId : String) (bm : List Value) (f : Str) (to te : TE) : TS := fun D σ H => te σ H fun y H1 => to σ H1 fun x H2 => ∃ a C : Addr, x = .ref a ∧ ExF K C B newId initId bm ∧ PySem.W.findIn K (.ref C) f = some none ∧
  H2 a = some (exo a C none) ∧ ∀ dx, H2 dx = none → dx ≠ a → D.nx σ (upd (upd H2 dx (exd dx [(f, y)])) a (exo a C (some dx)))
section
variable {X : Cx} {o e : Expr} {es : List Expr} {to te : TE} {ta : TA} {f : Str} {p p' p1 p2 pos : Pos} {B newId initId : String} {bm : List Value}
theorem pe_binit {bn : Str} {pl : Sem Bool} (hg : Gl X bn) (hm : X.mg bn = none) (hboot : bootBuiltins bn = some (.type B)) (hty : typeOf (.type B) = pure (.type "type")) (vV : PySem.W.findCls X.K (.type B) (.type "type") "__init__" = some (.val (.builtin initId))) (ha : PA X (e :: es) ta)
    (h1 : bn ≠ "__name__") (h2 : (bn == ("__debug__" : Str)) = false) (hst : Manifest.isStub B = false) (hhd : PySem.W.handedIn (.builtin initId) = true)
    (hc : eval (.Call (.Attribute (.Name bn p1) "__init__" p2) (e :: es) [] pos) X.env = (do
      let ov ← eval (.Name bn p1) X.env
      standAt p2.atName
      let (f, first) ← holding [ov] (getMethod ov "__init__" pl)
      callWith pos f first (backTo pos (starEach (e :: es) X.env)) (backToKw pos (keywordEach [] X.env))) := by rfl)
    (he : starEach (e :: es) X.env = (false, eval e X.env) :: starEach es X.env := by rfl) (hpl : (backTo pos (starEach es X.env)).any (·.1) = false := by rfl) :
    PE X (.Call (.Attribute (.Name bn p1) "__init__" p2) (e :: es) [] pos) (tBi X.K B newId initId bm ta) := by
  refine ⟨fun pins s σ H Q I h => ?_⟩
  refine PySem.W.methodCall_KW (ld_blt I hg hm hboot ?_ h1 h2) hc
  obtain ⟨m, fr⟩ := I.fr
  refine PySem.W.method_type fr I.ok.mod.kin hty hst vV hhd ?_
  show wpAny _ _ (callWith pos (Value.builtin initId) [] (backTo pos (starEach (e :: es) X.env)) []) _ _ _
  refine PyProof.Rows.callWith_method1 (thn (ha.run pos pins _ σ H _ (I.tok _) h) fun us s1 ⟨vs, H1, I1, r1, a, C, ws, ev, hl, T, ea, q⟩ => ?_) he hpl
  subst ev
  cases r1 with
  | @cons _ u0 _ ur ra rw' =>
    obtain rfl : u0 = Value.ref a := ra
    have hlen : ur.length ≤ sizeLine := by rw [← Paired.length rw', sizeLine_eq]; omega
    exact initG T I1 ea hlen fun s' J => ⟨.non, H1, J, rfl, q⟩
theorem ps_os1 (ho : PE X o to) (he : PE X e te) (hs : swapsWith e (some (.Attribute o f p')) pos.line X.env = pure false := by rfl) : PS X (.Assign [.Attribute o f p'] e pos) (tOs1 X.K B newId initId bm f to te) := by
  refine ⟨fun pins s σ H D I h => ?_⟩
  refine plainObj_wpAny_Assign_Attribute (thn (he.run pins s σ H _ I h) fun v s1 ⟨y, H1, I1, r1, q1⟩ => thn (ho.run pins s1 σ H1 _ I1 q1) fun u s2 ⟨x, H2, I2, r2, a, C, ex, T, hno, ea, q⟩ => ?_) hs
  subst ex
  obtain rfl : u = Value.ref a := r2
  exact ost_newG T I2 ea hno r1 fun dx s' n ne J => ⟨σ, _, J, q dx n ne⟩
/-- C(..): a new exception, its own __init__ keeping sp -/
theorem run_exmk {pins : List (Addr × Obj)} {σ : L2.St} {H1 : Hp} {s1 : Shared} {C fI : Addr} {k : Nat} {fd : FuncData} {ps : List Str} {sp : Sp} {us zs : List Value} {kw : List (Str × Value)} {vs : List V} {Q : VK} (T : ExF X.K C B newId initId bm)
    (iC : PySem.W.findIn X.K (.ref C) "__init__" = some (some (.ref fI))) (tI : PySem.W.typeIn X.K (.ref fI) = some (.type "function")) (F1 : FnOk X.prog X.w X.K X.mg X.base CX0 k fI fd ps sp) (hr : Room (k + 1) X.A) (I1 : Inv X pins σ H1 s1) (hz : us.length ≤ 1000)
    (hb : ∀ (s : Shared) (a : Addr), X.K.In s.heap → (Value.ref a :: zs).length = ps.length → BindsTo s fd ⟨.ref a :: us, kw⟩ (ps.zip (.ref a :: zs))) (r : Vals vs zs)
    (h : ∀ a, H1 a = none → sp (.ref a :: vs) (upd H1 a (exo a C none)) (fun v H2 => v = .non ∧ Q (.ref a) H2) E0) : wpAny (model X.prog X.w) X.A (call (.ref C) us kw) (EP X pins σ Q) X.xe s1 := by
  obtain ⟨nm, q, N, bs, sn, sub, ab, col, dd, k0, k1, k2, k3, k5, hC⟩ := T.cls
  obtain ⟨hp, g, dr, tk, os⟩ := s1
  have hsz : hp.objs.size ≤ hp.objs.size + 1 := Nat.le_succ _
  have hn : H1 (hp.objs.size + 1) = none := I1.hok.fresh hsz
  have hq := h (hp.objs.size + 1) hn
  have kk : ∀ b o, hp.get? b = some o → ((hp.push (PySem.W.kdv_tup us)).push (PySem.HandSPX.excO C hp.objs.size)).get? b = some o := fun b o e => Heap.get?_push_of_some _ (Heap.get?_push_of_some _ e)
  have hget : ((hp.push (PySem.W.kdv_tup us)).push (PySem.HandSPX.excO C hp.objs.size)).get? (hp.objs.size + 1) = some (PySem.HandSPX.excO C hp.objs.size) := by heap_get
  have I2 : Inv X pins σ (upd H1 (hp.objs.size + 1) (exo (hp.objs.size + 1) C none)) ⟨(hp.push (PySem.W.kdv_tup us)).push (PySem.HandSPX.excO C hp.objs.size), g, dr, tk, os⟩ := I1.laid (t' := tk) kk hsz (exo_ok hget)
  have r2 : Vals (V.ref (hp.objs.size + 1) :: vs) (Value.ref (hp.objs.size + 1) :: zs) := .cons rfl r
  have hl : (Value.ref (hp.objs.size + 1) :: zs).length = ps.length := by rw [← r2.length]; exact F1.len _ _ _ _ hq
  have hus : us.length ≤ sizeLine := by rw [sizeLine_eq]; omega
  have e0 : Env0 X.prog X.w X.K X.mg X.base (X.A.under (.builtin "type.__call__" ⟨.ref C :: us, kw⟩)) X.stack _ _ := I2.env0.make C us kw
  refine wpAny_call (PySem.XE.callK T.base (I1.kIn _ _ hC) (PySem.W.looks_findIn I1.kIn iC) (fun self => PySem.W.bind_fn I1.kIn self tI) hus
    (codeAny_mono (F1.run _ X.stack _ _ ⟨Value.ref (hp.objs.size + 1) :: us, kw⟩ (Value.ref (hp.objs.size + 1) :: zs) _ _ E0 (hr.make C us kw) e0 (hb _ _ I2.kIn hl) r2 hq) fun r s' hq' => ?_))
  cases r with
  | error er => exact False.elim hq'
  | ok fl =>
    cases fl with
    | ret u =>
      obtain ⟨v, H2, J, rv, ev, q2⟩ := I2.after hq'
      subst ev
      exact ⟨rv, .ref (hp.objs.size + 1), H2, J, rfl, q2⟩
    | next => exact False.elim hq'
    | brk => exact False.elim hq'
    | cont => exact False.elim hq'
variable {x : Str} {C fI : Addr} {k : Nat} {fd : FuncData} {ps ks : List Str} {sp : Sp} {kws : List Keyword} {tk : TA} {g : List Value → List Value → List Value} {gV : List V → List V → List V}
theorem pe_exmk (T : ExF X.K C B newId initId bm) (iC : PySem.W.findIn X.K (.ref C) "__init__" = some (some (.ref fI))) (tI : PySem.W.typeIn X.K (.ref fI) = some (.type "function")) (F1 : FnOk X.prog X.w X.K X.mg X.base CX0 k fI fd ps sp) (hr : Room (k + 1) X.A) (hb : Binds X.K fd ps [])
    (hg : Gl X x) (hm : X.mg x = some (.ref C)) (ha : PA X (e :: es) ta) (hdb : (x == ("__debug__" : Str)) = false := by decide) (he : starEach (e :: es) X.env = (false, eval e X.env) :: starEach es X.env := by rfl) (hpl : (backTo pos (starEach es X.env)).any (·.1) = false := by rfl) :
    PE X (.Call (.Name x p) (e :: es) [] pos) (fun σ H Q => ta σ H fun vs H1 => vs.length ≤ 1000 ∧ ∀ a, H1 a = none → sp (.ref a :: vs) (upd H1 a (exo a C none)) (fun v H2 => v = .non ∧ Q (.ref a) H2) E0) := by
  refine ⟨fun pins s σ H Q I h => wpAny_Call_Name_kw (ld_glob I hg hm ?_ hdb)⟩
  refine PySem.W.callWith_K (h₀ := X.base) I.ok.mod.kin T.kC (thn (ha.run pos pins s σ H _ I h) fun us s1 ⟨vs, H1, I1, r1, hz, q1⟩ => ⟨I1.kIn, ?_⟩) he hpl
  refine run_exmk (us := us) T iC tI F1 hr I1 (by rw [← r1.length]; exact hz) (fun s a hk hl => ?_) r1 q1
  have b2 := hb s (.ref a :: us) hk (by rw [List.append_nil]; exact hl)
  rwa [List.append_nil] at b2
theorem pe_exmk0 (T : ExF X.K C B newId initId bm) (iC : PySem.W.findIn X.K (.ref C) "__init__" = some (some (.ref fI))) (tI : PySem.W.typeIn X.K (.ref fI) = some (.type "function")) (F1 : FnOk X.prog X.w X.K X.mg X.base CX0 k fI fd ps sp) (hr : Room (k + 1) X.A) (hb : Binds X.K fd ps [])
    (hg : Gl X x) (hm : X.mg x = some (.ref C)) (hdb : (x == ("__debug__" : Str)) = false := by decide) :
    PE X (.Call (.Name x p) [] [] pos) (fun σ H Q => ∀ a, H a = none → sp [.ref a] (upd H a (exo a C none)) (fun v H2 => v = .non ∧ Q (.ref a) H2) E0) := by
  refine ⟨fun pins s σ H Q I h => wpAny_Call_Name_kw (ld_glob I hg hm ?_ hdb)⟩
  refine PySem.W.callWith_K0 I.kIn T.kC (run_exmk (us := []) (kw := []) (zs := []) (vs := []) T iC tI F1 hr I (Nat.zero_le _) (fun s a hk hl => ?_) .nil h)
  have b2 := hb s [.ref a] hk (by rw [List.append_nil]; exact hl)
  rwa [List.append_nil] at b2
/-- C(k = v), one keyword -/
theorem pe_exmkK {kn : Str} (T : ExF X.K C B newId initId bm) (iC : PySem.W.findIn X.K (.ref C) "__init__" = some (some (.ref fI))) (tI : PySem.W.typeIn X.K (.ref fI) = some (.type "function")) (F1 : FnOk X.prog X.w X.K X.mg X.base CX0 k fI fd ps sp) (hr : Room (k + 1) X.A)
    (hb : ∀ (s : Shared) (a : Addr) (z : Value), X.K.In s.heap → (2 : Nat) = ps.length → BindsTo s fd ⟨[.ref a], [(kn, z)]⟩ (ps.zip [.ref a, z])) (hg : Gl X x) (hm : X.mg x = some (.ref C)) (hkw : PK X kws tk)
    (hall : (backToKw pos (keywordEach kws X.env)).all (·.1.isSome) = true := by rfl) (hks : (backToKw pos (keywordEach kws X.env)).filterMap (·.1) = [kn] := by rfl) (hdb : (x == ("__debug__" : Str)) = false := by decide)
    (hpl : ((backTo pos (starEach [] X.env)).any (·.1) || (backToKw pos (keywordEach kws X.env)).any (·.1.isNone)) = false := by rfl) :
    PE X (.Call (.Name x p) [] kws pos) (fun σ H Q => tk σ H fun zs H1 => zs.length = 1 ∧ ∀ a, H1 a = none → sp (.ref a :: zs) (upd H1 a (exo a C none)) (fun v H2 => v = .non ∧ Q (.ref a) H2) E0) := by
  refine ⟨fun pins s σ H Q I h => wpAny_Call_Name_kw (ld_glob I hg hm ?_ hdb)⟩
  refine PySem.W.callWith_KW0 (h₀ := X.base) I.ok.mod.kin T.kC hall (thn (hkw.run pos pins s σ H _ I h) fun ws s2 ⟨zs, H2, I2, rz, hz1, q2⟩ => ⟨I2.kIn, ?_⟩) hpl
  rw [hks]
  have hw : ws.length = 1 := by rw [← rz.length]; exact hz1
  match ws, hw, rz with
  | [z], _, rz => exact run_exmk (us := []) T iC tI F1 hr I2 (Nat.zero_le _) (fun s a hk hl => hb s a z hk hl) rz q2
/-- e.f of such an exception -/
theorem pe_exget {n : Str} (T : ExF X.K C B newId initId bm) (hno : PySem.W.findIn X.K (.ref C) n = some none) (he : PE X e te) (hb : attributeBase e n X.env (eval e X.env) = eval e X.env := by rfl) :
    PE X (.Attribute e n pos) (fun σ H Q => te σ H fun x H1 => ∃ a dd fs v, x = .ref a ∧ H1 a = some (exo a C (some dd)) ∧ H1 dd = some (exd dd fs) ∧ fs.lookup n = some v ∧ Q v H1) := by
  refine ⟨fun pins s σ H Q I h => attr_of hb (thn (he.run pins s σ H _ I h) fun u s1 hh => ?_)⟩
  obtain ⟨x, H1, I1, rx, a, dd, fs, v, ex, ea, ed, l, q⟩ := hh
  subst ex
  obtain rfl : u = Value.ref a := rx
  obtain ⟨t1, ho⟩ := exo_at I1.hok ea
  obtain ⟨mA, hns, hr⟩ := exd_at I1.hok ed
  obtain ⟨od, hod, hl⟩ := lookIn_ns hns
  obtain ⟨u, hu, ru⟩ := RelO.some_of (v := v) (o := mA n) (by rw [← l]; exact hr n)
  have J : PySem.W.InstAt s1.heap a { cls := .ref C, dict := some dd, data := .fields #[.ref t1, .none, .none, .none, .bool false, .none] } C (some od) := ⟨ho, rfl, rfl, hod⟩
  exact HandSPX.exc_get I1.kIn J T.ga T.gt T.exC (PySem.W.findObj_own T.hd hno rfl (by rw [hl, hu])) (handed_of ru) ⟨v, H1, I1.tok _, ru, q⟩
/-- isinstance(e, c) -/
theorem call_isiX : CallR X (.builtin "isinstance") (fun xs H Q => ∃ (a C : Addr) (d : Option Addr) (c : V) (u : Value) (b : Bool) (B newId initId : String) (bm : List Value), xs = [.ref a, c] ∧ ExF X.K C B newId initId bm ∧ H a = some (exo a C d) ∧ (∀ dd, d = some dd → ∃ fs, H dd = some (exd dd fs)) ∧ ClsV c u ∧ PySem.W.kitOne X.K (.ref C) u = some b ∧ Q (.bl b) H) := by
  intro pins s σ H xs us Q I r h
  obtain ⟨a, C, d, c, u, b, B, newId, initId, bm, rfl, T, ea, hd, k, e, q⟩ := h
  obtain ⟨u1, u2, rfl, r1, r2⟩ := vals2 r
  have e2 := k.eq r2
  subst e2
  obtain rfl : u1 = Value.ref a := r1
  obtain ⟨t1, od, J⟩ := inst_of I ea hd
  obtain ⟨nm, q0, N, bs, sn, sub, ab, col, dd, k0, k1, k2, k3, k5, hC⟩ := T.cls
  have hcl : (PySem.W.clsIn X.K C).isSome = true := by unfold PySem.W.clsIn; rw [hC]; rfl
  exact PySem.W.kia_one (PySem.W.kitx_exc hcl T.ga T.gt T.exC T.ca T.cn T.ct T.mo) I.kIn J e (fun z => nomatch z) fun tk => ⟨.bl b, H, I.tok tk, rfl, q⟩
theorem call_isiXT : CallR X (.builtin "isinstance") (fun xs H Q => ∃ (a C tp : Addr) (d : Option Addr) (cs : List V) (ws : List Value) (b : Bool) (B newId initId : String) (bm : List Value), xs = [.ref a, .ref tp] ∧ ExF X.K C B newId initId bm ∧ H a = some (exo a C d) ∧ (∀ dd, d = some dd → ∃ fs, H dd = some (exd dd fs)) ∧ H tp = some (.tup cs) ∧ Paired ClsV cs ws ∧ PySem.W.kitAny X.K (.ref C) ws = some b ∧ Q (.bl b) H) := by
  intro pins s σ H xs us Q I r h
  obtain ⟨a, C, tp, d, cs, ws, b, B, newId, initId, bm, rfl, T, ea, hd, hT, k, e, q⟩ := h
  obtain ⟨u1, u2, rfl, r1, r2⟩ := vals2 r
  obtain rfl : u1 = Value.ref a := r1
  cases (show u2 = Value.ref tp from r2)
  obtain ⟨t1, od, J⟩ := inst_of I ea hd
  obtain ⟨nm, q0, N, bs, sn, sub, ab, col, dd, k0, k1, k2, k3, k5, hC⟩ := T.cls
  have hcl : (PySem.W.clsIn X.K C).isSome = true := by unfold PySem.W.clsIn; rw [hC]; rfl
  obtain ⟨_, its, rv, o, h1, h2, n, h3⟩ := (show ObjOk X.prog X.w H s.heap tp (.tup cs) from I.hok tp _ hT)
  have e3 := ClsV.all k rv
  subst e3
  obtain ⟨oc, od', dt, sl⟩ := o
  simp only at h2 h3
  subst h2 h3
  exact PySem.W.kia_tup (PySem.W.kitx_exc hcl T.ga T.gt T.exC T.ca T.cn T.ct T.mo) I.kIn J h1 e (fun z => nomatch z) fun tk => ⟨.bl b, H, I.tok tk, rfl, q⟩
end
end XL
namespace XL
open PySem PySem.Spec PyProof.Rows L2
/-! ### a caught exception that is kept: its class and its dict are known -/
def exk (a : Addr) (cls : Value) (d : Option Addr) : HO := .ext fun h => ∃ (oe : Obj) (vs : Array Value), h.get? a = some oe ∧ oe.cls = cls ∧ oe.dict = d ∧ oe.data = .fields vs
theorem exk_ok {P : Program} {w : World} {H : Hp} {h : Heap} {a : Addr} {cls : Value} {d : Option Addr} {oe : Obj} {vs : Array Value} (he : h.get? a = some oe) (hc : oe.cls = cls) (hd : oe.dict = d) (hf : oe.data = .fields vs) : ObjOk P w H h a (exk a cls d) :=
  ⟨⟨oe, vs, he, hc, hd, hf⟩, ⟨_, he⟩, fun h1 h2 z k => by
    obtain ⟨o, v, q, r⟩ := z
    exact ⟨o, v, k _ q, r⟩⟩
theorem exk_at {P : Program} {w : World} {H : Hp} {h : Heap} {a : Addr} {cls : Value} {d : Option Addr} (hok : HOk P w H h) (he : H a = some (exk a cls d)) : ∃ (oe : Obj) (vs : Array Value), h.get? a = some oe ∧ oe.cls = cls ∧ oe.dict = d ∧ oe.data = .fields vs := by
  have x : ObjOk P w H h a (.ext fun h => ∃ (oe : Obj) (vs : Array Value), h.get? a = some oe ∧ oe.cls = cls ∧ oe.dict = d ∧ oe.data = .fields vs) := hok a _ he
  exact x.1
theorem flying_keep {B h h' : Heap} {l : List Env} {a : Addr} {Z : Obj → Prop} (x : HandSPX.FlyingZ B l a Z h) (k : ∀ b o, h.get? b = some o → h'.get? b = some o) : HandSPX.FlyingZ B l a Z h' := by
  obtain ⟨x1, x2, x3, oe, vs, T, oT, ts, e1, e2, e3, e4, e5, e6, e7, e8, e9⟩ := x
  exact ⟨fun b o e => k b o (x1 b o e), x2, x3.of_keeps fun b o e _ => ⟨o, k b o e, rfl⟩, oe, vs, T, oT, ts, k _ _ e1, e2, e3, e4, e5, e6, k _ _ e7, e8, e9⟩
section
variable {X : Cx} {pins : List (Addr × Obj)} {σ : L2.St} {H : Hp} {s : Shared} {a : Addr} {oe : Obj} {vs : Array Value} {cls : Value} {d : Option Addr}
theorem Inv.caught (S : Inv (X.suite a ((a, oe) :: (X.pn ++ pins))) [] σ H s) (ok : X.Ok) (n0 : X.s_0.heap.get? a = none) (np : ∀ p ∈ X.pn ++ pins, p.1 ≠ a) (hz : Zc cls d oe) (hd : oe.data = .fields vs) :
    Inv X pins σ (upd H a (exk a cls d)) s := by
  have U := S.unsuite ok
  obtain ⟨ea, na, nL, nF, nc⟩ := S.pin (a, oe) (by rw [List.append_nil]; exact List.mem_cons_self ..)
  have na' : H a = none := na
  have ne : ∀ {b : Addr} {o : HO}, H b = some o → b ≠ a := fun {b o} e z => by rw [z, na'] at e; cases e
  refine ⟨ok, U.os, U.bare, ⟨U.base.keep, U.base.slot, fun b o e n hx => ?_, U.base.there, fun b ys e => ?_, fun b o u e => ?_, fun b ps e => ?_⟩, U.loc, U.cell, ?_, fun x c e => ?_, fun p hp => ?_, fun b o e => ?_, U.len⟩
  · rw [upd_ne (fun z => by rw [z, n0] at e; cases e)]; exact U.base.free b o e n hx
  · have q := U.base.tups b ys e
    rw [upd_ne (ne q)]; exact q
  · have q := U.base.frzs b o u e
    rw [upd_ne (ne q)]; exact q
  · obtain ⟨m, q⟩ := U.base.tbls b ps e
    exact ⟨m, by rw [upd_ne (ne q)]; exact q⟩
  · rw [upd_ne (fun z => nL z.symm)]; exact U.free
  · have hc : c ≠ a := fun z => by
      obtain ⟨w', o, ho, hdat⟩ := U.cell x c e
      rw [z] at ho
      have e2 : some o = some oe := ho.symm.trans ea
      cases e2
      exact nc w' hdat
    rw [upd_ne hc]; exact U.freeC x c e
  · obtain ⟨a1, a2, a3⟩ := U.pin p hp
    exact ⟨a1, by rw [upd_ne (np p hp)]; exact a2, a3⟩
  · by_cases hb : b = a
    · subst hb
      rw [upd_same] at e
      cases e
      exact exk_ok ea hz.1 hz.2 hd
    · rw [upd_ne hb] at e
      refine (U.hok b o e).stay (fun c v _ q => q) (fun c q => ?_) fun c ys q => ?_
      · rw [upd_ne (ne q)]; exact q
      · rw [upd_ne (ne q)]; exact q
end
/-- names of classes, read in an except clause -/
def EvAll (X : Cx) (es : List Expr) (cs : List Value) : Prop := ∀ (a : Addr) (pn pins : List (Addr × Obj)) (σ : L2.St) (H : Hp) (s : Shared) (pos : Pos) (Q : List Value → Shared → Prop) (E : Value → Shared → Prop), Inv (X.suite a pn) pins σ H s → Q cs s →
  wpAny (model X.prog X.w) (X.A.mark (some (.ref a))) (spliced (backTo pos (starEach es X.env))) Q E s
theorem ev_nil {X : Cx} : EvAll X [] [] := fun a pn pins σ H s pos Q E I q => args_nil q
theorem ev_cons {X : Cx} {x : Str} {p : Pos} {es : List Expr} {c : Value} {cs : List Value} (hg : Gl X x) (hm : X.mg x = some c) (r : EvAll X es cs) (hdb : (x == ("__debug__" : Str)) = false := by decide)
    (he : starEach (.Name x p :: es) X.env = (false, eval (.Name x p) X.env) :: starEach es X.env := by rfl) : EvAll X (.Name x p :: es) (c :: cs) := fun a pn pins σ H s pos Q E I q =>
  args_cons (ld_glob (X := X.suite a pn) I hg hm (r a pn pins σ H s pos _ E I q) hdb) he
/-- a tuple of such classes, against an exception -/
def ExTup (cs : List Value) : Prop := ∀ (M : Model) (K : PySem.W.Frag) (h : Heap) (cls : Value) (tp e : Addr) (b : Bool), K.In h → PySem.W.Looks M h (typeOf (.ref e)) cls → h.get? tp = some { cls := .type "tuple", data := .seq cs.toArray } → PySem.W.exmAny K cls cs = some b → PySem.W.Looks M h (excMatches (.ref e) (.ref tp)) b
theorem ext2 (c1 c2 : Value) : ExTup [c1, c2] := fun M K h cls tp e b k l p x => PySem.W.exm_tup2 k l p x
theorem ext3 (c1 c2 c3 : Value) : ExTup [c1, c2, c3] := fun M K h cls tp e b k l p x => PySem.W.exm_tup3 k l p x
theorem ext4 (c1 c2 c3 c4 : Value) : ExTup [c1, c2, c3, c4] := fun M K h cls tp e b k l p x => PySem.W.exm_tup4 k l p x
/-- what 'except (x, ..) as n' wishes of what the body raises; all is caught -/
def wCt (K : PySem.W.Frag) (cs : List Value) (i : Nat) (ts : Addr → Value → Option Addr → TS) (D : Ends) : WX := fun cls d σ H => PySem.W.exmAny K cls cs = some true ∧ ∀ a, H a = none →
  ts a cls d { nx := fun σ' H' => D.nx (σ'.set i none) (upd H' a (exk a cls d)), rt := fun v H' => D.rt v (upd H' a (exk a cls d)), bk := fun σ' H' => D.bk (σ'.set i none) (upd H' a (exk a cls d)), ct := fun σ' H' => D.ct (σ'.set i none) (upd H' a (exk a cls d)) } (σ.set i (some (.ref a))) H
section
variable {X : Cx} {n : Str} {es : List Expr} {cs : List Value} {i kk : Nat} {body suite : List Stmt} {b₀ : Stmt} {tp pos pos' : Pos} {tb : WX → TS} {ts : Addr → Value → Option Addr → TS}
theorem ps_try_ct (hs : X.stack = X.env :: X.outer) (hf : X.env.frame = some X.env.locals) (hN : X.N.Nodup) (hi : X.N[i]? = some n) (hln : X.env.kindOf n = some .local) (ev : EvAll X es cs) (hx : ExTup cs) (hex : X.ex = []) (hcs : cs.length ≤ 1000)
    (hb : ∀ (W : WX) (pn : List (Addr × Obj)) (xe : Value → Shared → Prop), Takes (X.tr pn xe) W → PassesOwn (model X.prog X.w) X.A X.env xe → PSs (X.tr pn xe) body (tb W))
    (hsu : ∀ (a : Addr) (oe : Obj) (cls : Value) (d : Option Addr) (pn : List (Addr × Obj)), Zc cls d oe → (∃ vs, oe.data = .fields vs) → PSs (X.suite a ((a, oe) :: pn)) (b₀ :: suite) (ts a cls d)) :
    PS X (.Try body [.ExceptHandler (some (.Tuple es kk tp)) (some n) (b₀ :: suite) pos'] [] [] pos) (fun D σ H => tb (wCt X.K cs i ts D) D σ H) := by
  refine ⟨fun pins s σ H D I h => ?_⟩
  have ok := I.ok
  have hfr : X.A.frames = some (X.env :: X.outer) := by rw [ok.frames, hs]
  have hloc : Loc X.env.scope n := .inl hln
  refine wpAny_Try_except ?_
  refine wpAny_mono ((hb (wCt X.K cs i ts D) (X.pn ++ pins) (fun e s₁ => wpAny (model X.prog X.w) X.A (noteFrame e X.env) (fun _ s₂ => wpAny (model X.prog X.w) X.A (setFlight e none) (fun _ s₃ =>
    wpAny (model X.prog X.w) X.A (handleBy e X.env [.ExceptHandler (some (.Tuple es kk tp)) (some n) (b₀ :: suite) pos']) (SP X pins D) X.xe s₃) X.xe s₂) X.xe s₁) (fun u s' xx => ?_) PassesOwn.looking).run [] s σ H D (I.toTry _) h) (fun f s1 hsp => ?_) (fun e s1 he => he)
  · obtain ⟨a, B, sI, pins', σ', H', cls, d, rfl, J', nb, up, sky, na, os, ag, hb1, hyes⟩ := xx
    have J : Inv X pins σ' H' sI := J'.ofTry ok
    have sky' : Sky B (X.env :: X.outer) a (Zc cls d) X.env.locals s'.heap := by rw [← hs]; exact sky
    have nB : B.get? a = none := by
      rcases sky with z | z | z
      · exact z.2.1
      · exact z.2.1
      · exact z.2.1
    refine Sky.land Zc.steady hfr hf sky' fun h3 fl3 up3 => ?_
    obtain ⟨oe3, vs3, he3, hz3, hd3⟩ := fl3.there
    have notFr : ∀ {h : Heap} {o : Obj} {vs : Array Value}, h.FunFrames B (X.env :: X.outer) → h.get? a = some o → o.data = .fields vs → a ∉ frs (X.env :: X.outer) := fun {h o vs} ff e dd hm => by
      obtain ⟨_, o', e', hnf⟩ := ff.mem hm
      rw [e] at e'
      cases e'
      exact hnf _ dd
    have nfr := notFr fl3.2.2.1 he3 hd3
    have nL : a ≠ X.env.locals := fun z => nfr (List.mem_filterMap.mpr ⟨X.env, List.mem_cons_self, by rw [hf, z]⟩)
    have nF : a ∉ X.fs := fun hm => by
      obtain ⟨e, he, q⟩ := List.mem_filterMap.mp hm
      exact nfr (List.mem_filterMap.mpr ⟨e, List.mem_cons_of_mem _ he, q⟩)
    have nI : sI.heap.get? a = none := by
      cases q : sI.heap.get? a with
      | none => rfl
      | some o =>
        have := nb a o q (by rw [hs]; exact nfr)
        rw [nB] at this; cases this
    have n0 : X.s_0.heap.get? a = none := by
      cases q : X.s_0.heap.get? a with
      | none => rfl
      | some o =>
        obtain ⟨o', e⟩ := J.base.there a o q (by rw [hex]; simp)
        rw [nI] at e; cases e
    have np : ∀ p ∈ X.pn ++ pins, p.1 ≠ a := fun p hp z => by
      obtain ⟨e, _⟩ := J.pin p hp
      rw [z, nI] at e; cases e
    have J3 : Inv X pins σ' H' { s' with heap := h3 } := J.landed nb fl3.1 (up.trans up3) os ag
    have S3 := J3.suite he3 hd3 na nL nF
    refine wpAny_handleBy_cons (codeAny_handlers_test ?_) (by intro q; cases q)
    refine Tuple_ (ev a _ [] σ' H' _ _ _ _ S3 (wpAny_newTuple ?_ (by rw [sizeLine_eq]; omega)))
    have k3 : ∀ b o, h3.get? b = some o → (h3.push { cls := .type "tuple", data := .seq cs.toArray }).get? b = some o := fun b o e => Heap.get?_push_of_some _ e
    have fl3' := flying_keep fl3 k3
    have J3' : Inv X pins σ' H' { s' with heap := h3.push { cls := .type "tuple", data := .seq cs.toArray } } := J3.kept (t' := s'.toks) k3
    have LT : PySem.W.Looks (model X.prog X.w) (h3.push { cls := .type "tuple", data := .seq cs.toArray }) (typeOf (.ref a)) cls := fun A Q E s k q => wpAny_typeOf_ref (k _ _ (k3 _ _ he3)) (by rw [hz3.1]; exact q)
    refine (hx (model X.prog X.w) X.K _ cls _ a true J3'.kIn LT (Heap.get?_push_size _ rfl) hb1).here ?_
    refine codeAny_handlers_suite_as ?_
    refine HandSPX.lands_againZ fl3' fun h4 fl4 up4 => ?_
    have up34 : h3.UpToSlots h4 := fun b o e hn => up4 b o (k3 b o e) hn
    have J4 : Inv X pins σ' H' { s' with heap := h4 } := J.landed nb fl4.1 ((up.trans up3).trans up34) os ag
    obtain ⟨oe4, vs4, he4, hz4, hd4⟩ := fl4.there
    have S4 := J4.suite he4 hd4 na nL nF
    refine store_ok (X := X.suite a ((a, oe4) :: (X.pn ++ pins))) (v := .ref a) S4 hN hi hloc rfl (fun s5 S5 => ?_) (.inr hln)
    refine wpAny_mono ((hsu a oe4 cls d (X.pn ++ pins) hz4 ⟨_, hd4⟩).run [] s5 _ H' _ S5 (hyes a na)) (fun f s6 hsp => ?_) (fun _ _ z => False.elim z)
    have fin : ∀ {σ6 : L2.St} {H6 : Hp} {Q : Shared → Prop}, Inv (X.suite a ((a, oe4) :: (X.pn ++ pins))) [] σ6 H6 s6 → (∀ s7, Inv X pins (σ6.set i none) (upd H6 a (exk a cls d)) s7 → Q s7) →
        wpAny (model X.prog X.w) X.A (do bindName X.env n .none; unbindBehindTheSuite X.env n pos') (fun _ s7 => Q s7) X.xe s6 := fun {σ6 H6 Q} S6 hq =>
      gone_ok (X := X.suite a ((a, oe4) :: (X.pn ++ pins))) S6 hN hi hln fun s7 S7 => hq s7 (Inv.caught S7 ok n0 np hz4 hd4)
    cases f with
    | next =>
      obtain ⟨σ6, H6, S6, q6⟩ := hsp
      exact fin S6 fun s7 J7 => ⟨_, _, J7, q6⟩
    | brk =>
      obtain ⟨σ6, H6, S6, q6⟩ := hsp
      exact fin S6 fun s7 J7 => ⟨_, _, J7, q6⟩
    | cont =>
      obtain ⟨σ6, H6, S6, q6⟩ := hsp
      exact fin S6 fun s7 J7 => ⟨_, _, J7, q6⟩
    | ret u =>
      obtain ⟨v6, σ6, H6, S6, r6, q6⟩ := hsp
      exact fin S6 fun s7 J7 => ⟨_, _, _, J7, r6, q6⟩
  · cases f with
    | next =>
      obtain ⟨σ', H', J', q⟩ := hsp
      exact wpAny_execs_nil ⟨σ', H', J'.ofTry ok, q⟩
    | brk =>
      obtain ⟨σ', H', J', q⟩ := hsp
      exact ⟨σ', H', J'.ofTry ok, q⟩
    | cont =>
      obtain ⟨σ', H', J', q⟩ := hsp
      exact ⟨σ', H', J'.ofTry ok, q⟩
    | ret u =>
      obtain ⟨v, σ', H', J', r, q⟩ := hsp
      exact ⟨v, σ', H', J'.ofTry ok, r, q⟩
end
end XL
namespace XL
open PySem PySem.Spec PyProof.Rows L2
section
variable {X : Cx} {e : Expr} {es : List Expr} {te : TE} {ta : TA} {p pos : Pos} {B newId initId : String} {bm : List Value} {x : Str} {C fI : Addr} {k : Nat} {fd : FuncData} {ps : List Str} {sp : Sp}
/-- raise x(e, ..): an own exception with its own __init__ that stores fields -/
theorem pmk_ex (T : ExF X.K C B newId initId bm) (tyC : PySem.W.typeIn X.K (.ref C) = some (.type "type")) (iC : PySem.W.findIn X.K (.ref C) "__init__" = some (some (.ref fI))) (tI : PySem.W.typeIn X.K (.ref fI) = some (.type "function")) (F1 : FnOk X.prog X.w X.K X.mg X.base CX0 k fI fd ps sp) (hr : Room (k + 1) X.A) (hb : Binds X.K fd ps [])
    (hg : Gl X x) (hm : X.mg x = some (.ref C)) (ha : PA X (e :: es) ta) (hdb : (x == ("__debug__" : Str)) = false := by decide) (he : starEach (e :: es) X.env = (false, eval e X.env) :: starEach es X.env := by rfl) (hpl : (backTo pos (starEach es X.env)).any (·.1) = false := by rfl) :
    PMk X (.Call (.Name x p) (e :: es) [] pos) (fun σ H Q => ta σ H fun vs H1 => vs.length ≤ 1000 ∧ ∀ a, H1 a = none → sp (.ref a :: vs) (upd H1 a (exo a C none)) (fun v H2 => v = .non ∧ ∃ d fs, H2 a = some (exo a C (some d)) ∧ H2 d = some (exd d fs) ∧ H1 d = none ∧ Q (.ref C) (some d) (upd (del H2 a) d (.xd fs))) E0) := by
  intro pins s σ H Q I h
  obtain ⟨nm, q, N, bs, sn, sub, ab, col, dd, k0, k1, k2, k3, k5, hC⟩ := T.cls
  refine wpAny_Call_Name_kw (ld_glob I hg hm ?_ hdb)
  refine PySem.W.callWith_K (h₀ := X.base) I.ok.mod.kin T.kC (thn (ha.run pos pins s σ H _ I h) fun us s1 ⟨vs, H1, I1, r1, hz, q1⟩ => ⟨I1.kIn, ?_⟩) he hpl
  show wpAny _ _ (call (.ref C) us) _ _ _
  obtain ⟨hp, g, dr, tk, os⟩ := s1
  have hsz : hp.objs.size ≤ hp.objs.size + 1 := Nat.le_succ _
  have hq := q1 (hp.objs.size + 1) (I1.hok.fresh hsz)
  have kk : ∀ b o, hp.get? b = some o → ((hp.push (PySem.W.kdv_tup us)).push (PySem.HandSPX.excO C hp.objs.size)).get? b = some o := fun b o e => Heap.get?_push_of_some _ (Heap.get?_push_of_some _ e)
  have hget : ((hp.push (PySem.W.kdv_tup us)).push (PySem.HandSPX.excO C hp.objs.size)).get? (hp.objs.size + 1) = some (PySem.HandSPX.excO C hp.objs.size) := by heap_get
  have I2 : Inv X pins σ (upd H1 (hp.objs.size + 1) (exo (hp.objs.size + 1) C none)) ⟨(hp.push (PySem.W.kdv_tup us)).push (PySem.HandSPX.excO C hp.objs.size), g, dr, tk, os⟩ := I1.laid (t' := tk) kk hsz (exo_ok hget)
  have r2 : Vals (V.ref (hp.objs.size + 1) :: vs) (Value.ref (hp.objs.size + 1) :: us) := .cons rfl r1
  have hl : (Value.ref (hp.objs.size + 1) :: us).length = ps.length := by rw [← r2.length]; exact F1.len _ _ _ _ hq
  have hus : us.length ≤ sizeLine := by rw [← r1.length, sizeLine_eq]; omega
  have e0 : Env0 X.prog X.w X.K X.mg X.base (X.A.under (.builtin "type.__call__" ⟨.ref C :: us, []⟩)) X.stack _ _ := I2.env0.make C us []
  have hb2 : ∀ s : Shared, X.K.In s.heap → BindsTo s fd ⟨.ref (hp.objs.size + 1) :: us, []⟩ (ps.zip (.ref (hp.objs.size + 1) :: us)) := fun s hk => by
    have b2 := hb s (.ref (hp.objs.size + 1) :: us) hk (by rw [List.append_nil]; exact hl)
    rwa [List.append_nil] at b2
  refine wpAny_call (PySem.XE.callK T.base (I1.kIn _ _ hC) (PySem.W.looks_findIn I1.kIn iC) (fun self => PySem.W.bind_fn I1.kIn self tI) hus
    (codeAny_mono (F1.run _ X.stack _ _ ⟨Value.ref (hp.objs.size + 1) :: us, []⟩ (Value.ref (hp.objs.size + 1) :: us) _ _ E0 (hr.make C us []) e0 (hb2 _ I2.kIn) r2 hq) fun r s' hq' => ?_))
  cases r with
  | error er => exact False.elim hq'
  | ok fl =>
    cases fl with
    | ret u =>
      obtain ⟨v, H2, os2, bare2, un2, hok2, rv, ev, d, fs, ea, ed, hd1, q2⟩ := hq'
      subst ev
      obtain ⟨h2, g2, d2, t2, os'⟩ := s'
      exact ⟨rv, mk_end (raises_own T.exC tyC) I1 hsz kk un2 hok2 os2 bare2 ea ed hd1 q2⟩
    | next => exact False.elim hq'
    | brk => exact False.elim hq'
    | cont => exact False.elim hq'
/-! ### the kept one: isinstance, fields -/
theorem inst_k {pins : List (Addr × Obj)} {σ : L2.St} {H : Hp} {s : Shared} {a C : Addr} {d : Option Addr} (I : Inv X pins σ H s) (ea : H a = some (exk a (.ref C) d)) (hd : ∀ dd, d = some dd → ∃ fs, H dd = some (.xd fs)) : ∃ oe od, PySem.W.InstAt s.heap a oe C od := by
  obtain ⟨oe, vs, ho, hc, hdd, hf⟩ := exk_at I.hok ea
  cases d with
  | none => exact ⟨oe, none, ho, hc, by unfold PySem.W.notCls; rw [hf], by rw [hdd]; trivial⟩
  | some dd =>
    obtain ⟨fs, ed⟩ := hd dd rfl
    obtain ⟨mA, hns, hr⟩ := (show ObjOk X.prog X.w H s.heap dd (.xd fs) from I.hok dd _ ed)
    obtain ⟨od, hod, hl⟩ := lookIn_ns hns
    exact ⟨oe, some od, ho, hc, by unfold PySem.W.notCls; rw [hf], by rw [hdd]; exact hod⟩
def rIsK (K : PySem.W.Frag) : List V → Hp → VK → Prop := fun xs H Q => ∃ (a C : Addr) (d : Option Addr) (c : V) (u : Value) (b : Bool) (B newId initId : String) (bm : List Value), xs = [.ref a, c] ∧ ExF K C B newId initId bm ∧ H a = some (exk a (.ref C) d) ∧ (∀ dd, d = some dd → ∃ fs, H dd = some (.xd fs)) ∧ ClsV c u ∧ PySem.W.kitOne K (.ref C) u = some b ∧ Q (.bl b) H
theorem call_isK : CallR X (.builtin "isinstance") (rIsK X.K) := by
  intro pins s σ H xs us Q I r h
  obtain ⟨a, C, d, c, u, b, B, newId, initId, bm, rfl, T, ea, hd, k, e, q⟩ := h
  obtain ⟨u1, u2, rfl, r1, r2⟩ := vals2 r
  have e2 := k.eq r2
  subst e2
  obtain rfl : u1 = Value.ref a := r1
  obtain ⟨oe, od, J⟩ := inst_k I ea hd
  obtain ⟨nm, q0, N, bs, sn, sub, ab, col, dd, k0, k1, k2, k3, k5, hC⟩ := T.cls
  have hcl : (PySem.W.clsIn X.K C).isSome = true := by unfold PySem.W.clsIn; rw [hC]; rfl
  exact PySem.W.kia_one (PySem.W.kitx_exc hcl T.ga T.gt T.exC T.ca T.cn T.ct T.mo) I.kIn J e (fun z => nomatch z) fun tk => ⟨.bl b, H, I.tok tk, rfl, q⟩
def rIsKT (K : PySem.W.Frag) : List V → Hp → VK → Prop := fun xs H Q => ∃ (a C tp : Addr) (d : Option Addr) (cs : List V) (ws : List Value) (b : Bool) (B newId initId : String) (bm : List Value), xs = [.ref a, .ref tp] ∧ ExF K C B newId initId bm ∧ H a = some (exk a (.ref C) d) ∧ (∀ dd, d = some dd → ∃ fs, H dd = some (.xd fs)) ∧ H tp = some (.tup cs) ∧ Paired ClsV cs ws ∧ PySem.W.kitAny K (.ref C) ws = some b ∧ Q (.bl b) H
theorem call_isKT : CallR X (.builtin "isinstance") (rIsKT X.K) := by
  intro pins s σ H xs us Q I r h
  obtain ⟨a, C, tp, d, cs, ws, b, B, newId, initId, bm, rfl, T, ea, hd, hT, k, e, q⟩ := h
  obtain ⟨u1, u2, rfl, r1, r2⟩ := vals2 r
  obtain rfl : u1 = Value.ref a := r1
  cases (show u2 = Value.ref tp from r2)
  obtain ⟨oe, od, J⟩ := inst_k I ea hd
  obtain ⟨nm, q0, N, bs, sn, sub, ab, col, dd, k0, k1, k2, k3, k5, hC⟩ := T.cls
  have hcl : (PySem.W.clsIn X.K C).isSome = true := by unfold PySem.W.clsIn; rw [hC]; rfl
  obtain ⟨_, its, rv, o, h1, h2, n, h3⟩ := (show ObjOk X.prog X.w H s.heap tp (.tup cs) from I.hok tp _ hT)
  have e3 := ClsV.all k rv
  subst e3
  obtain ⟨oc, od', dt, sl⟩ := o
  simp only at h2 h3
  subst h2 h3
  exact PySem.W.kia_tup (PySem.W.kitx_exc hcl T.ga T.gt T.exC T.ca T.cn T.ct T.mo) I.kIn J h1 e (fun z => nomatch z) fun tk => ⟨.bl b, H, I.tok tk, rfl, q⟩
theorem pe_kget {n : Str} (T : ExF X.K C B newId initId bm) (hno : PySem.W.findIn X.K (.ref C) n = some none) (he : PE X e te) (hb : attributeBase e n X.env (eval e X.env) = eval e X.env := by rfl) :
    PE X (.Attribute e n pos) (fun σ H Q => te σ H fun x H1 => ∃ a dd fs v, x = .ref a ∧ H1 a = some (exk a (.ref C) (some dd)) ∧ H1 dd = some (.xd fs) ∧ fs.lookup n = some v ∧ Q v H1) := by
  refine ⟨fun pins s σ H Q I h => attr_of hb (thn (he.run pins s σ H _ I h) fun u s1 hh => ?_)⟩
  obtain ⟨x, H1, I1, rx, a, dd, fs, v, ex, ea, ed, l, q⟩ := hh
  subst ex
  obtain rfl : u = Value.ref a := rx
  obtain ⟨oe, vs, ho, hc, hdd, hf⟩ := exk_at I1.hok ea
  obtain ⟨mA, hns, hr⟩ := (show ObjOk X.prog X.w H1 s1.heap dd (.xd fs) from I1.hok dd _ ed)
  obtain ⟨od, hod, hl⟩ := lookIn_ns hns
  obtain ⟨u, hu, ru⟩ := RelO.some_of (v := v) (o := mA n) (by rw [← l]; exact hr n)
  have J : PySem.W.InstAt s1.heap a oe C (some od) := ⟨ho, hc, by unfold PySem.W.notCls; rw [hf], by rw [hdd]; exact hod⟩
  exact HandSPX.exc_get I1.kIn J T.ga T.gt T.exC (PySem.W.findObj_own T.hd hno rfl (by rw [hl, hu])) (handed_of ru) ⟨v, H1, I1.tok _, ru, q⟩
end
end XL
namespace XL
open PySem PySem.Spec PyProof.Rows L2
/-! ### own exceptions straight over one of four of Python's own -/
def bN : Nat → String
  | 0 => "ValueError" | 1 => "LookupError" | 2 => "RuntimeError" | _ => "OverflowError"
def bW : Nat → String
  | 0 => "ValueError.__new__" | 1 => "LookupError.__new__" | 2 => "RuntimeError.__new__" | _ => "OverflowError.__new__"
def bI : Nat → String
  | 0 => "ValueError.__init__" | 1 => "LookupError.__init__" | 2 => "RuntimeError.__init__" | _ => "OverflowError.__init__"
def bM : Nat → List Value
  | 0 => [.type "ValueError", .type "Exception", .type "BaseException", .type "object"]
  | 1 => [.type "LookupError", .type "Exception", .type "BaseException", .type "object"]
  | 2 => [.type "RuntimeError", .type "Exception", .type "BaseException", .type "object"]
  | _ => [.type "OverflowError", .type "ArithmeticError", .type "Exception", .type "BaseException", .type "object"]
abbrev ExK (K : PySem.W.Frag) (C : Addr) (b : Nat) : Prop := ExF K C (bN b) (bW b) (bI b) (bM b)
theorem PE.imp {X : Cx} {e : Expr} {t t' : TE} (h : PE X e t) (i : ∀ σ H Q, t' σ H Q → t σ H Q) : PE X e t' := ⟨fun pins s σ H Q I q => h.run pins s σ H Q I (i σ H Q q)⟩
def spI (c : Addr) (f : Str) : Sp := fun vs H Q _ => ∃ (a : Addr) (y : V), vs = [.ref a, y] ∧ H a = some (exo a c none) ∧ ∀ dx, H dx = none → dx ≠ a → Q .non (upd (upd H dx (exd dx [(f, y)])) a (exo a c (some dx)))
def spI0 (c : Addr) : Sp := fun vs H Q _ => ∃ a : Addr, vs = [.ref a] ∧ H a = some (exo a c none) ∧ Q .non H
section
variable {K : PySem.W.Frag}
theorem boot_ValueError : bootBuiltins "ValueError" = some (.type "ValueError") := by decide +kernel
theorem tyf_ValueError : typeOf (.type "ValueError") = pure (.type "type") := PySem.W.kitMeta_of (by decide +kernel)
theorem fnd_ValueError : PySem.W.findCls K (.type "ValueError") (.type "type") "__init__" = some (.val (.builtin "ValueError.__init__")) := by rfl
theorem stb_ValueError : Manifest.isStub "ValueError" = false := by decide +kernel
theorem hnd_ValueError : PySem.W.handedIn (.builtin "ValueError.__init__") = true := by decide +kernel
theorem boot_LookupError : bootBuiltins "LookupError" = some (.type "LookupError") := by decide +kernel
theorem tyf_LookupError : typeOf (.type "LookupError") = pure (.type "type") := PySem.W.kitMeta_of (by decide +kernel)
theorem fnd_LookupError : PySem.W.findCls K (.type "LookupError") (.type "type") "__init__" = some (.val (.builtin "LookupError.__init__")) := by rfl
theorem stb_LookupError : Manifest.isStub "LookupError" = false := by decide +kernel
theorem hnd_LookupError : PySem.W.handedIn (.builtin "LookupError.__init__") = true := by decide +kernel
theorem boot_RuntimeError : bootBuiltins "RuntimeError" = some (.type "RuntimeError") := by decide +kernel
theorem tyf_RuntimeError : typeOf (.type "RuntimeError") = pure (.type "type") := PySem.W.kitMeta_of (by decide +kernel)
theorem fnd_RuntimeError : PySem.W.findCls K (.type "RuntimeError") (.type "type") "__init__" = some (.val (.builtin "RuntimeError.__init__")) := by rfl
theorem stb_RuntimeError : Manifest.isStub "RuntimeError" = false := by decide +kernel
theorem hnd_RuntimeError : PySem.W.handedIn (.builtin "RuntimeError.__init__") = true := by decide +kernel
theorem boot_OverflowError : bootBuiltins "OverflowError" = some (.type "OverflowError") := by decide +kernel
theorem tyf_OverflowError : typeOf (.type "OverflowError") = pure (.type "type") := PySem.W.kitMeta_of (by decide +kernel)
theorem fnd_OverflowError : PySem.W.findCls K (.type "OverflowError") (.type "type") "__init__" = some (.val (.builtin "OverflowError.__init__")) := by rfl
theorem stb_OverflowError : Manifest.isStub "OverflowError" = false := by decide +kernel
theorem hnd_OverflowError : PySem.W.handedIn (.builtin "OverflowError.__init__") = true := by decide +kernel
end
/-- an own exception straight over the b-th of the four -/
theorem exk_mk {K : PySem.W.Frag} {C : Addr} {b : Nat} {nm q : Str} {N : Addr} {bs : List Value} {sn : List Str} {sub : List Value} {ab : Bool} {col : Option Bool} {dd : Option Addr} {k0 k1 k2 k3 k5 : Option Value} (base : ExcBaseFacts (bN b) (bW b) (bI b) (bM b)) (pass : ∀ self, refuseLoop self "__setattr__" (bM b) = pure ())
    (obj : (bM b).contains (.type "object") = true) (bas : (bM b).contains (.type "BaseException") = true) (hC : K.lookup C = some (excClassObj nm q C N bs (bM b) true sn sub ab col dd k0 k1 k2 k3 k5 (bW b))) (sa : PySem.W.findIn K (.ref C) "__setattr__" = some (some (.builtin "object.__setattr__"))) (ga : PySem.W.findIn K (.ref C) "__getattribute__" = some (some (.builtin "BaseException.__getattribute__"))) (gt : PySem.W.findIn K (.ref C) "__getattr__" = some none)
    (kC : PySem.W.keepIn K (.ref C) = true) (ca : PySem.W.findIn K (.ref C) "__class__" = some (some (.builtin "object.__class__"))) (hd : PySem.W.hasDictIn K C = true) (sg : PySem.W.specialIn K (.builtin "object.__class__") "__get__" = some (some (.builtin "getset_descriptor.__get__"))) (st : PySem.W.takesIn K (.builtin "object.__class__") = some true) : ExK K C b := by
  have hcl : PySem.W.clsIn K C = some { name := nm, bases := bs, mro := .ref C :: bM b, ns := N, qualname := q, hasDict := true, slotNames := sn, subclasses := sub, abstract := ab, collection := col, hasDel := false } := by unfold PySem.W.clsIn; rw [hC] <;> rfl
  have mo : ∀ v, (bM b).contains v = true → PySem.W.mroIn K C v = some true := fun v hv => by
    unfold PySem.W.mroIn
    rw [hcl]
    show some ((Value.ref C :: bM b).contains v) = some true
    rw [List.contains_cons, hv, Bool.or_true]
  exact ⟨base, fun self => by rw [refuseLoop_ref]; exact pass self, obj, ⟨nm, q, N, bs, sn, sub, ab, col, dd, k0, k1, k2, k3, k5, hC⟩, sa, ga, gt, mo _ bas, kC, hd, ca, sg, st, mo _ obj⟩
theorem fn_up {P : Program} {w : World} {K : PySem.W.Frag} {mg : Str → Option Value} {base : Heap} {k n : Nat} {f : Addr} {fd : FuncData} {ps : List Str} {sp : Sp} (h : k ≤ n) (F : FnOk P w K mg base CX0 k f fd ps sp) : FnOk P w K mg base CX0 n f fd ps sp :=
  ⟨F.len, fun A outer s H args us vs Q E hr e0 hb r q => F.run A outer s H args us vs Q E (hr.mono h) e0 hb r q⟩
/-- an own exception class, its __init__, its name -/
structure Er (P : Program) (w : World) (K : PySem.W.Frag) (mg : Str → Option Value) (base : Heap) (nm : Str) (b : Nat) (C fI : Addr) (fd : FuncData) (ps : List Str) (sp : Sp) : Prop where
  ex : ExK K C b
  ty : PySem.W.typeIn K (.ref C) = some (.type "type")
  ini : PySem.W.findIn K (.ref C) "__init__" = some (some (.ref fI))
  tI : PySem.W.typeIn K (.ref fI) = some (.type "function")
  g : mg nm = some (.ref C)
  ok : FnOk P w K mg base CX0 1 fI fd ps sp
  bi : Binds K fd ps []
/-- the heap behind a raise: the new dict alone -/
theorem del_upd' {H : Hp} {a d : Addr} {o o' o2 u : HO} (h : H a = none) (n : d ≠ a) : upd (del (upd (upd (upd H a o) d o') a o2) a) d u = upd H d u := by
  funext b
  by_cases hd : b = d
  · rw [hd, upd_same, upd_same]
  · rw [upd_ne hd, upd_ne hd]
    by_cases ha : b = a
    · rw [ha, del_same, h]
    · rw [del_ne ha, upd_ne ha, upd_ne hd, upd_ne ha]
theorem bM_ref (b : Nat) (D : Addr) : (bM b).contains (.ref D) = false := by
  unfold bM
  split <;> rfl
theorem cls_mro {K : PySem.W.Frag} {C : Addr} {B newId initId : String} {bm : List Value} (T : ExF K C B newId initId bm) (v : Value) : (PySem.W.clsIn K C).isSome = true ∧ PySem.W.mroIn K C v = some ((Value.ref C :: bm).contains v) := by
  obtain ⟨nm, q, N, bs, sn, sub, ab, col, dd, k0, k1, k2, k3, k5, hC⟩ := T.cls
  have hcl : PySem.W.clsIn K C = some { name := nm, bases := bs, mro := .ref C :: bm, ns := N, qualname := q, hasDict := true, slotNames := sn, subclasses := sub, abstract := ab, collection := col, hasDel := false } := by unfold PySem.W.clsIn; rw [hC] <;> rfl
  refine ⟨by rw [hcl]; rfl, ?_⟩
  unfold PySem.W.mroIn
  rw [hcl]
  rfl
/-! ### which class is under which -/
structure Cl (K : PySem.W.Frag) (D : Addr) : Prop where
  cls : ∃ nm q N bs bm sn sub ab col dd k0 k1 k2 k3 k5 newId, K.lookup D = some (excClassObj nm q D N bs bm true sn sub ab col dd k0 k1 k2 k3 k5 newId)
  ty : PySem.W.typeIn K (.ref D) = some (.type "type")
  bas : PySem.W.subIn K (.ref D) (.type "BaseException") = some true
  hd : PySem.W.hasDictIn K D = true
theorem kit_self {K : PySem.W.Frag} {C : Addr} : PySem.W.kitOne K (.ref C) (.ref C) = some true := by
  unfold PySem.W.kitOne
  rw [if_pos (beq_self_eq_true _)]
theorem kit_ne {K : PySem.W.Frag} {C D : Addr} {b : Nat} (T : ExK K C b) (hD : Cl K D) (ne : D ≠ C) : PySem.W.kitOne K (.ref C) (.ref D) = some false := by
  unfold PySem.W.kitOne
  have hn : (Value.ref C == Value.ref D) = false := by
    rw [beq_eq_false_iff_ne]
    exact fun z => ne (Value.ref.inj z).symm
  obtain ⟨nm, q, N, bs, bm, sn, sub, ab, col, dd, k0, k1, k2, k3, k5, newId, hC⟩ := hD.cls
  have hs : (PySem.W.clsIn K D).isSome = true := by unfold PySem.W.clsIn; rw [hC]; rfl
  rw [hn, if_neg Bool.false_ne_true]
  show (if ((PySem.W.clsIn K D).isSome && PySem.W.typeIn K (.ref D) == some (.type "type")) = true then PySem.W.mroIn K C (.ref D) else none) = some false
  have hn2 : (Value.ref D == Value.ref C) = false := by
    rw [beq_eq_false_iff_ne]
    exact fun z => ne (Value.ref.inj z)
  rw [hs, hD.ty, (cls_mro T (.ref D)).2, List.contains_cons, bM_ref, hn2]
  rfl
theorem kit_py {K : PySem.W.Frag} {C : Addr} {b : Nat} {t : String} {r : Bool} (T : ExK K C b) (hm : PySem.W.kitMeta t = true) (hc : (bM b).contains (.type t) = r) : PySem.W.kitOne K (.ref C) (.type t) = some r := by
  unfold PySem.W.kitOne
  have hn : (Value.ref C == Value.type t) = false := by
    rw [beq_eq_false_iff_ne]
    exact fun z => nomatch z
  rw [hn, if_neg Bool.false_ne_true]
  show (if PySem.W.kitMeta t = true then PySem.W.mroIn K C (.type t) else none) = some r
  have hn2 : (Value.type t == Value.ref C) = false := by
    rw [beq_eq_false_iff_ne]
    exact fun z => nomatch z
  rw [if_pos hm, (cls_mro T (.type t)).2, List.contains_cons, hc, hn2, Bool.false_or]
theorem kit_nil {K : PySem.W.Frag} {v : Value} : PySem.W.kitAny K v [] = some false := rfl
theorem kit_cons {K : PySem.W.Frag} {v c : Value} {cs : List Value} {a : Bool} (h : PySem.W.kitOne K v c = some false) (r : PySem.W.kitAny K v cs = some a) : PySem.W.kitAny K v (c :: cs) = some a :=
  kitAny_cons h (fun _ => r) (fun e => nomatch e)
theorem exm_of_sub {K : PySem.W.Frag} {C D : Addr} {r : Bool} (hD : Cl K D) (h : PySem.W.subIn K (.ref C) (.ref D) = some r) : PySem.W.exmOne K (.ref C) (.ref D) = some r := PySem.W.exm_ref hD.bas hD.hd hD.ty h
theorem exm_cons {K : PySem.W.Frag} {v c : Value} {cs : List Value} {a b : Bool} (h : PySem.W.exmOne K v c = some a) (r : PySem.W.exmAny K v cs = some b) : PySem.W.exmAny K v (c :: cs) = some (a || b) := by
  unfold PySem.W.exmAny
  rw [h, r]
end XL
namespace XL
open PySem PySem.Spec PyProof.Rows L2
abbrev sGone : Stmt := topS 15
abbrev sIB : Stmt := inClass (topS 8) 0
section
variable {P : Program} {w : World} {K : PySem.W.Frag} {mg : Str → Option Value} {base : Heap}
theorem scIB : FnScope ["self", "going"] ["self", "going"] (defScope sIB) := ⟨rfl, rfl, rfl, by decide +kernel, rfl, by decide +kernel, by decide +kernel⟩
theorem ok_IB {f c : Addr} {fd : FuncData} (F : Fun K "__init__" "NoBoat.__init__" sIB f fd) (T : ExK K c 2) (no : PySem.W.findIn K (.ref c) "going" = some none) (mB : mg "RuntimeError" = none) : FnOk P w K mg base CX0 1 f fd ["self", "going"] (spI c "going") := by
  refine F.ok scIB (fun vs H Q E h => ?_) (fun cdv A outer s H vs Q E hr h => ?_)
  · obtain ⟨a, y, rfl, _⟩ := h
    rfl
  obtain ⟨a, y, rfl, ea, q⟩ := h
  refine ⟨_, pss_cons (ps_expr (pe_binit (B := "RuntimeError") (newId := bW 2) (initId := "RuntimeError.__init__") (bm := bM 2) rfl mB boot_RuntimeError tyf_RuntimeError fnd_RuntimeError (pa_cons (pv 0) (pa_cons pe_str pa_nil)) (by decide) (by decide) stb_RuntimeError hnd_RuntimeError))
    (pss_one (ps_os1 (B := "RuntimeError") (newId := bW 2) (initId := "RuntimeError.__init__") (bm := bM 2) (pv 0) (pv 1))), ?_⟩
  refine ⟨_, rfl, a, c, _, rfl, (by show 1 ≤ 1000; decide), T, ea, ?_⟩
  exact ⟨_, rfl, _, rfl, a, c, rfl, T, no, ea, fun dx n ne => q dx n ne⟩
/-! ### gone -/
abbrev nGone : List Str := ["canal", "standing", "going", "lock", "water", "start", "end", "reds", "blues", "stands", "boats"]
theorem scGone : FnScope nGone ["canal", "standing", "going"] (defScope sGone) := ⟨rfl, rfl, rfl, by decide +kernel, rfl, by decide +kernel, by decide +kernel⟩
def spGone (K : PySem.W.Frag) (CB : Addr) : Sp := fun vs H Q E => ∃ (v u : V) (g : Addr) (i : Nat) (r : Bool) (c : Cn) (s : Sn) (B : Int), vs = [v, u, .ref g] ∧ CnAny K H v c ∧ SnAny K H u s ∧ Sq2 K H g (mvV (i, r)) ∧ i < c.ls.length ∧ okCn 100 100 c ∧ okSn c B s ∧
  (hasB c s i r = true → ∀ v' H', Same H H' → Dp K H' v' (snD (goneS c s i r)) → Q v' H') ∧
  (hasB c s i r = false → ∀ d t H', Same H H' → H d = none → H' d = some (.xd [("going", .ref t)]) → H' t = some (.tup (mvV (i, r))) → E (.ref CB) (some d) H')
theorem set_at {zs : List Int} {j x : Int} (h0 : 0 ≤ j) (h1 : j < zs.length) : ixN (zs.map V.int).length j = some j.toNat := by
  unfold ixN
  rw [if_pos h0, if_pos (by rw [List.length_map]; omega)]
theorem ok_gone {f fh ft fB CB : Addr} {fd fdh fdt fdB : FuncData} {k : Nat} {tR : Tok} (F : Fun K "gone" "gone" sGone f fd) (Ha : Fns P w K mg base (k + 1) "has_boat" ["canal", "standing", "lock", "water"] (spHas K) fh fdh) (FT : Fns P w K mg base (k + 1) "from_and_to" ["canal", "standing", "lock", "water"] (spFT K) ft fdt)
    (TB : Er P w K mg base "NoBoat" 2 CB fB fdB ["self", "going"] (spI CB "going")) (gRED : mg "RED" = some (.str "red" tR)) (m_list : mg "list" = none) (m_tuple : mg "tuple" = none) : FnOk P w K mg base (L2.CX P w) (k + 2 + 1) f fd ["canal", "standing", "going"] (spGone K CB) := by
  refine F.okX scGone (fun vs H Q E h => ?_) (fun cdv A outer s H vs Q E hr2 h => ?_)
  · obtain ⟨v, u, g, i, r, c, s, B, rfl, _⟩ := h
    rfl
  obtain ⟨v, u, g, i, r, c, s, B, rfl, hc, hs, hg, hi, okc, oks, qy, qn⟩ := h
  have hr : Room (k + 1) _ := hr2.mono (Nat.le_succ _)
  have hrB : Room (1 + 1) _ := hr2.mono (by omega)
  have FB := TB.ok
  have bB := TB.bi
  refine ⟨_, (pss_cons (ps_asg (pv 2) (pg_any rfl (pgs_cons (pg_name (i := 3) scGone.nd rfl (.inl rfl)) (pgs_cons (pg_name (i := 4) scGone.nd rfl (.inl rfl)) pgs_nil))))
    (pss_cons (ps_if (pt_not (pt_val (pe_fn Ha hr rfl (pa_cons (pv 0) (pa_cons (pv 1) (pa_cons (pv 3) (pa_cons (pv 4) pa_nil))))))) (pss_one (ps_raise rfl (takes_of rfl rfl rfl rfl) (pmk_ex TB.ex TB.ty TB.ini TB.tI FB hrB bB rfl TB.g (pa_cons (pe_tup (pa_cons (pv 3) (pa_cons (pv 4) pa_nil))) pa_nil)))) pss_nil)
    (pss_cons (ps_asg (pe_fn FT hr rfl (pa_cons (pv 0) (pa_cons (pv 1) (pa_cons (pv 3) (pa_cons (pv 4) pa_nil))))) (pg_any rfl (pgs_cons (pg_name (i := 5) scGone.nd rfl (.inl rfl)) (pgs_cons (pg_name (i := 6) scGone.nd rfl (.inl rfl)) pgs_nil))))
    (pss_cons (ps_par3 (i := 7) (j := 8) (l := 9) rfl scGone.nd rfl rfl rfl (by decide) (by decide) (by decide) rfl rfl rfl (pa_cons (pe_callTy (r := rLstA K) call_listA rfl m_list boot_list (pa_cons (pe_ix (r := rIxA K) ix_any (pv 1) pe_int (fun _ _ => rfl)) pa_nil)) (pa_cons (pe_callTy (r := rLstA K) call_listA rfl m_list boot_list (pa_cons (pe_ix (r := rIxA K) ix_any (pv 1) pe_int (fun _ _ => rfl)) pa_nil)) (pa_cons (pe_callTy (r := rLstA K) call_listA rfl m_list boot_list (pa_cons (pe_ix (r := rIxA K) ix_any (pv 1) pe_int (fun _ _ => rfl)) pa_nil)) pa_nil))) rfl)
    (pss_cons (ps_set (i := 10) scGone.nd rfl (.inl rfl) (pe_ifExp (pt_cmpR op_eq (pv 4) (pe_glob (v := .str "red") rfl gRED ⟨_, rfl⟩) (nomark _)) (pv 7) (pv 8)))
    (pss_cons (ps_augS (pv 10) (pv 5) get_list pe_int ip_sub set_list)
    (pss_cons (ps_augS (pv 10) (pv 6) get_list pe_int ip_add set_list)
    (pss_cons (ps_asg (pe_op op_sub pe_int (pe_ix (r := rIxA K) ix_any (pv 9) (pv 3) (fun _ _ => rfl))) (pg_sub (pv 9) (pv 3) set_list))
    (pss_one (ps_ret (pe_tup (pa_cons (pe_callTy (r := rTupA K) call_tupleA rfl m_tuple boot_tuple (pa_cons (pv 7) pa_nil)) (pa_cons (pe_callTy (r := rTupA K) call_tupleA rfl m_tuple boot_tuple (pa_cons (pv 8) pa_nil)) (pa_cons (pe_callTy (r := rTupA K) call_tupleA rfl m_tuple boot_tuple (pa_cons (pv 9) pa_nil)) pa_nil)))))))))))))), ?_⟩
  refine ⟨_, rfl, g, _, rfl, hg, rfl, _, _, rfl, _, _, rfl, rfl, ?_⟩
  refine at_s (σ' := [some v, some u, some (.ref g), some (.int i), some (.str (wS r)), none, none, none, none, none, none]) rfl ?_
  refine ⟨_, rfl, _, rfl, _, rfl, _, rfl, v, u, i, r, c, s, B, rfl, hc, hs, hi, okc, oks, fun H1 s1 => ⟨_, rfl, ?_⟩⟩
  cases hb : hasB c s i r with
  | false =>
    refine iteT ?_
    refine ⟨_, rfl, _, rfl, (by show 2 ≤ sizeLine; decide), fun t nt => ⟨(by show 1 ≤ 1000; decide), fun a na => ?_⟩⟩
    have st : Same H1 (upd H1 t (.tup (mvV (i, r)))) := same_new nt
    refine ⟨a, .ref t, rfl, upd_same, fun dx nx nxa => ⟨rfl, dx, [("going", .ref t)], upd_same, by rw [upd_ne nxa, upd_same], by rw [upd_ne nxa] at nx; exact nx, ?_⟩⟩
    have nx' : (upd H1 t (.tup (mvV (i, r)))) dx = none := by rw [upd_ne nxa] at nx; exact nx
    rw [del_upd' na nxa]
    exact qn hb dx t _ (s1.trans (st.trans (same_new nx'))) (s1.free (st.free nx')) upd_same ((same_new nx') _ _ upd_same)
  | true =>
    refine iteF ?_
    have qy := qy hb
    have fo := fromTo_ok okc (s := s) hi r
    have hl := boats_len oks r
    refine ⟨_, rfl, _, rfl, _, rfl, _, rfl, v, u, i, r, c, s, rfl, hc.same s1, hs.same s1, hi, by rw [oks.n]; exact hi, fun p H2 s2 np ep => ?_⟩
    have s12 := s1.trans s2
    refine ⟨p, _, rfl, .inr (.inl (.inl ep)), rfl, _, _, rfl, _, _, rfl, rfl, ?_⟩
    refine at_s (σ' := [some v, some u, some (.ref g), some (.int i), some (.str (wS r)), some (.int (fromTo c s i r).1), some (.int (fromTo c s i r).2), none, none, none, none]) rfl ?_
    obtain ⟨b, br, bb, bl, rfl, hb', hbr, hbb, hbl⟩ := (hs.same s12).ex
    refine ⟨_, rfl, b, _, _, _, rfl, rfl, hb', rfl, br, _, rfl, hbr, fun l1 n1 => ?_⟩
    have t1 : Same H2 (upd H2 l1 (.lst (s.rs.map V.int))) := same_new n1
    refine ⟨_, rfl, b, _, _, _, rfl, rfl, Same.sq2 t1 hb', rfl, bb, _, rfl, Same.sq2 t1 hbb, fun l2 n2 => ?_⟩
    have t2 : Same _ (upd (upd H2 l1 (.lst (s.rs.map V.int))) l2 (.lst (s.bs.map V.int))) := same_new n2
    have t12 := t1.trans t2
    refine ⟨_, rfl, b, _, _, _, rfl, rfl, Same.sq2 t12 hb', rfl, bl, _, rfl, Same.sq2 t12 hbl, fun l3 n3 => ?_⟩
    have t3 : Same _ (upd (upd (upd H2 l1 (.lst (s.rs.map V.int))) l2 (.lst (s.bs.map V.int))) l3 (.lst (s.ls.map V.int))) := same_new n3
    have e1 := t2 _ _ (show (upd H2 l1 (.lst (s.rs.map V.int))) l1 = _ from upd_same)
    have e2 := t3 _ _ (show (upd (upd H2 l1 (.lst (s.rs.map V.int))) l2 (.lst (s.bs.map V.int))) l2 = _ from upd_same)
    have e1' := t3 _ _ e1
    have d12 : l1 ≠ l2 := fun z => by rw [← z, upd_same] at n2; cases n2
    have d13 : l1 ≠ l3 := fun z => by rw [← z, e1] at n3; cases n3
    have d23 : l2 ≠ l3 := fun z => by rw [← z, upd_same] at n3; cases n3
    have hn1 : H2 l1 = none := n1
    have hn2 : H2 l2 = none := t1.free n2
    have hn3 : H2 l3 = none := t12.free n3
    have e3 : (upd (upd (upd H2 l1 (.lst (s.rs.map V.int))) l2 (.lst (s.bs.map V.int))) l3 (.lst (s.ls.map V.int))) l3 = some (.lst (s.ls.map V.int)) := upd_same
    have tt : Same H2 (upd (upd (upd H2 l1 (.lst (s.rs.map V.int))) l2 (.lst (s.bs.map V.int))) l3 (.lst (s.ls.map V.int))) := t12.trans t3
    refine ⟨_, _, _, rfl, ?_⟩
    refine at_s (σ' := [some v, some (.ref b), some (.ref g), some (.int i), some (.str (wS r)), some (.int (fromTo c s i r).1), some (.int (fromTo c s i r).2), some (.ref l1), some (.ref l2), some (.ref l3), none]) rfl ?_
    generalize upd (upd (upd H2 l1 (.lst (s.rs.map V.int))) l2 (.lst (s.bs.map V.int))) l3 (.lst (s.ls.map V.int)) = H3 at e1' e2 e3 tt
    -- the three lists are our own
    have s3i : (i : Int) < s.ls.length := by rw [oks.n]; omega
    -- what follows, by the boats' list
    have tail : ∀ (D : Ends) (lw : Addr) (H4 : Hp) (zr zb : List Int), D.rt = Q → Same H2 H4 → H4 l1 = some (.lst (zr.map V.int)) → H4 l2 = some (.lst (zb.map V.int)) → H4 l3 = some (.lst ((flip1 s.ls i).map V.int)) → (goneS c s i r) = ⟨zr, zb, flip1 s.ls i⟩ →
        (tRet (tTup (tCons (tCB (rTupA K) (tCons (tVar 7) tNil)) (tCons (tCB (rTupA K) (tCons (tVar 8) tNil)) (tCons (tCB (rTupA K) (tCons (tVar 9) tNil)) tNil))))) D [some v, some (.ref b), some (.ref g), some (.int i), some (.str (wS r)), some (.int (fromTo c s i r).1), some (.int (fromTo c s i r).2), some (.ref l1), some (.ref l2), some (.ref l3), some (.ref lw)] H4 := by
      intro D lw H4 zr zb hD s4 f1 f2 f3 eg
      refine ⟨_, rfl, l1, _, rfl, .inl ⟨SqL.of f1, fun p1 np1 => ?_⟩⟩
      have u1 : Same H4 (upd H4 p1 (.tup (zr.map V.int))) := same_new np1
      refine ⟨_, rfl, l2, _, rfl, .inl ⟨SqL.of (u1 _ _ f2), fun p2 np2 => ?_⟩⟩
      have u2 : Same _ (upd (upd H4 p1 (.tup (zr.map V.int))) p2 (.tup (zb.map V.int))) := same_new np2
      refine ⟨_, rfl, l3, _, rfl, .inl ⟨SqL.of (u2 _ _ (u1 _ _ f3)), fun p3 np3 => ?_⟩⟩
      have u3 : Same _ (upd (upd (upd H4 p1 (.tup (zr.map V.int))) p2 (.tup (zb.map V.int))) p3 (.tup ((flip1 s.ls i).map V.int))) := same_new np3
      refine ⟨(by show 3 ≤ sizeLine; decide), fun p4 np4 => ?_⟩
      have u4 : Same _ (upd (upd (upd (upd H4 p1 (.tup (zr.map V.int))) p2 (.tup (zb.map V.int))) p3 (.tup ((flip1 s.ls i).map V.int))) p4 (.tup [.ref p1, .ref p2, .ref p3])) := same_new np4
      rw [hD]
      refine qy _ _ (s12.trans (s4.trans (u1.trans (u2.trans (u3.trans u4))))) ?_
      rw [eg]
      have dpi : ∀ (zs : List Int) (G : Hp), DpAll K G (zs.map V.int) (intsD zs) := by
        intro zs G
        induction zs with
        | nil => exact .nil
        | cons z zs ih => exact .cons (.int z) ih
      exact .tup (.inl (.inl upd_same)) (.cons (.tup (.inl (.inl (u4 _ _ (u3 _ _ (u2 _ _ upd_same))))) (dpi _ _)) (.cons (.tup (.inl (.inl (u4 _ _ (u3 _ _ upd_same)))) (dpi _ _)) (.cons (.tup (.inl (.inl (u4 _ _ upd_same))) (dpi _ _)) .nil)))
    refine ⟨_, rfl, rfl, _, rfl, ite2 (fun e => ?_) (fun e => ?_)⟩
    · have er : r = true := by rw [← isRed_wS r]; exact e
      subst er
      refine ⟨_, rfl, ?_⟩
      refine at_g (σ' := [some v, some (.ref b), some (.ref g), some (.int i), some (.str (wS true)), some (.int (fromTo c s i true).1), some (.int (fromTo c s i true).2), some (.ref l1), some (.ref l2), some (.ref l3), some (.ref l1)]) rfl ?_
      have L1 : (fromTo c s i true).1 < (s.rs.length : Int) := by rw [show (s.rs.length : Int) = basW true c from hl]; exact fo.1.2
      have L2 : (fromTo c s i true).2 < (s.rs.length : Int) := by rw [show (s.rs.length : Int) = basW true c from hl]; exact fo.2.2
      refine ⟨_, rfl, _, rfl, l1, _, _, _, rfl, rfl, SqL.of e1', fo.1.1, by rw [List.getElem?_map, gt_get fo.1.1 L1]; rfl, _, _, rfl, rfl, l1, _, _, _, rfl, rfl, e1', set_at (x := 0) fo.1.1 L1, ?_⟩
      rw [set_ints]
      have L2' : (fromTo c s i true).2 < ((s.rs.set (fromTo c s i true).1.toNat (gt s.rs (fromTo c s i true).1 - 1)).length : Int) := by rw [List.length_set]; exact L2
      refine ⟨_, rfl, _, rfl, l1, _, _, _, rfl, rfl, SqL.of upd_same, fo.2.1, by rw [List.getElem?_map, gt_get fo.2.1 L2']; rfl, _, _, rfl, rfl, l1, _, _, _, rfl, rfl, upd_same, set_at (x := 0) fo.2.1 L2', ?_⟩
      rw [set_ints, upd_upd]
      have e3' : upd H3 l1 (.lst ((mov s.rs (fromTo c s i true)).map V.int)) l3 = some (.lst (s.ls.map V.int)) := by rw [upd_ne (Ne.symm d13)]; exact e3
      refine ⟨_, rfl, _, rfl, l3, _, _, _, rfl, rfl, .inl (SqL.of e3'), gt_at (by omega) s3i, _, _, rfl, rfl, _, rfl, _, rfl, l3, _, _, _, rfl, rfl, e3', set_at (x := 0) (by omega) s3i, ?_⟩
      rw [set_ints]
      refine tail _ _ _ (mov s.rs (fromTo c s i true)) s.bs rfl (fun c' o e => ?_) ?_ ?_ ?_ rfl
      · rw [upd_ne (ne_of_none e hn3), upd_ne (ne_of_none e hn1)]; exact tt _ _ e
      · rw [upd_ne d13, upd_same]; rfl
      · rw [upd_ne d23, upd_ne (Ne.symm d12)]; exact e2
      · rw [upd_same]; rfl
    · have er : r = false := by
        cases r with
        | false => rfl
        | true => exact absurd (isRed_wS true) e
      subst er
      refine ⟨_, rfl, ?_⟩
      refine at_g (σ' := [some v, some (.ref b), some (.ref g), some (.int i), some (.str (wS false)), some (.int (fromTo c s i false).1), some (.int (fromTo c s i false).2), some (.ref l1), some (.ref l2), some (.ref l3), some (.ref l2)]) rfl ?_
      have L1 : (fromTo c s i false).1 < (s.bs.length : Int) := by rw [show (s.bs.length : Int) = basW false c from hl]; exact fo.1.2
      have L2 : (fromTo c s i false).2 < (s.bs.length : Int) := by rw [show (s.bs.length : Int) = basW false c from hl]; exact fo.2.2
      refine ⟨_, rfl, _, rfl, l2, _, _, _, rfl, rfl, SqL.of e2, fo.1.1, by rw [List.getElem?_map, gt_get fo.1.1 L1]; rfl, _, _, rfl, rfl, l2, _, _, _, rfl, rfl, e2, set_at (x := 0) fo.1.1 L1, ?_⟩
      rw [set_ints]
      have L2' : (fromTo c s i false).2 < ((s.bs.set (fromTo c s i false).1.toNat (gt s.bs (fromTo c s i false).1 - 1)).length : Int) := by rw [List.length_set]; exact L2
      refine ⟨_, rfl, _, rfl, l2, _, _, _, rfl, rfl, SqL.of upd_same, fo.2.1, by rw [List.getElem?_map, gt_get fo.2.1 L2']; rfl, _, _, rfl, rfl, l2, _, _, _, rfl, rfl, upd_same, set_at (x := 0) fo.2.1 L2', ?_⟩
      rw [set_ints, upd_upd]
      have e3' : upd H3 l2 (.lst ((mov s.bs (fromTo c s i false)).map V.int)) l3 = some (.lst (s.ls.map V.int)) := by rw [upd_ne (Ne.symm d23)]; exact e3
      refine ⟨_, rfl, _, rfl, l3, _, _, _, rfl, rfl, .inl (SqL.of e3'), gt_at (by omega) s3i, _, _, rfl, rfl, _, rfl, _, rfl, l3, _, _, _, rfl, rfl, e3', set_at (x := 0) (by omega) s3i, ?_⟩
      rw [set_ints]
      refine tail _ _ _ s.rs (mov s.bs (fromTo c s i false)) rfl (fun c' o e => ?_) ?_ ?_ ?_ rfl
      · rw [upd_ne (ne_of_none e hn3), upd_ne (ne_of_none e hn2)]; exact tt _ _ e
      · rw [upd_ne d13, upd_ne d12]; exact e1'
      · rw [upd_ne d23, upd_same]; rfl
      · rw [upd_same]; rfl
end
end XL
namespace XL
open PySem PySem.Spec PyProof.Rows L2
abbrev sLF : Stmt := topS 32
abbrev sSt : Stmt := topS 33
abbrev sBe : Stmt := topS 34
theorem dp_ints' {K : PySem.W.Frag} {H : Hp} : ∀ zs : List Int, DpAll K H (zs.map V.int) (intsD zs)
  | [] => .nil
  | z :: zs => .cons (.int z) (dp_ints' zs)
section
variable {P : Program} {w : World} {K : PySem.W.Frag} {mg : Str → Option Value} {base : Heap}
/-! ### the law's own: from and to -/
abbrev nLF : List Str := ["_law_ship_way", "_law_lying_here", "_law_move", "_law_gate", "_law_flood", "_law_ends"]
theorem scLF : FnScope nLF ["_law_ship_way", "_law_lying_here", "_law_move"] (defScope sLF) := ⟨rfl, rfl, rfl, by decide +kernel, rfl, by decide +kernel, by decide +kernel⟩
def spLF (K : PySem.W.Frag) : Sp := fun vs H Q _ => ∃ (v u : V) (m : Addr) (i : Nat) (r : Bool) (c : Cn) (s : Sn), vs = [v, u, .ref m] ∧ Dp K H v (cnD c) ∧ SnAny K H u s ∧ Sq2 K H m (mvV (i, r)) ∧ i < c.ls.length ∧ i < s.ls.length ∧ ∀ p H', Same H H' → H p = none → H' p = some (.tup (prV (fromTo c s i r))) → Q (.ref p) H'
theorem ok_lf {f : Addr} {fd : FuncData} {k : Nat} (F : Fun K "_law_from_to" "_law_from_to" sLF f fd) : FnOk P w K mg base CX0 (k + 1) f fd ["_law_ship_way", "_law_lying_here", "_law_move"] (spLF K) := by
  refine F.ok scLF (fun vs H Q E h => ?_) (fun cdv A outer s H vs Q E hr h => ?_)
  · obtain ⟨v, u, m, i, r, c, s, rfl, _⟩ := h
    rfl
  obtain ⟨v, u, m, i, r, c, s, rfl, hc, hs, hm, hi, hi2, q⟩ := h
  obtain ⟨a, g, vs, rfl, ha, hg, hl⟩ := cn_of hc
  obtain ⟨b, br, bb, bl, rfl, hb, hbr, hbb, hbl⟩ := hs.ex
  refine ⟨_, (pss_cons (ps_asg (pv 2) (pg_any rfl (pgs_cons (pg_name (i := 3) scLF.nd rfl (.inl rfl)) (pgs_cons (pg_name (i := 4) scLF.nd rfl (.inl rfl)) pgs_nil))))
    (pss_cons (ps_set (i := 5) scLF.nd rfl (.inl rfl) (pe_ifExp (pt_cmpR op_eq (pv 4) pe_str (nomark _)) (pe_slice sl_tup (pe_ix (r := rIxA K) ix_any (pe_ix (r := rIxA K) ix_any (pv 0) pe_int (fun _ _ => rfl)) (pv 3) (fun _ _ => rfl)) po_none (po_some pe_int)) (pe_slice sl_tup (pe_ix (r := rIxA K) ix_any (pe_ix (r := rIxA K) ix_any (pv 0) pe_int (fun _ _ => rfl)) (pv 3) (fun _ _ => rfl)) (po_some pe_int) po_none)))
    (pss_one (ps_ret (pe_ifExp (pt_cmpR op_eq (pe_ix (r := rIxA K) ix_any (pe_ix (r := rIxA K) ix_any (pv 1) pe_int (fun _ _ => rfl)) (pv 3) (fun _ _ => rfl)) pe_int (nomark _)) (pv 5) (pe_rev2 (pv 5))))))), ?_⟩
  have hvl : vs.length = c.ls.length := by rw [DpAll.length hl, List.length_map]
  have hvi : i < vs.length := by omega
  obtain ⟨d, ed, pd⟩ := DpAll.get hl (List.getElem?_eq_getElem hvi)
  rw [List.getElem?_map, lkAt_get hi] at ed
  cases ed
  obtain ⟨t, et, ht⟩ := ends_of pd
  refine ⟨_, rfl, m, _, rfl, hm, rfl, _, _, rfl, _, _, rfl, rfl, ?_⟩
  refine at_s (σ' := [some (.ref a), some (.ref b), some (.ref m), some (.int i), some (.str (wS r)), none]) rfl ?_
  have fin : ∀ (p : Addr), H p = none → gt s.ls (i : Int) = 0 → Q (.ref p) (upd H p (.tup (prV (endW r (lkAt c i))))) := fun p np e => by
    refine q p _ (same_new np) np ?_
    rw [upd_same]; unfold fromTo; rw [if_pos e]
  have fin2 : ∀ (p p2 : Addr), H p = none → ¬ gt s.ls (i : Int) = 0 → upd H p (.tup (prV (endW r (lkAt c i)))) p2 = none → Q (.ref p2) (upd (upd H p (.tup (prV (endW r (lkAt c i))))) p2 (.tup [.int (endW r (lkAt c i)).2, .int (endW r (lkAt c i)).1])) := fun p p2 np e np2 => by
    refine q p2 _ ((same_new np).trans (same_new np2)) ((same_new np).free np2) ?_
    rw [upd_same]; unfold fromTo; rw [if_neg e]; rfl
  refine ⟨_, rfl, rfl, _, rfl, ite2 (fun e => ?_) (fun e => ?_)⟩
  · have er : r = true := by rw [← isRed_wS r]; exact e
    subst er
    refine ⟨_, rfl, a, _, _, _, rfl, rfl, .inr ha, rfl, _, rfl, g, _, _, _, rfl, rfl, .inr hg, atI_nat (List.getElem?_eq_getElem hvi), 2, rfl, ?_⟩
    rw [et]
    refine ⟨t, _, rfl, ht, (fun z => absurd (show HT.sIx 4 4 (some 2) = 4 from z.2) (by decide)), fun p np => ?_⟩
    refine at_g (σ' := [some (.ref a), some (.ref b), some (.ref m), some (.int i), some (.str (wS true)), some (.ref p)]) rfl ?_
    have s1 : Same H (upd H p (.tup (prV (endW true (lkAt c i))))) := same_new np
    refine ⟨_, rfl, b, _, _, _, rfl, rfl, Same.sq2 s1 hb, rfl, _, rfl, bl, _, _, _, rfl, rfl, Same.sq2 s1 hbl, gt_at (by omega) (by omega), rfl, _, rfl, ite2 (fun e2 => ?_) (fun e2 => ?_)⟩
    · exact ⟨_, rfl, fin p np (V.int.inj (of_decide_eq_true e2))⟩
    · exact ⟨_, rfl, p, _, _, rfl, .inl (.inl upd_same), fun p2 np2 => fin2 p p2 np (fun z => e2 (decide_eq_true (by rw [z]))) np2⟩
  · have er : r = false := by
      cases r with
      | false => rfl
      | true => exact absurd (isRed_wS true) e
    subst er
    refine ⟨_, rfl, a, _, _, _, rfl, rfl, .inr ha, rfl, _, rfl, g, _, _, _, rfl, rfl, .inr hg, atI_nat (List.getElem?_eq_getElem hvi), 2, rfl, ?_⟩
    rw [et]
    refine ⟨t, _, rfl, ht, (fun z => absurd (show HT.sIx 4 0 (some 2) = 0 from z.1) (by decide)), fun p np => ?_⟩
    refine at_g (σ' := [some (.ref a), some (.ref b), some (.ref m), some (.int i), some (.str (wS false)), some (.ref p)]) rfl ?_
    have s1 : Same H (upd H p (.tup (prV (endW false (lkAt c i))))) := same_new np
    refine ⟨_, rfl, b, _, _, _, rfl, rfl, Same.sq2 s1 hb, rfl, _, rfl, bl, _, _, _, rfl, rfl, Same.sq2 s1 hbl, gt_at (by omega) (by omega), rfl, _, rfl, ite2 (fun e2 => ?_) (fun e2 => ?_)⟩
    · exact ⟨_, rfl, fin p np (V.int.inj (of_decide_eq_true e2))⟩
    · exact ⟨_, rfl, p, _, _, rfl, .inl (.inl upd_same), fun p2 np2 => fin2 p p2 np (fun z => e2 (decide_eq_true (by rw [z]))) np2⟩
/-! ### steps -/
abbrev nSt : List Str := ["_law_ship_way", "_law_lying_here", "_law_found", "_law_gate", "_law_k", "_law_flood"]
theorem scSt : FnScope nSt ["_law_ship_way", "_law_lying_here"] (defScope sSt) := ⟨rfl, rfl, rfl, by decide +kernel, rfl, by decide +kernel, by decide +kernel⟩
def spSt (K : PySem.W.Frag) : Sp := fun vs H Q _ => ∃ (v u : V) (c : Cn) (s : Sn) (B : Int), vs = [v, u] ∧ Dp K H v (cnD c) ∧ SnAny K H u s ∧ okCn 100 100 c ∧ okSn c B s ∧ ∀ p us H', Same H H' → H p = none → MvAt H' p (may c s c.ls.length) us → Q (.ref p) H'
theorem ok_st {f fe : Addr} {fd fde : FuncData} {k : Nat} (F : Fun K "_law_steps" "_law_steps" sSt f fd) (LF : Fns P w K mg base k "_law_from_to" ["_law_ship_way", "_law_lying_here", "_law_move"] (spLF K) fe fde) (m_range : mg "range" = none) (m_len : mg "len" = none) (m_enumerate : mg "enumerate" = none) : FnOk P w K mg base CX0 (k + 1) f fd ["_law_ship_way", "_law_lying_here"] (spSt K) := by
  refine F.ok scSt (fun vs H Q E h => ?_) (fun cdv A outer s H vs Q E hr h => ?_)
  · obtain ⟨v, u, c, s, B, rfl, _⟩ := h
    rfl
  obtain ⟨v, u, c, s, B, rfl, hc, hs, okc, oks, q⟩ := h
  obtain ⟨a, g, vs, rfl, ha, hg, hl⟩ := cn_of hc
  have hvl : vs.length = c.ls.length := by rw [DpAll.length hl, List.length_map]
  refine ⟨_, (pss_cons (ps_set (i := 2) scSt.nd rfl (.inl rfl) (pe_lst pa_nil))
    (pss_cons (ps_for PassesOwn.never rfl (pi_range1 rfl m_range (pa_cons (pe_callB (r := rLenA K) call_lenA rfl m_len PySem.boot_len (pa_cons (pe_ix (r := rIxA K) ix_any (pv 0) pe_int (fun _ _ => rfl)) pa_nil)) pa_nil)) (pg_name (i := 3) scSt.nd rfl (.inl rfl))
    (pss_one (ps_for PassesOwn.never rfl (pi_enumT rfl m_enumerate (pa_cons (pe_tup (pa_cons pe_str (pa_cons pe_str pa_nil))) pa_nil)) (pg_any rfl (pgs_cons (pg_name (i := 4) scSt.nd rfl (.inl rfl)) (pgs_cons (pg_name (i := 5) scSt.nd rfl (.inl rfl)) pgs_nil)))
    (pss_one (ps_if (pt_cmpR op_gt (pe_ix (r := rIxA K) ix_any (pe_ix (r := rIxA K) ix_any (pv 1) (pv 4) (fun _ _ => rfl)) (pe_ix (r := rIxA K) ix_any (pe_fn LF hr rfl (pa_cons (pv 0) (pa_cons (pv 1) (pa_cons (pe_tup (pa_cons (pv 3) (pa_cons (pv 5) pa_nil))) pa_nil)))) pe_int (fun _ _ => rfl)) (fun _ _ => rfl)) pe_int (nomark _)) (pss_one (ps_expr (pe_bm PySem.F.plainAttrs_list PySem.F.slot_list_append PySem.F.type_list_append mt_append (pv 2) (pa_cons (pe_tup (pa_cons (pv 3) (pa_cons (pv 5) pa_nil))) pa_nil)))) pss_nil)))))
    (pss_one (ps_ret (pv 2))))), ?_⟩
  refine ⟨(by show 0 ≤ sizeLine; decide), fun tl ntl => ?_⟩
  have s1 : Same H (upd H tl (.lst [])) := same_new ntl
  refine at_g (σ' := [some (.ref a), some u, some (.ref tl), none, none, none]) rfl ?_
  have hnl : c.ls.length ≤ 100 := okc.n
  refine ⟨_, rfl, a, _, _, _, rfl, rfl, .inr (Same.tup s1 ha), rfl, g, vs, rfl, .inr (Same.tup s1 hg), _, rfl, by omega, by omega, for_it walk_range (fun i σ H3 => ∃ (us : List V) (y3 y4 y5 : Option V), σ = [some (.ref a), some u, some (.ref tl), y3, y4, y5] ∧ Same H H3 ∧ MvAt H3 tl (may c s i) us) ⟨[], none, none, none, rfl, s1, upd_same, rfl, fun j u h => by simp at h⟩ (fun _ _ _ _ _ => trivial) (fun i x σ H3 H4 hi h hy => ?_) (fun σ H3 h => ?_)⟩
  · obtain ⟨us, y3, y4, y5, rfl, sm, M⟩ := h
    obtain ⟨rfl, rfl⟩ := hy
    have hi2 : i < c.ls.length := by omega
    refine at_g (σ' := [some (.ref a), some u, some (.ref tl), some (.int (0 + i)), y4, y5]) rfl ?_
    rw [Int.zero_add]
    refine ⟨(by show 2 ≤ sizeLine; decide), fun tp ntp => ?_⟩
    have stp : Same H4 (upd H4 tp (.tup [.str "red", .str "blue"])) := same_new ntp
    have etp : (upd H4 tp (.tup [.str "red", .str "blue"])) tp = some (.tup [.str "red", .str "blue"]) := upd_same
    refine ⟨tp, [.str "red", .str "blue"], rfl, .inl (.inl etp), for_it (walk_enumT (xs := [.str "red", .str "blue"])) (fun j σ H5 => ∃ (us : List V) (y4 y5 : Option V), σ = [some (.ref a), some u, some (.ref tl), some (.int (i : Nat)), y4, y5] ∧ Same H H5 ∧ H5 tp = some (.tup [.str "red", .str "blue"]) ∧ MvAt H5 tl (may c s i ++ ([true, false].take j).filterMap fun r => if hasB c s i r = true then some (i, r) else none) us)
      ⟨us, y4, y5, rfl, sm.trans stp, etp, ?_⟩ (fun j σ H5 _ h => ?_) (fun j x σ H5 H6 hj h hy => ?_) (fun σ H5 h => ?_)⟩
    · rw [show ([true, false].take 0).filterMap (fun r => if hasB c s i r = true then some (i, r) else none) = [] from rfl, List.append_nil]
      exact ⟨stp _ _ M.e, M.l, fun j u hu => by
        obtain ⟨t, m, e1, e2, e3⟩ := M.d j u hu
        exact ⟨t, m, e1, e2, stp _ _ e3⟩⟩
    · obtain ⟨_, _, _, _, s5, e5, _⟩ := h
      exact .inl (.inl e5)
    · obtain ⟨us, y4, y5, rfl, s5, e5, M5⟩ := h
      obtain ⟨T, x1, x2, rfl, nT, rfl, q1, q2⟩ := hy
      have e1' : x1 = .int (j : Nat) := (Option.some.inj q1).symm
      subst e1'
      obtain ⟨r, rfl, er, hix⟩ : ∃ r : Bool, x2 = .str (wS r) ∧ [true, false][j]? = some r ∧ ∀ zr zb zl : V, [zr, zb, zl][j]? = some (if r = true then zr else zb) := by
        match j, hj, q2 with
        | 0, _, hx => exact ⟨true, (Option.some.inj hx).symm, rfl, fun _ _ _ => rfl⟩
        | 1, _, hx => exact ⟨false, (Option.some.inj hx).symm, rfl, fun _ _ _ => rfl⟩
      have etk : ([true, false].take (j + 1)) = [true, false].take j ++ [r] := by rw [List.take_succ, er]; rfl
      have sT : Same H5 (upd H5 T (.tup [.int (j : Nat), .str (wS r)])) := same_new nT
      refine ⟨T, _, rfl, .inr (.inl (.inl upd_same)), rfl, _, _, rfl, _, _, rfl, rfl, ?_⟩
      refine at_s (σ' := [some (.ref a), some u, some (.ref tl), some (.int (i : Nat)), some (.int (j : Nat)), some (.str (wS r))]) rfl ?_
      have s6 := s5.trans sT
      generalize upd H5 T (.tup [.int (j : Nat), .str (wS r)]) = H6 at sT s6
      obtain ⟨b, br, bb, bl, eu, hb, hbr, hbb, hbl⟩ := (hs.same s6).ex
      subst eu
      refine ⟨_, rfl, _, rfl, b, _, _, _, rfl, rfl, hb, atI_nat (hix _ _ _), _, rfl, _, rfl, _, rfl, _, rfl, (by show 2 ≤ sizeLine; decide), fun t nt => ?_⟩
      have st : Same H6 (upd H6 t (.tup (mvV (i, r)))) := same_new nt
      refine ⟨.ref a, .ref b, t, i, r, c, s, rfl, Dp.same (s6.trans st) _ hc, hs.same (s6.trans st), .inr (.inl (.inl upd_same)), hi2, by rw [oks.n]; exact hi2, fun p H7 s7 np ep => ?_⟩
      have s67 := st.trans s7
      have f := fromTo_ok okc (s := s) hi2 r
      have hlb := boats_len oks r
      have g1 : atI ((boatsW r s).map V.int) (fromTo c s i r).1 = some (.int (gt (boatsW r s) (fromTo c s i r).1)) := gt_at f.1.1 (by rw [hlb]; exact f.1.2)
      have hbt : Sq2 K H7 (if r = true then br else bb) ((boatsW r s).map V.int) := by
        cases r with
        | true => exact Same.sq2 s67 hbr
        | false => exact Same.sq2 s67 hbb
      refine ⟨p, _, _, _, rfl, rfl, .inr (.inl (.inl ep)), rfl, if r = true then br else bb, _, _, _, by cases r <;> rfl, rfl, hbt, g1, _, _, rfl, rfl, _, rfl, ?_⟩
      have s57 := sT.trans s67
      have M7 : MvAt H7 tl (may c s i ++ ([true, false].take j).filterMap fun r => if hasB c s i r = true then some (i, r) else none) us := ⟨s57 _ _ M5.e, M5.l, fun j u hu => by
        obtain ⟨t, m, e1, e2, e3⟩ := M5.d j u hu
        exact ⟨t, m, e1, e2, s57 _ _ e3⟩⟩
      show (if hasB c s i r = true then _ else _)
      cases hb' : hasB c s i r with
      | false =>
        refine iteF ⟨us, _, _, rfl, s5.trans s57, s57 _ _ e5, ?_⟩
        rw [etk, List.filterMap_append]
        have e0 : [r].filterMap (fun r => if hasB c s i r = true then some (i, r) else none) = [] := by simp [hb']
        rw [e0, List.append_nil]; exact M7
      | true =>
        refine iteT ⟨_, rfl, .inl ⟨rfl, _, SqL.of M7.e⟩, _, rfl, _, rfl, (by show 2 ≤ sizeLine; decide), fun t nt => ?_⟩
        have st : Same H7 (upd H7 t (.tup (mvV (i, r)))) := same_new nt
        have hul : us.length ≤ 1000 := by
          rw [M7.l, List.length_append]
          have h1 := may_len c s i
          have h2 : (([true, false].take j).filterMap fun r => if hasB c s i r = true then some (i, r) else none).length ≤ ([true, false].take j).length := List.length_filterMap_le _ _
          have h3 : ([true, false].take j).length ≤ 2 := by rw [List.length_take]; exact Nat.min_le_right _ _
          omega
        refine ⟨tl, us, _, rfl, rfl, st _ _ M7.e, small1000 hul, ?_⟩
        have htl : ∀ {b : Addr} {xs : List V}, H7 b = some (.tup xs) → upd (upd H7 t (.tup (mvV (i, r)))) tl (.lst (us ++ [.ref t])) b = some (.tup xs) := fun {b xs} e => by
          rw [upd_ne (fun z => by rw [z, M7.e] at e; cases e)]; exact st _ _ e
        have ttl : t ≠ tl := fun z => by rw [z, M7.e] at nt; cases nt
        refine ⟨us ++ [.ref t], _, _, rfl, fun b o e => ?_, htl (s57 _ _ e5), ?_⟩
        · rw [upd_ne (ne_of_none e ntl)]; exact st _ _ (s57 _ _ (s5 _ _ e))
        · rw [etk, List.filterMap_append]
          have e0 : [r].filterMap (fun r => if hasB c s i r = true then some (i, r) else none) = [(i, r)] := by simp [hb']
          rw [e0, ← List.append_assoc]
          exact M7.snoc (fun b xs e => htl e) (by rw [upd_ne ttl, upd_same]; rfl) upd_same
    · obtain ⟨us, y4, y5, rfl, s5, e5, M5⟩ := h
      refine ⟨us, _, _, _, rfl, s5, ?_⟩
      rw [may_succ]; exact M5
  · obtain ⟨us, y3, y4, y5, rfl, sm, M⟩ := h
    have en : ((vs.length : Int)).toNat = c.ls.length := by omega
    rw [en] at M
    exact ⟨_, rfl, q tl us H3 sm ntl M⟩
end
end XL
namespace XL
open PySem PySem.Spec PyProof.Rows L2
def trip (s : Sn) : List (List Int) := [s.rs, s.bs, s.ls]
def blI (r : Bool) : Int := if r = true then 0 else 1
theorem blI_eq (r : Bool) : (if decide (V.str (wS r) = V.str "blue") = true then (1 : Int) else 0) = blI r := by cases r <;> decide +kernel
/-! ### lists of our own, one by one -/
structure Own (H1 F : Hp) (zss : List (List Int)) (ls : List Addr) : Prop where
  nd : ls.Nodup
  at_ : ∀ (q : Nat) l, ls[q]? = some l → H1 l = none ∧ F l = some (.lst ((zss.getD q []).map V.int))
theorem Own.snoc {H1 F : Hp} {zss : List (List Int)} {ls : List Addr} {l : Addr} (h : Own H1 F zss ls) (s : Same H1 F) (nl : F l = none) : Own H1 (upd F l (.lst ((zss.getD ls.length []).map V.int))) zss (ls ++ [l]) := by
  have ne : ∀ x ∈ ls, x ≠ l := fun x hx z => by
    obtain ⟨q, hq⟩ := List.getElem?_of_mem hx
    have := (h.at_ q x hq).2
    rw [z, nl] at this; cases this
  refine ⟨List.nodup_append.mpr ⟨h.nd, by simp, fun x hx y hy e => ne x hx (by rw [e]; simpa using hy)⟩, fun q x hx => ?_⟩
  by_cases hq : q < ls.length
  · rw [List.getElem?_append_left hq] at hx
    obtain ⟨a, b⟩ := h.at_ q x hx
    exact ⟨a, by rw [upd_ne (ne x (List.mem_of_getElem? hx))]; exact b⟩
  · rw [List.getElem?_append_right (by omega)] at hx
    have hq0 : q - ls.length = 0 := by
      rcases Nat.eq_zero_or_pos (q - ls.length) with z | z
      · exact z
      · rw [List.getElem?_eq_none (by simp; omega)] at hx; cases hx
    rw [hq0] at hx
    have e : l = x := by simpa using hx
    have eq : q = ls.length := by omega
    subst e eq
    exact ⟨s.free nl, upd_same⟩
section
variable {P : Program} {w : World} {K : PySem.W.Frag} {mg : Str → Option Value} {base : Heap}
abbrev nBe : List Str := ["_law_ship_way", "_law_lying_here", "_law_move", "_law_begun", "_law_last", "_law_parts", "_law_k", "_law_part"]
theorem scBe : FnScope nBe ["_law_ship_way", "_law_lying_here", "_law_move"] (defScope sBe) := ⟨rfl, rfl, rfl, by decide +kernel, rfl, by decide +kernel, by decide +kernel⟩
def spBe (K : PySem.W.Frag) : Sp := fun vs H Q _ => ∃ (v u : V) (m : Addr) (i : Nat) (r : Bool) (c : Cn) (s : Sn) (B : Int), vs = [v, u, .ref m] ∧ Dp K H v (cnD c) ∧ SnAny K H u s ∧ Sq2 K H m (mvV (i, r)) ∧ i < c.ls.length ∧ okCn 100 100 c ∧ okSn c B s ∧ ∀ v' H', Same H H' → Dp K H' v' (snD (goneS c s i r)) → Q v' H'
theorem ok_be {f fe : Addr} {fd fde : FuncData} {k : Nat} (F : Fun K "_law_behind" "_law_behind" sBe f fd) (LF : Fns P w K mg base k "_law_from_to" ["_law_ship_way", "_law_lying_here", "_law_move"] (spLF K) fe fde) (m_list : mg "list" = none) (m_int : mg "int" = none) (m_tuple : mg "tuple" = none) : FnOk P w K mg base CX0 (k + 1) f fd ["_law_ship_way", "_law_lying_here", "_law_move"] (spBe K) := by
  refine F.ok scBe (fun vs H Q E h => ?_) (fun cdv A outer s H vs Q E hr h => ?_)
  · obtain ⟨v, u, m, i, r, c, s, B, rfl, _⟩ := h
    rfl
  obtain ⟨v, u, m, i, r, c, s, B, rfl, hc, hs, hm, hi, okc, oks, q⟩ := h
  refine ⟨_, (pss_cons (ps_asg (pe_fn LF hr rfl (pa_cons (pv 0) (pa_cons (pv 1) (pa_cons (pv 2) pa_nil)))) (pg_any rfl (pgs_cons (pg_name (i := 3) scBe.nd rfl (.inl rfl)) (pgs_cons (pg_name (i := 4) scBe.nd rfl (.inl rfl)) pgs_nil))))
    (pss_cons (ps_par (i := 5) (j := 6) rfl scBe.nd rfl rfl (by decide) rfl rfl (pa_cons (pe_lc (own := [("_law_part", 7)]) (g := gName 7) (tt := tYes) rfl scBe.nd (pi_seq (pv 1)) (blkOk_by (own := [("_law_part", 7)]) (N := nBe) (sc := defScope sBe) (by decide +kernel)) (fun _ _ _ _ _ => (pg_name (i := 7) scBe.nd rfl (.inl rfl))) (fun _ _ _ _ _ => pts_nil) (fun _ _ _ _ _ => pe_hide (pe_callTy (r := rLstA K) call_listA rfl m_list boot_list (pa_cons (pv 7) pa_nil)))) (pa_cons (pe_callTy call_int1 rfl m_int boot_int' (pa_cons (pe_cmpR op_eq (pe_ix (r := rIxA K) ix_any (pv 2) pe_int (fun _ _ => rfl)) pe_str (nomark _)) pa_nil)) pa_nil)) rfl)
    (pss_cons (ps_asg (pe_op op_sub (pe_ix (r := rIxA K) ix_any (pe_ix (r := rIxA K) ix_any (pv 5) (pv 6) (fun _ _ => rfl)) (pv 3) (fun _ _ => rfl)) pe_int) (pg_sub (pe_ix (r := rIxA K) ix_any (pv 5) (pv 6) (fun _ _ => rfl)) (pv 3) set_list))
    (pss_cons (ps_asg (pe_op op_add (pe_ix (r := rIxA K) ix_any (pe_ix (r := rIxA K) ix_any (pv 5) (pv 6) (fun _ _ => rfl)) (pv 4) (fun _ _ => rfl)) pe_int) (pg_sub (pe_ix (r := rIxA K) ix_any (pv 5) (pv 6) (fun _ _ => rfl)) (pv 4) set_list))
    (pss_cons (ps_asg (pe_op op_sub pe_int (pe_ix (r := rIxA K) ix_any (pe_ix (r := rIxA K) ix_any (pv 5) pe_int (fun _ _ => rfl)) (pe_ix (r := rIxA K) ix_any (pv 2) pe_int (fun _ _ => rfl)) (fun _ _ => rfl))) (pg_sub (pe_ix (r := rIxA K) ix_any (pv 5) pe_int (fun _ _ => rfl)) (pe_ix (r := rIxA K) ix_any (pv 2) pe_int (fun _ _ => rfl)) set_list))
    (pss_one (ps_ret (pe_callTy (r := rTupA K) call_tupleA rfl m_tuple boot_tuple (pa_cons (pe_lc (own := [("_law_part", 7)]) (g := gName 7) (tt := tYes) rfl scBe.nd (pi_seq (pv 5)) (blkOk_by (own := [("_law_part", 7)]) (N := nBe) (sc := defScope sBe) (by decide +kernel)) (fun _ _ _ _ _ => (pg_name (i := 7) scBe.nd rfl (.inl rfl))) (fun _ _ _ _ _ => pts_nil) (fun _ _ _ _ _ => pe_hide (pe_callTy (r := rTupA K) call_tupleA rfl m_tuple boot_tuple (pa_cons (pv 7) pa_nil)))) pa_nil))))))))), ?_⟩
  refine ⟨_, rfl, _, rfl, _, rfl, v, u, m, i, r, c, s, rfl, hc, hs, hm, hi, by rw [oks.n]; exact hi, fun p H1 s1 np ep => ?_⟩
  refine ⟨p, _, rfl, .inr (.inl (.inl ep)), rfl, _, _, rfl, _, _, rfl, rfl, ?_⟩
  refine at_s (σ' := [some v, some u, some (.ref m), some (.int (fromTo c s i r).1), some (.int (fromTo c s i r).2), none, none, none]) rfl ?_
  obtain ⟨b, br, bb, bl, rfl, hb, hbr, hbb, hbl⟩ := (hs.same s1).ex
  have hpart : ∀ (j : Nat) (x : V), [V.ref br, V.ref bb, V.ref bl][j]? = some x → ∃ z, x = .ref z ∧ Sq2 K H1 z (((trip s).getD j []).map V.int) := by
    intro j x hx
    match j, hx with
    | 0, hx => exact ⟨br, (Option.some.inj hx).symm, hbr⟩
    | 1, hx => exact ⟨bb, (Option.some.inj hx).symm, hbb⟩
    | 2, hx => exact ⟨bl, (Option.some.inj hx).symm, hbl⟩
    | j + 3, hx => simp at hx
  refine ⟨_, rfl, b, _, rfl, hb, fun J wk => lc_acc wk (fun j acc F => Same H1 F ∧ ∃ ls : List Addr, acc = ls.map V.ref ∧ ls.length = j ∧ Own H1 F (trip s) ls) (by show 3 < sizeLine; decide) ⟨Same.refl _, [], rfl, rfl, ⟨List.Pairwise.nil, fun q l h => by simp at h⟩⟩ (fun j F D acc iv nF => ?_) (fun j x D acc F H' hj nD iv nF hy B hB => ?_) (fun D ys F nD iv nF hyl => ?_)⟩
  · have sD : Same _ (upd F D (.lst acc)) := iv.1.trans (same_new nF)
    exact ⟨fun _ z => sD.seq z, fun z => Same.tup sD z⟩
  · obtain ⟨rfl, hx⟩ := hy
    obtain ⟨sF, ls, rfl, ll, ow⟩ := iv
    obtain ⟨z, rfl, hz⟩ := hpart j x hx
    refine hB _ F rfl nF fun Qt hq => ?_
    refine ⟨_, rfl, z, _, rfl, Same.sq2 sF hz, fun l nl => hq _ _ ⟨sF.trans (same_new nl), ls ++ [l], by rw [List.map_append]; rfl, by rw [List.length_append, ll]; rfl, ?_⟩⟩
    have := ow.snoc sF nl
    rw [ll] at this; exact this
  obtain ⟨sF, ls, rfl, ll, ow⟩ := iv
  obtain ⟨l0, l1, l2, rfl⟩ : ∃ l0 l1 l2, ls = [l0, l1, l2] := by
    match ls, ll with
    | [l0, l1, l2], _ => exact ⟨l0, l1, l2, rfl⟩
  obtain ⟨n0, f0⟩ := ow.at_ 0 l0 rfl
  obtain ⟨n1, f1⟩ := ow.at_ 1 l1 rfl
  obtain ⟨n2, f2⟩ := ow.at_ 2 l2 rfl
  have d01 : l0 ≠ l1 := fun z => by have := ow.nd; rw [z] at this; simp at this
  have d02 : l0 ≠ l2 := fun z => by have := ow.nd; rw [z] at this; simp at this
  have d12 : l1 ≠ l2 := fun z => by have := ow.nd; rw [z] at this; simp at this
  have f0' : F l0 = some (.lst (s.rs.map V.int)) := f0
  have f1' : F l1 = some (.lst (s.bs.map V.int)) := f1
  have f2' : F l2 = some (.lst (s.ls.map V.int)) := f2
  have sD : Same F (upd F D (.lst ([l0, l1, l2].map V.ref))) := same_new nF
  have g0 := sD _ _ f0'
  have g1 := sD _ _ f1'
  have g2 := sD _ _ f2'
  have eD : (upd F D (.lst ([l0, l1, l2].map V.ref))) D = some (.lst [.ref l0, .ref l1, .ref l2]) := upd_same
  have h0D : l0 ≠ D := ne_of_none f0' nF
  have h1D : l1 ≠ D := ne_of_none f1' nF
  have h2D : l2 ≠ D := ne_of_none f2' nF
  have s1D := sF.trans sD
  have hmD : Sq2 K (upd F D (.lst ([l0, l1, l2].map V.ref))) m (mvV (i, r)) := Same.sq2 (s1.trans s1D) hm
  generalize upd F D (.lst ([l0, l1, l2].map V.ref)) = H2 at sD g0 g1 g2 eD s1D hmD
  -- k
  refine ⟨_, rfl, m, _, _, _, rfl, rfl, hmD, rfl, rfl, .inr ⟨_, rfl, ?_⟩⟩
  rw [blI_eq]
  refine ⟨_, _, rfl, ?_⟩
  refine at_s (σ' := [some v, some (.ref b), some (.ref m), some (.int (fromTo c s i r).1), some (.int (fromTo c s i r).2), some (.ref D), some (.int (blI r)), none]) rfl ?_
  have fo := fromTo_ok okc (s := s) hi r
  have hlb := boats_len oks r
  have s3i : (i : Int) < s.ls.length := by rw [oks.n]; omega
  obtain ⟨lw, hlw, ew, hwD, hw2, hnw⟩ : ∃ lw, atI [V.ref l0, V.ref l1, V.ref l2] (blI r) = some (.ref lw) ∧ H2 lw = some (.lst ((boatsW r s).map V.int)) ∧ lw ≠ D ∧ lw ≠ l2 ∧ H1 lw = none := by
    cases r with
    | true => exact ⟨l0, rfl, g0, h0D, d02, n0⟩
    | false => exact ⟨l1, rfl, g1, h1D, d12, n1⟩
  have L1 : (fromTo c s i r).1 < ((boatsW r s).length : Int) := by rw [hlb]; exact fo.1.2
  have L2 : (fromTo c s i r).2 < ((boatsW r s).length : Int) := by rw [hlb]; exact fo.2.2
  refine ⟨_, rfl, _, rfl, D, _, _, _, rfl, rfl, .inl (SqL.of eD), hlw, _, rfl, lw, _, _, _, rfl, rfl, .inl (SqL.of ew), gt_at fo.1.1 L1, _, _, rfl, rfl, ?_⟩
  refine ⟨_, rfl, _, rfl, D, _, _, _, rfl, rfl, .inl (SqL.of eD), hlw, _, rfl, lw, _, _, _, rfl, rfl, ew, set_at (x := 0) fo.1.1 L1, ?_⟩
  rw [set_ints]
  have L2' : (fromTo c s i r).2 < (((boatsW r s).set (fromTo c s i r).1.toNat (gt (boatsW r s) (fromTo c s i r).1 - 1)).length : Int) := by rw [List.length_set]; exact L2
  have eD2 : upd H2 lw (.lst (((boatsW r s).set (fromTo c s i r).1.toNat (gt (boatsW r s) (fromTo c s i r).1 - 1)).map V.int)) D = some (.lst [.ref l0, .ref l1, .ref l2]) := by rw [upd_ne (Ne.symm hwD)]; exact eD
  refine ⟨_, rfl, _, rfl, D, _, _, _, rfl, rfl, .inl (SqL.of eD2), hlw, _, rfl, lw, _, _, _, rfl, rfl, .inl (SqL.of upd_same), gt_at fo.2.1 L2', _, _, rfl, rfl, ?_⟩
  refine ⟨_, rfl, _, rfl, D, _, _, _, rfl, rfl, .inl (SqL.of eD2), hlw, _, rfl, lw, _, _, _, rfl, rfl, upd_same, set_at (x := 0) fo.2.1 L2', ?_⟩
  rw [set_ints, upd_upd, show ((boatsW r s).set (fromTo c s i r).1.toNat (gt (boatsW r s) (fromTo c s i r).1 - 1)).set (fromTo c s i r).2.toNat (gt ((boatsW r s).set (fromTo c s i r).1.toNat (gt (boatsW r s) (fromTo c s i r).1 - 1)) (fromTo c s i r).2 + 1) = mov (boatsW r s) (fromTo c s i r) from rfl]
  have eD3 : upd H2 lw (.lst ((mov (boatsW r s) (fromTo c s i r)).map V.int)) D = some (.lst [.ref l0, .ref l1, .ref l2]) := by rw [upd_ne (Ne.symm hwD)]; exact eD
  have e23 : upd H2 lw (.lst ((mov (boatsW r s) (fromTo c s i r)).map V.int)) l2 = some (.lst (s.ls.map V.int)) := by rw [upd_ne (Ne.symm hw2)]; exact g2
  have hm3 : Sq2 K (upd H2 lw (.lst ((mov (boatsW r s) (fromTo c s i r)).map V.int))) m (mvV (i, r)) := Same.sq2 (fun c' o e => by rw [upd_ne (ne_of_none e hnw)]; exact s1D _ _ e) (Same.sq2 s1 hm)
  refine ⟨_, rfl, D, _, _, _, rfl, rfl, .inl (SqL.of eD3), rfl, _, rfl, m, _, _, _, rfl, rfl, hm3, rfl, l2, _, _, _, rfl, rfl, .inl (SqL.of e23), gt_at (by omega) s3i, _, _, rfl, rfl, ?_⟩
  refine ⟨_, rfl, D, _, _, _, rfl, rfl, .inl (SqL.of eD3), rfl, _, rfl, m, _, _, _, rfl, rfl, hm3, rfl, l2, _, _, _, rfl, rfl, e23, set_at (x := 0) (by omega) s3i, ?_⟩
  rw [set_ints]
  -- three lists behind it
  have S4 : Same H1 (upd (upd H2 lw (.lst ((mov (boatsW r s) (fromTo c s i r)).map V.int))) l2 (.lst ((flip1 s.ls i).map V.int))) := fun c' o e => by
    rw [upd_ne (ne_of_none e n2), upd_ne (ne_of_none e hnw)]; exact s1D _ _ e
  have hl4 : ∀ (j : Nat) (x : V), [V.ref l0, V.ref l1, V.ref l2][j]? = some x → ∃ z, x = .ref z ∧ (upd (upd H2 lw (.lst ((mov (boatsW r s) (fromTo c s i r)).map V.int))) l2 (.lst ((flip1 s.ls i).map V.int))) z = some (.lst (((trip (goneS c s i r)).getD j []).map V.int)) := by
    intro j x hx
    cases r with
    | true =>
      have ew0 : lw = l0 := by have := Option.some.inj hlw; exact (V.ref.inj this).symm
      subst ew0
      match j, hx with
      | 0, hx => exact ⟨lw, (Option.some.inj hx).symm, by rw [upd_ne d02, upd_same]; rfl⟩
      | 1, hx => exact ⟨l1, (Option.some.inj hx).symm, by rw [upd_ne d12, upd_ne (Ne.symm d01)]; exact g1⟩
      | 2, hx => exact ⟨l2, (Option.some.inj hx).symm, upd_same⟩
      | j + 3, hx => simp at hx
    | false =>
      have ew0 : lw = l1 := by have := Option.some.inj hlw; exact (V.ref.inj this).symm
      subst ew0
      match j, hx with
      | 0, hx => exact ⟨l0, (Option.some.inj hx).symm, by rw [upd_ne d02, upd_ne d01]; exact g0⟩
      | 1, hx => exact ⟨lw, (Option.some.inj hx).symm, by rw [upd_ne d12, upd_same]; rfl⟩
      | 2, hx => exact ⟨l2, (Option.some.inj hx).symm, upd_same⟩
      | j + 3, hx => simp at hx
  have eD4 : upd (upd H2 lw (.lst ((mov (boatsW r s) (fromTo c s i r)).map V.int))) l2 (.lst ((flip1 s.ls i).map V.int)) D = some (.lst [.ref l0, .ref l1, .ref l2]) := by rw [upd_ne (Ne.symm h2D)]; exact eD3
  have hfl : s.ls.set ((i : Nat) : Int).toNat (1 - gt s.ls ((i : Nat) : Int)) = flip1 s.ls i := by unfold flip1; rw [show ((i : Nat) : Int).toNat = i by omega]
  rw [hfl]
  generalize upd (upd H2 lw (.lst ((mov (boatsW r s) (fromTo c s i r)).map V.int))) l2 (.lst ((flip1 s.ls i).map V.int)) = H4 at S4 hl4 eD4
  refine ⟨_, rfl, D, _, rfl, .inl (SqL.of eD4), fun J wk => lc_map wk Same (fun a b => a.trans b) (fun j y F => ∃ zs, (trip (goneS c s i r))[j]? = some zs ∧ Dp K F y (.tuple (intsD zs))) (fun j y A B s ⟨zs, e, p⟩ => ⟨zs, e, Dp.same s _ p⟩) (by show 3 < sizeLine; decide) (Same.refl _) (fun F D acc sF nF => ?_) (fun j x D acc F H' hj nD sF nF hy B hB => ?_) (fun D2 ys F nD sF nF hyl hR => ?_)⟩
  · have sD : Same _ (upd F D (.lst acc)) := sF.trans (same_new nF)
    exact ⟨fun _ z => sD.seq z, fun z => Same.tup sD z⟩
  · obtain ⟨rfl, hx⟩ := hy
    obtain ⟨z, rfl, hz⟩ := hl4 j x hx
    refine hB _ F rfl nF fun Qt hq => ?_
    have htr : (trip (goneS c s i r))[j]? = some ((trip (goneS c s i r)).getD j []) := by
      have : j < (trip (goneS c s i r)).length := hj
      rw [List.getD_eq_getElem?_getD, List.getElem?_eq_getElem this]; rfl
    exact ⟨_, rfl, z, _, rfl, .inl ⟨SqL.of (sF _ _ hz), fun p np => hq _ _ (same_new np) ⟨_, htr, .tup (.inl (.inl upd_same)) (dp_ints' _)⟩⟩⟩
  · obtain ⟨y0, y1, y2, rfl⟩ : ∃ y0 y1 y2, ys = [y0, y1, y2] := by
      match ys, hyl with
      | [y0, y1, y2], _ => exact ⟨y0, y1, y2, rfl⟩
    obtain ⟨z0, e0, p0⟩ := hR 0 y0 rfl
    obtain ⟨z1, e1, p1⟩ := hR 1 y1 rfl
    obtain ⟨z2, e2, p2⟩ := hR 2 y2 rfl
    cases (show some (goneS c s i r).rs = some z0 from e0)
    cases (show some (goneS c s i r).bs = some z1 from e1)
    cases (show some (goneS c s i r).ls = some z2 from e2)
    have sa : Same F (upd F D2 (.lst [y0, y1, y2])) := same_new nF
    refine ⟨D2, _, rfl, .inl ⟨SqL.of upd_same, fun t nt => ?_⟩⟩
    have sb : Same _ (upd (upd F D2 (.lst [y0, y1, y2])) t (.tup [y0, y1, y2])) := same_new nt
    have sab := sa.trans sb
    exact q _ _ (s1.trans (S4.trans (sF.trans sab))) (.tup (.inl (.inl upd_same)) (.cons (Dp.same sab _ p0) (.cons (Dp.same sab _ p1) (.cons (Dp.same sab _ p2) .nil))))
end
end XL
namespace XL
open PySem PySem.Spec PyProof.Rows L2
/-! ### rows of goings -/
def goM (c : Cn) (s : Sn) (m : Mv) : Sn := goneS c s m.1 m.2
def runS (c : Cn) (s : Sn) (ms : List Mv) : Sn := ms.foldl (goM c) s
def okRun (c : Cn) : Sn → List Mv → Prop
  | _, [] => True
  | s, m :: ms => (m.1 < c.ls.length ∧ hasB c s m.1 m.2 = true) ∧ okRun c (goM c s m) ms
theorem runS_snoc (c : Cn) (s : Sn) (ms : List Mv) (m : Mv) : runS c s (ms ++ [m]) = goM c (runS c s ms) m := by unfold runS; rw [List.foldl_append]; rfl
theorem okRun_snoc {c : Cn} {m : Mv} : ∀ {s : Sn} {ms : List Mv}, okRun c s ms → m.1 < c.ls.length → hasB c (runS c s ms) m.1 m.2 = true → okRun c s (ms ++ [m])
  | s, [], _, h1, h2 => ⟨⟨h1, h2⟩, trivial⟩
  | s, m' :: ms, h, h1, h2 => ⟨h.1, okRun_snoc (s := goM c s m') (ms := ms) h.2 h1 h2⟩
theorem runS_ok {c : Cn} {W U : Nat} (okc : okCn W U c) : ∀ {ms : List Mv} {s : Sn} {B : Int}, okSn c B s → okRun c s ms → okSn c (B + ms.length) (runS c s ms)
  | [], s, B, h, _ => by
    show okSn c (B + ((0 : Nat) : Int)) s
    rw [show B + ((0 : Nat) : Int) = B by omega]; exact h
  | m :: ms, s, B, h, r => by
    have h2 := runS_ok okc (ms := ms) (goneS_ok okc h r.1.1 m.2 r.1.2) r.2
    rw [List.length_cons, show B + ((ms.length + 1 : Nat) : Int) = B + 1 + (ms.length : Int) by omega]
    exact h2
def bump (zs : List Int) (i : Nat) (x : Int) : List Int := zs.set i (gt zs i + x)
theorem bump_len (zs : List Int) (i : Nat) (x : Int) : (bump zs i x).length = zs.length := by unfold bump; rw [List.length_set]
abbrev Nt := List Int × List Int
/-- one going in the book -/
def note (s : Sn) (p : Nt) (m : Mv) : Nt := if m.2 = true then (bump p.1 m.1 (1 - 2 * gt s.ls m.1), p.2) else (p.1, bump p.2 m.1 (1 - 2 * gt s.ls m.1))
def book (c : Cn) (s : Sn) (p : Nt) (ms : List Mv) : Sn × Nt := ms.foldl (fun q m => (goM c q.1 m, note q.1 q.2 m)) (s, p)
theorem book_snoc (c : Cn) (s : Sn) (p : Nt) (ms : List Mv) (m : Mv) : book c s p (ms ++ [m]) = (goM c (book c s p ms).1 m, note (book c s p ms).1 (book c s p ms).2 m) := by unfold book; rw [List.foldl_append]; rfl
theorem book_run (c : Cn) : ∀ (ms : List Mv) (s : Sn) (p : Nt), (book c s p ms).1 = runS c s ms
  | [], _, _ => rfl
  | m :: ms, s, p => by
    show (book c (goM c s m) (note s p m) ms).1 = runS c (goM c s m) ms
    exact book_run c ms _ _
def zer (n : Nat) : List Int := List.replicate n 0
theorem rep_zero : ∀ n : Nat, (List.replicate n [V.int 0]).flatten = (zer n).map V.int
  | 0 => rfl
  | n + 1 => by
    rw [List.replicate_succ, List.flatten_cons, rep_zero n]
    show V.int 0 :: (zer n).map V.int = (zer (n + 1)).map V.int
    unfold zer
    rw [List.replicate_succ]; rfl
theorem note_len (s : Sn) (p : Nt) (m : Mv) : (note s p m).1.length = p.1.length ∧ (note s p m).2.length = p.2.length := by
  unfold note
  split
  · exact ⟨bump_len _ _ _, rfl⟩
  · exact ⟨rfl, bump_len _ _ _⟩
theorem book_len (c : Cn) : ∀ (ms : List Mv) (s : Sn) (p : Nt), (book c s p ms).2.1.length = p.1.length ∧ (book c s p ms).2.2.length = p.2.length
  | [], _, _ => ⟨rfl, rfl⟩
  | m :: ms, s, p => by
    have h := book_len c ms (goM c s m) (note s p m)
    have h2 := note_len s p m
    show (book c (goM c s m) (note s p m) ms).2.1.length = _ ∧ (book c (goM c s m) (note s p m) ms).2.2.length = _
    exact ⟨h.1.trans h2.1, h.2.trans h2.2⟩
/-! ### goings as data -/
theorem wS_ok (r : Bool) : PyData.strOk (wS r) = true := by cases r <;> decide +kernel
theorem mv_lay (m : Mv) : (mvD m).canLay0 = true := by simp [mvD, PyData.canLay0, PyData.canLayAll0, wS_ok]
theorem mv_depth (m : Mv) : (mvD m).depth = 1 := by simp [mvD, PyData.depth, PyData.depthAll]
theorem mvs_lay : ∀ ms : List Mv, PyData.canLayAll0 (ms.map mvD) = true
  | [] => by simp [PyData.canLayAll0]
  | m :: ms => by simp [PyData.canLayAll0, mv_lay m, mvs_lay ms]
theorem mvs_depth : ∀ ms : List Mv, PyData.depthAll (ms.map mvD) ≤ 1
  | [] => by simp [PyData.depthAll]
  | m :: ms => by
    have h1 := mvs_depth ms; have h2 := mv_depth m
    simp only [List.map_cons, PyData.depthAll]; omega
theorem mvs_shaped (ms : List Mv) : SeqAt.shaped (.list (ms.map mvD)) = true := by
  have h1 := mvs_depth ms
  have h2 : PyData.depth (.list (ms.map mvD)) ≤ 64 := by simp only [PyData.depth]; omega
  show (PyData.canLay0 (.list (ms.map mvD)) && decide (PyData.depth (.list (ms.map mvD)) ≤ 64)) = true
  rw [Bool.and_eq_true]; exact ⟨by simp only [PyData.canLay0]; exact mvs_lay ms, decide_eq_true h2⟩
theorem mv_shaped (m : Mv) : SeqAt.shaped (mvD m) = true := by
  show (PyData.canLay0 (mvD m) && decide (PyData.depth (mvD m) ≤ 64)) = true
  rw [mv_lay, mv_depth]; rfl
theorem mvs_nil (ms : List Mv) : PyData.eqv (.list (ms.map mvD)) (.list []) = ms.isEmpty := by
  cases ms with
  | nil => simp [PyData.eqv, PyData.eqvAll]
  | cons l ls => simp [PyData.eqv, PyData.eqvAll]
section
variable {P : Program} {w : World} {K : PySem.W.Frag} {mg : Str → Option Value} {base : Heap}
theorem MvAt.move {H H' : Hp} {a : Addr} {ms : List Mv} {us : List V} (h : MvAt H a ms us) (ea : H' a = some (.lst us)) (t : Tp H H') : MvAt H' a ms us := ⟨ea, h.l, fun j u hu => by
  obtain ⟨x, m, e1, e2, e3⟩ := h.d j u hu
  exact ⟨x, m, e1, e2, t.t _ _ e3⟩⟩
end
end XL
namespace XL
open PySem PySem.Spec PyProof.Rows L2
abbrev sTupled : Stmt := topS 1
/-! ### going back -/
theorem gt_set_self {zs : List Int} {j x : Int} (h0 : 0 ≤ j) (h1 : j < zs.length) : gt (zs.set j.toNat x) j = x := by
  unfold gt
  rw [List.getD_eq_getElem?_getD, List.getElem?_set_self (by omega)]; rfl
theorem gt_set_ne {zs : List Int} {i j x : Int} (h : i.toNat ≠ j.toNat) : gt (zs.set i.toNat x) j = gt zs j := by
  unfold gt
  rw [List.getD_eq_getElem?_getD, List.getElem?_set_ne h, List.getD_eq_getElem?_getD]
theorem set_gt {zs : List Int} {j : Int} (h0 : 0 ≤ j) (h1 : j < zs.length) : zs.set j.toNat (gt zs j) = zs := by
  have h := gt_get h0 h1
  rw [List.getElem?_eq_some_iff] at h
  obtain ⟨hl, e⟩ := h
  rw [← e]
  exact List.set_getElem_self hl
theorem mov_back {zs : List Int} {p : Int × Int} (h0 : 0 ≤ p.1) (h1 : p.1 < zs.length) (h2 : 0 ≤ p.2) (h3 : p.2 < zs.length) : mov (mov zs p) (p.2, p.1) = zs := by
  have hb : (zs.set p.1.toNat (gt zs p.1 - 1)).length = zs.length := List.length_set ..
  unfold mov
  dsimp only
  rw [gt_set_self h2 (by rw [hb]; exact h3), List.set_set, show gt (zs.set p.1.toNat (gt zs p.1 - 1)) p.2 + 1 - 1 = gt (zs.set p.1.toNat (gt zs p.1 - 1)) p.2 by omega, set_gt h2 (by rw [hb]; exact h3), gt_set_self h0 h1, List.set_set, show gt zs p.1 - 1 + 1 = gt zs p.1 by omega, set_gt h0 h1]
theorem flip_gt {zs : List Int} {i : Nat} (h : i < zs.length) : gt (flip1 zs i) (i : Int) = 1 - gt zs i := by
  have := gt_set_self (zs := zs) (j := (i : Int)) (x := 1 - gt zs i) (by omega) (by omega)
  rw [show ((i : Int)).toNat = i by omega] at this
  exact this
theorem flip_flip {zs : List Int} {i : Nat} (h : i < zs.length) : flip1 (flip1 zs i) i = zs := by
  have e := flip_gt h
  show (flip1 zs i).set i (1 - gt (flip1 zs i) (i : Int)) = zs
  rw [e]
  unfold flip1
  rw [List.set_set, show 1 - (1 - gt zs (i : Int)) = gt zs (i : Int) by omega]
  have := set_gt (zs := zs) (j := (i : Int)) (by omega) (by omega)
  rw [show ((i : Int)).toNat = i by omega] at this
  exact this
theorem goneS_ls (c : Cn) (s : Sn) (i : Nat) (r : Bool) : (goneS c s i r).ls = flip1 s.ls i := by unfold goneS; split <;> rfl
theorem goneS_boats (c : Cn) (s : Sn) (i : Nat) (r : Bool) : boatsW r (goneS c s i r) = mov (boatsW r s) (fromTo c s i r) := by cases r <;> rfl
theorem fromTo_back {c : Cn} {B : Int} {s : Sn} (ok : okSn c B s) {i : Nat} (hi : i < c.ls.length) (r : Bool) : fromTo c (goneS c s i r) i r = ((fromTo c s i r).2, (fromTo c s i r).1) := by
  have hl : i < s.ls.length := by rw [ok.n]; exact hi
  unfold fromTo
  rw [goneS_ls, flip_gt hl]
  rcases ok.l0 _ (gt_mem (zs := s.ls) (j := (i : Int)) (by omega) (by omega)) with e | e
  · rw [e, if_pos rfl, if_neg (by decide)]
  · rw [e, if_neg (by decide : ¬ (1 : Int) = 0), if_pos (by decide)]
theorem go_back {c : Cn} {W U : Nat} {B : Int} {s : Sn} (okc : okCn W U c) (ok : okSn c B s) {i : Nat} (hi : i < c.ls.length) (r : Bool) (h : hasB c s i r = true) : hasB c (goneS c s i r) i r = true ∧ goneS c (goneS c s i r) i r = s := by
  have f := fromTo_ok okc (s := s) hi r
  have hl := boats_len ok r
  have hls : i < s.ls.length := by rw [ok.n]; exact hi
  have eb := fromTo_back ok hi r
  have hp : gt (boatsW r s) (fromTo c s i r).1 > 0 := of_decide_eq_true h
  have h1 : (fromTo c s i r).1 < ((boatsW r s).length : Int) := by rw [hl]; exact f.1.2
  have h3 : (fromTo c s i r).2 < ((boatsW r s).length : Int) := by rw [hl]; exact f.2.2
  have nn : ∀ x ∈ boatsW r s, 0 ≤ x := fun x hx => by
    cases r with
    | true => exact (ok.r0 x hx).1
    | false => exact (ok.b0 x hx).1
  constructor
  · unfold hasB
    rw [goneS_boats, eb]
    refine decide_eq_true ?_
    show gt (mov (boatsW r s) (fromTo c s i r)) (fromTo c s i r).2 > 0
    have e : gt (mov (boatsW r s) (fromTo c s i r)) (fromTo c s i r).2 = gt ((boatsW r s).set (fromTo c s i r).1.toNat (gt (boatsW r s) (fromTo c s i r).1 - 1)) (fromTo c s i r).2 + 1 := gt_set_self f.2.1 (by rw [List.length_set]; exact h3)
    rw [e]
    have hm := gt_mem (zs := (boatsW r s).set (fromTo c s i r).1.toNat (gt (boatsW r s) (fromTo c s i r).1 - 1)) (j := (fromTo c s i r).2) f.2.1 (by rw [List.length_set]; exact h3)
    rcases mem_set_or hm with q | q
    · have := nn _ q; omega
    · omega
  · have em := mov_back (zs := boatsW r s) (p := fromTo c s i r) f.1.1 h1 f.2.1 h3
    have ef := flip_flip hls
    have e1 : goneS c (goneS c s i r) i r = (if r = true then ⟨mov (boatsW r (goneS c s i r)) (fromTo c (goneS c s i r) i r), (goneS c s i r).bs, flip1 (goneS c s i r).ls i⟩ else ⟨(goneS c s i r).rs, mov (boatsW r (goneS c s i r)) (fromTo c (goneS c s i r) i r), flip1 (goneS c s i r).ls i⟩) := by cases r <;> rfl
    rw [e1, goneS_boats, eb, em, goneS_ls, ef]
    cases r <;> rfl
theorem run_back {c : Cn} {W U : Nat} (okc : okCn W U c) : ∀ {ms : List Mv} {s : Sn} {B : Int}, okSn c B s → okRun c s ms → okRun c (runS c s ms) ms.reverse ∧ runS c (runS c s ms) ms.reverse = s
  | [], s, B, _, _ => ⟨trivial, rfl⟩
  | m :: ms, s, B, ok, h => by
    obtain ⟨a, b⟩ := run_back okc (ms := ms) (goneS_ok okc ok h.1.1 m.2 h.1.2) h.2
    obtain ⟨x, y⟩ := go_back okc ok h.1.1 m.2 h.1.2
    have e : runS c s (m :: ms) = runS c (goM c s m) ms := rfl
    rw [e, List.reverse_cons]
    refine ⟨okRun_snoc a h.1.1 ?_, ?_⟩
    · rw [show runS c (runS c (goM c s m) ms) ms.reverse = goM c s m from b]; exact x
    · rw [runS_snoc, show runS c (runS c (goM c s m) ms) ms.reverse = goM c s m from b]; exact y
/-! ### books by sums -/
def dl (s : Sn) (m : Mv) (i : Nat) (r : Bool) : Int := if m = (i, r) then 1 - 2 * gt s.ls i else 0
def tot (c : Cn) (i : Nat) (r : Bool) : Sn → List Mv → Int
  | _, [] => 0
  | s, m :: ms => dl s m i r + tot c i r (goM c s m) ms
theorem tot_snoc (c : Cn) (i : Nat) (r : Bool) (m : Mv) : ∀ (ms : List Mv) (s : Sn), tot c i r s (ms ++ [m]) = tot c i r s ms + dl (runS c s ms) m i r
  | [], s => by show dl s m i r + 0 = 0 + dl s m i r; omega
  | m' :: ms, s => by
    show dl s m' i r + tot c i r (goM c s m') (ms ++ [m]) = dl s m' i r + tot c i r (goM c s m') ms + dl (runS c (goM c s m') ms) m i r
    rw [tot_snoc c i r m ms]; omega
theorem tot_back {c : Cn} {W U : Nat} (okc : okCn W U c) (i : Nat) (r : Bool) : ∀ {ms : List Mv} {s : Sn} {B : Int}, okSn c B s → okRun c s ms → tot c i r (runS c s ms) ms.reverse = 0 - tot c i r s ms
  | [], s, B, _, _ => rfl
  | m :: ms, s, B, ok, h => by
    have ok1 := goneS_ok okc ok h.1.1 m.2 h.1.2
    have ih := tot_back okc i r (ms := ms) (s := goM c s m) ok1 h.2
    have bk := (run_back okc (ms := ms) (s := goM c s m) ok1 h.2).2
    have e : runS c s (m :: ms) = runS c (goM c s m) ms := rfl
    rw [e, List.reverse_cons, tot_snoc, ih, bk]
    show _ = 0 - (dl s m i r + tot c i r (goM c s m) ms)
    have hd : dl (goM c s m) m i r = 0 - dl s m i r := by
      unfold dl
      by_cases em : m = (i, r)
      · rw [if_pos em, if_pos em]
        have e2 : gt (goM c s m).ls (i : Int) = 1 - gt s.ls i := by
          unfold goM
          rw [goneS_ls, em]
          exact flip_gt (by rw [ok.n]; have := h.1.1; rw [em] at this; exact this)
        rw [e2]; omega
      · rw [if_neg em, if_neg em]; rfl
    rw [hd]; omega
theorem bump_gt {zs : List Int} {i j : Nat} {x : Int} (hi : i < zs.length) : gt (bump zs i x) (j : Int) = gt zs j + (if i = j then x else 0) := by
  unfold bump
  by_cases e : i = j
  · subst e
    have := gt_set_self (zs := zs) (j := (i : Int)) (x := gt zs i + x) (by omega) (by omega)
    rw [show ((i : Int)).toNat = i by omega] at this
    rw [if_pos rfl]; exact this
  · have := gt_set_ne (zs := zs) (i := (i : Int)) (j := (j : Int)) (x := gt zs i + x) (by omega)
    rw [show ((i : Int)).toNat = i by omega] at this
    rw [if_neg e, this]; omega
theorem book_tot (c : Cn) (j : Nat) : ∀ (ms : List Mv) (s : Sn) (p : Nt), okRun c s ms → p.1.length = c.ls.length → p.2.length = c.ls.length → gt (book c s p ms).2.1 (j : Int) = gt p.1 j + tot c j true s ms ∧ gt (book c s p ms).2.2 (j : Int) = gt p.2 j + tot c j false s ms
  | [], s, p, _, _, _ => by
    show gt p.1 (j : Int) = gt p.1 j + 0 ∧ gt p.2 (j : Int) = gt p.2 j + 0
    omega
  | m :: ms, s, p, h, h1, h2 => by
    obtain ⟨mi, mr⟩ := m
    have nl := note_len s p (mi, mr)
    obtain ⟨a, b⟩ := book_tot c j ms (goM c s (mi, mr)) (note s p (mi, mr)) h.2 (nl.1.trans h1) (nl.2.trans h2)
    have hm : mi < c.ls.length := h.1.1
    show gt (book c (goM c s (mi, mr)) (note s p (mi, mr)) ms).2.1 (j : Int) = gt p.1 j + (dl s (mi, mr) j true + tot c j true (goM c s (mi, mr)) ms) ∧ gt (book c (goM c s (mi, mr)) (note s p (mi, mr)) ms).2.2 (j : Int) = gt p.2 j + (dl s (mi, mr) j false + tot c j false (goM c s (mi, mr)) ms)
    rw [a, b]
    cases mr with
    | true =>
      have e1 : gt (note s p (mi, true)).1 (j : Int) = gt p.1 j + dl s (mi, true) j true := by
        show gt (bump p.1 mi (1 - 2 * gt s.ls mi)) (j : Int) = _
        rw [bump_gt (by rw [h1]; exact hm)]
        unfold dl
        by_cases e : mi = j
        · subst e; rw [if_pos rfl, if_pos rfl]
        · rw [if_neg e, if_neg (fun z => e (Prod.mk.inj z).1)]
      have e2 : gt (note s p (mi, true)).2 (j : Int) = gt p.2 j + dl s (mi, true) j false := by
        unfold dl
        rw [if_neg (fun z => by cases (Prod.mk.inj z).2)]
        show gt p.2 (j : Int) = gt p.2 j + 0
        omega
      rw [e1, e2]; omega
    | false =>
      have e1 : gt (note s p (mi, false)).1 (j : Int) = gt p.1 j + dl s (mi, false) j true := by
        unfold dl
        rw [if_neg (fun z => by cases (Prod.mk.inj z).2)]
        show gt p.1 (j : Int) = gt p.1 j + 0
        omega
      have e2 : gt (note s p (mi, false)).2 (j : Int) = gt p.2 j + dl s (mi, false) j false := by
        show gt (bump p.2 mi (1 - 2 * gt s.ls mi)) (j : Int) = _
        rw [bump_gt (by rw [h2]; exact hm)]
        unfold dl
        by_cases e : mi = j
        · subst e; rw [if_pos rfl, if_pos rfl]
        · rw [if_neg e, if_neg (fun z => e (Prod.mk.inj z).1)]
      rw [e1, e2]; omega
theorem gt_ext {xs ys : List Int} (hl : xs.length = ys.length) (h : ∀ j : Nat, j < xs.length → gt xs (j : Int) = gt ys (j : Int)) : xs = ys := by
  refine List.ext_getElem? fun j => ?_
  by_cases hj : j < xs.length
  · have a := gt_get (zs := xs) (j := (j : Int)) (by omega) (by omega)
    have b := gt_get (zs := ys) (j := (j : Int)) (by omega) (by omega)
    rw [show ((j : Int)).toNat = j by omega] at a b
    rw [a, b, h j hj]
  · rw [List.getElem?_eq_none (by omega), List.getElem?_eq_none (by omega)]
def bk0 (c : Cn) (s : Sn) (ms : List Mv) : Nt := (book c s (zer c.ls.length, zer c.ls.length) ms).2
theorem zer_len (n : Nat) : (zer n).length = n := by unfold zer; rw [List.length_replicate]
theorem bk0_len (c : Cn) (s : Sn) (ms : List Mv) : (bk0 c s ms).1.length = c.ls.length ∧ (bk0 c s ms).2.length = c.ls.length := by
  have h := book_len c ms s (zer c.ls.length, zer c.ls.length)
  exact ⟨h.1.trans (zer_len _), h.2.trans (zer_len _)⟩
theorem gt_map_neg {zs : List Int} {j : Nat} (h : j < zs.length) : gt (zs.map fun x => 0 - x) (j : Int) = 0 - gt zs j := by
  have a := gt_get (zs := zs) (j := (j : Int)) (by omega) (by omega)
  have b := gt_get (zs := zs.map fun x => 0 - x) (j := (j : Int)) (by omega) (by rw [List.length_map]; omega)
  rw [List.getElem?_map, a] at b
  exact (Option.some.inj b).symm
theorem bk_back {c : Cn} {W U : Nat} (okc : okCn W U c) {ms : List Mv} {s : Sn} {B : Int} (ok : okSn c B s) (h : okRun c s ms) : bk0 c (runS c s ms) ms.reverse = ((bk0 c s ms).1.map fun x => 0 - x, (bk0 c s ms).2.map fun x => 0 - x) := by
  have l1 := bk0_len c s ms
  have l2 := bk0_len c (runS c s ms) ms.reverse
  have hb := (run_back okc ok h).1
  have z0 : ∀ j : Nat, gt (zer c.ls.length) (j : Int) = 0 := fun j => by
    unfold gt zer
    rw [List.getD_eq_getElem?_getD, List.getElem?_replicate]
    split <;> rfl
  have t : ∀ j : Nat, (gt (bk0 c (runS c s ms) ms.reverse).1 (j : Int) = 0 - gt (bk0 c s ms).1 (j : Int)) ∧ (gt (bk0 c (runS c s ms) ms.reverse).2 (j : Int) = 0 - gt (bk0 c s ms).2 (j : Int)) := fun j => by
    have a := book_tot c j ms.reverse (runS c s ms) (zer c.ls.length, zer c.ls.length) hb (zer_len _) (zer_len _)
    have b := book_tot c j ms s (zer c.ls.length, zer c.ls.length) h (zer_len _) (zer_len _)
    have t1 := tot_back okc j true ok h
    have t2 := tot_back okc j false ok h
    have z := z0 j
    have a1 := a.1; have a2 := a.2; have b1 := b.1; have b2 := b.2
    rw [show (zer c.ls.length, zer c.ls.length).1 = zer c.ls.length from rfl, z, t1] at a1
    rw [show (zer c.ls.length, zer c.ls.length).2 = zer c.ls.length from rfl, z, t2] at a2
    rw [show (zer c.ls.length, zer c.ls.length).1 = zer c.ls.length from rfl, z] at b1
    rw [show (zer c.ls.length, zer c.ls.length).2 = zer c.ls.length from rfl, z] at b2
    unfold bk0
    rw [a1, a2, b1, b2]; omega
  refine Prod.ext (gt_ext (by rw [List.length_map, l1.1, l2.1]) fun j hj => ?_) (gt_ext (by rw [List.length_map, l1.2, l2.2]) fun j hj => ?_)
  · rw [gt_map_neg (by rw [l1.1, ← l2.1]; exact hj)]; exact (t j).1
  · rw [gt_map_neg (by rw [l1.2, ← l2.2]; exact hj)]; exact (t j).2
theorem okRun_app {c : Cn} : ∀ {ms ns : List Mv} {s : Sn}, okRun c s (ms ++ ns) ↔ okRun c s ms ∧ okRun c (runS c s ms) ns
  | [], ns, s => ⟨fun h => ⟨trivial, h⟩, fun h => h.2⟩
  | m :: ms, ns, s => by
    show (_ ∧ okRun c (goM c s m) (ms ++ ns)) ↔ (_ ∧ okRun c (goM c s m) ms) ∧ okRun c (runS c (goM c s m) ms) ns
    rw [okRun_app (ms := ms)]
    exact ⟨fun ⟨a, b, d⟩ => ⟨⟨a, b⟩, d⟩, fun ⟨⟨a, b⟩, d⟩ => ⟨a, b, d⟩⟩
theorem runS_app (c : Cn) (s : Sn) (ms ns : List Mv) : runS c s (ms ++ ns) = runS c (runS c s ms) ns := by unfold runS; rw [List.foldl_append]
theorem okRun_lt {c : Cn} : ∀ {ms : List Mv} {s : Sn}, okRun c s ms → ∀ m ∈ ms, m.1 < c.ls.length
  | [], _, _, m, h => by simp at h
  | m' :: ms, s, hr, m, h => by
    rcases List.mem_cons.mp h with e | e
    · rw [e]; exact hr.1.1
    · exact okRun_lt hr.2 m e
theorem take_snoc {α : Type} {xs : List α} {j : Nat} {x : α} (h : xs[j]? = some x) : xs.take (j + 1) = xs.take j ++ [x] := by rw [List.take_succ, h]; rfl
section
variable {P : Program} {w : World} {K : PySem.W.Frag} {mg : Str → Option Value} {base : Heap}
/-! ### tupled -/
theorem scTupled : FnScope ["thing", "part"] ["thing"] (defScope sTupled) := ⟨rfl, rfl, rfl, by decide +kernel, rfl, by decide +kernel, by decide +kernel⟩
def spTupled (K : PySem.W.Frag) (n : Nat) : Sp := fun vs H Q _ => ∃ (v : V) (d : PyData), vs = [v] ∧ Dp K H v d ∧ okD n d ∧ ∀ (v' : V) (H' : Hp), Same H H' → Dp K H' v' (tupD d) → Q v' H'
theorem ok_tupled {f : Addr} {fd : FuncData} (F : Fun K "tupled" "tupled" sTupled f fd) (b : Binds K fd ["thing"] []) (gF : mg "tupled" = some (.ref f)) (mi : mg "isinstance" = none) (ml : mg "list" = none) (mt : mg "tuple" = none) :
    ∀ n : Nat, FnOk P w K mg base CX0 n f fd ["thing"] (spTupled K n)
  | 0 => no_fn fun vs H Q E ⟨v, d, _, _, h, _⟩ => h
  | n + 1 => by
    have G := ok_tupled F b gF mi ml mt n
    refine F.ok scTupled (fun vs H Q E h => ?_) (fun cdv A outer s H vs Q E hr h => ?_)
    · obtain ⟨v, d, rfl, _⟩ := h
      rfl
    obtain ⟨v, d, rfl, hd, ok, q⟩ := h
    refine ⟨_, pss_cons (ps_if (pt_val (pe_callB call_isiT rfl mi boot_isinstance (pa_cons (pv 0) (pa_cons (pe_tup (pa_cons (pe_bltn (v := .ty "list") rfl ml boot_list rfl) (pa_cons (pe_bltn (v := .ty "tuple") rfl mt boot_tuple rfl) pa_nil))) pa_nil))))
        (pss_one (ps_ret (pe_callTy call_tuple_of rfl mt boot_tuple (pa_cons (pe_lc (own := [("part", 1)]) (g := gName 1) (tt := tYes) rfl scTupled.nd (pi_seq (pv 0)) (blkOk_by (own := [("part", 1)]) (N := ["thing", "part"]) (sc := defScope sTupled) (by decide +kernel))
          (fun _ _ _ _ _ => pg_name (i := 1) scTupled.nd rfl (Or.inl rfl)) (fun _ _ _ _ _ => pts_nil) (fun _ _ _ _ _ => pe_hide (pe_call G hr rfl gF F.kp b .nil pass0 (pa_cons (pv 1) pa_nil)))) pa_nil)))) pss_nil)
      (pss_one (ps_ret (pv 0))), ?_⟩
    refine ⟨_, rfl, (by show 2 ≤ sizeLine; decide), fun tp np => ?_⟩
    have s1 : Same H (upd H tp (.tup [.ty "list", .ty "tuple"])) := same_new np
    refine ⟨v, tp, _, tyD d, _, isSeq d, rfl, upd_same, .cons (.ty _) (.cons (.ty _) .nil), tyx_of (Dp.same s1 d hd), seq_kit d (Dp.nodict hd), isSeq d, rfl, ?_⟩
    cases hsq : isSeq d with
    | false =>
      refine iteF ⟨_, rfl, ?_⟩
      have e : tupD d = d := by cases d <;> first | rfl | (simp [isSeq] at hsq)
      exact q _ _ s1 (by rw [e]; exact Dp.same s1 d hd)
    | true =>
      obtain ⟨a, xs, ds, rfl, hs, hall, het, hok, hlen⟩ : ∃ a xs ds, v = .ref a ∧ Sq2 K H a xs ∧ DpAll K H xs ds ∧ tupD d = .tuple (ds.map tupD) ∧ (∀ e ∈ ds, okD n e) ∧ ds.length ≤ 1000 := by
        cases hd with
        | lst h1 h2 => exact ⟨_, _, _, rfl, .inl h1, h2, by rw [tupD, tupDs_eq], ok.2, ok.1⟩
        | tup h1 h2 => exact ⟨_, _, _, rfl, .inr h1, h2, by rw [tupD, tupDs_eq], ok.2, ok.1⟩
        | _ => simp [isSeq] at hsq
      have hxl : xs.length = ds.length := DpAll.length hall
      refine iteT ⟨_, rfl, a, xs, rfl, Same.sq2 s1 hs, fun J wk => lc_map wk Same (fun a b => a.trans b) (fun i y F => ∃ d, ds[i]? = some d ∧ Dp K F y (tupD d)) (fun i y A B s ⟨d, e, p⟩ => ⟨d, e, Dp.same s _ p⟩) (by rw [hxl]; exact small1000 hlen) (Same.refl _) (fun F D acc sF nF => ?_) (fun i x D acc F H' hi nD sF nF hy B hB => ?_) (fun D ys F nD sF nF hl hR => ?_)⟩
      · have sD : Same _ (upd F D (.lst acc)) := sF.trans (same_new nF)
        exact ⟨fun _ z => sD.seq z, fun z => Same.tup sD z⟩
      · obtain ⟨rfl, hx⟩ := hy
        obtain ⟨e, he, hp⟩ := DpAll.get hall hx
        refine hB _ F rfl nF fun Qt hq => ?_
        refine ⟨x, rfl, x, e, rfl, Dp.same (s1.trans sF) e hp, hok e (List.mem_of_getElem? he), fun v' H' s' p' => hq _ _ s' ⟨e, he, p'⟩⟩
      · refine ⟨D, ys, rfl, .inl ⟨SqL.of upd_same, fun l nl => ?_⟩⟩
        have sD : Same F (upd F D (.lst ys)) := same_new nF
        have s3 : Same F (upd (upd F D (.lst ys)) l (.tup ys)) := sD.trans (same_new nl)
        refine q _ _ (s1.trans (sF.trans s3)) ?_
        rw [het]
        exact .tup (.inl (.inl upd_same)) (DpAll.same s3 _ (dpall_of (by rw [hl, hxl]) hR))
/-! ### rows -/
structure FnX (P : Program) (w : World) (K : PySem.W.Frag) (mg : Str → Option Value) (base : Heap) (n : Nat) (name : Str) (ps : List Str) (sp : Sp) (f : Addr) (fd : FuncData) : Prop where
  ok : FnOk P w K mg base (L2.CX P w) n f fd ps sp
  g : mg name = some (.ref f)
  k : PySem.W.keepIn K (.ref f) = true
  b : Binds K fd ps []
/-- a row of goings: a list or a tuple of lists or tuples -/
structure RowAt (K : PySem.W.Frag) (H : Hp) (a : Addr) (ms : List Mv) : Prop where
  ex : ∃ us : List V, Sq2 K H a us ∧ us.length = ms.length ∧ ∀ (j : Nat) u, us[j]? = some u → ∃ t m, u = .ref t ∧ ms[j]? = some m ∧ Sq2 K H t (mvV m)
theorem RowAt.same {H H' : Hp} {a : Addr} {ms : List Mv} (h : RowAt K H a ms) (s : Same H H') : RowAt K H' a ms := by
  obtain ⟨us, h1, h2, h3⟩ := h.ex
  refine ⟨us, Same.sq2 s h1, h2, fun j u hu => ?_⟩
  obtain ⟨t, m, e1, e2, e3⟩ := h3 j u hu
  exact ⟨t, m, e1, e2, Same.sq2 s e3⟩
end
end XL
namespace XL
open PySem PySem.Spec PyProof.Rows L2
/-! ### rows in their order: the shorter ones first, then lock by lock, blue ahead of red -/
def mkN (m : Mv) : Nat := 2 * m.1 + (if m.2 = true then 1 else 0)
theorem mkN_inj {a b : Mv} (h : mkN a = mkN b) : a = b := by
  obtain ⟨i, p⟩ := a
  obtain ⟨j, q⟩ := b
  unfold mkN at h
  cases p <;> cases q <;> simp at h
  · rw [show i = j by omega]
  · omega
  · omega
  · rw [show i = j by omega]
def lx : List Mv → List Mv → Prop
  | a :: as, b :: bs => mkN a < mkN b ∨ (a = b ∧ lx as bs)
  | _, _ => False
def sl (a b : List Mv) : Prop := a.length < b.length ∨ (a.length = b.length ∧ lx a b)
def sle (a b : List Mv) : Prop := a = b ∨ sl a b
theorem lx_irrefl : ∀ a : List Mv, ¬ lx a a
  | [], h => h
  | a :: as, h => by
    rcases h with h | ⟨_, h⟩
    · omega
    · exact lx_irrefl as h
theorem lx_trans : ∀ {a b d : List Mv}, lx a b → lx b d → lx a d
  | [], _, _, h, _ => h.elim
  | _ :: _, [], _, h, _ => h.elim
  | _ :: _, _ :: _, [], _, h => h.elim
  | a :: as, b :: bs, d :: ds, h1, h2 => by
    rcases h1 with h1 | ⟨rfl, h1⟩ <;> rcases h2 with h2 | ⟨rfl, h2⟩
    · exact .inl (by omega)
    · exact .inl h1
    · exact .inl h2
    · exact .inr ⟨rfl, lx_trans h1 h2⟩
theorem lx_tri : ∀ {a b : List Mv}, a.length = b.length → lx a b ∨ a = b ∨ lx b a
  | [], [], _ => .inr (.inl rfl)
  | [], _ :: _, h => by simp at h
  | _ :: _, [], h => by simp at h
  | a :: as, b :: bs, h => by
    by_cases e : mkN a = mkN b
    · obtain rfl := mkN_inj e
      rcases lx_tri (a := as) (b := bs) (by simpa using h) with q | q | q
      · exact .inl (.inr ⟨rfl, q⟩)
      · exact .inr (.inl (by rw [q]))
      · exact .inr (.inr (.inr ⟨rfl, q⟩))
    · by_cases l : mkN a < mkN b
      · exact .inl (.inl l)
      · exact .inr (.inr (.inl (by omega)))
theorem lx_app : ∀ {a b x y : List Mv}, lx a b → lx (a ++ x) (b ++ y)
  | [], _, _, _, h => h.elim
  | _ :: _, [], _, _, h => h.elim
  | a :: as, b :: bs, x, y, h => by
    rcases h with h | ⟨rfl, h⟩
    · exact .inl h
    · exact .inr ⟨rfl, lx_app h⟩
theorem lx_pre : ∀ {a x y : List Mv}, lx x y → lx (a ++ x) (a ++ y)
  | [], _, _, h => h
  | a :: as, x, y, h => .inr ⟨rfl, lx_pre (a := as) h⟩
theorem sl_irrefl (a : List Mv) : ¬ sl a a := fun h => by
  rcases h with h | ⟨_, h⟩
  · omega
  · exact lx_irrefl a h
theorem sl_trans {a b d : List Mv} (h1 : sl a b) (h2 : sl b d) : sl a d := by
  rcases h1 with h1 | ⟨l1, h1⟩ <;> rcases h2 with h2 | ⟨l2, h2⟩
  · exact .inl (by omega)
  · exact .inl (by omega)
  · exact .inl (by omega)
  · exact .inr ⟨by omega, lx_trans h1 h2⟩
theorem sl_tri (a b : List Mv) : sl a b ∨ a = b ∨ sl b a := by
  by_cases h : a.length < b.length
  · exact .inl (.inl h)
  · by_cases h2 : b.length < a.length
    · exact .inr (.inr (.inl h2))
    · rcases lx_tri (a := a) (b := b) (by omega) with q | q | q
      · exact .inl (.inr ⟨by omega, q⟩)
      · exact .inr (.inl q)
      · exact .inr (.inr (.inr ⟨by omega, q⟩))
theorem sl_app {a b : List Mv} {x y : Mv} (h : sl a b) : sl (a ++ [x]) (b ++ [y]) := by
  rcases h with h | ⟨l, h⟩
  · exact .inl (by simp; omega)
  · exact .inr ⟨by simp; omega, lx_app h⟩
theorem sl_snoc {a : List Mv} {x y : Mv} (h : mkN x < mkN y) : sl (a ++ [x]) (a ++ [y]) := .inr ⟨by simp, lx_pre (.inl h)⟩
theorem sl_nil (a : List Mv) (x : Mv) : sl [] (a ++ [x]) := .inl (by simp)
theorem sle_trans {a b d : List Mv} (h1 : sle a b) (h2 : sle b d) : sle a d := by
  rcases h1 with rfl | h1
  · exact h2
  · rcases h2 with rfl | h2
    · exact .inr h1
    · exact .inr (sl_trans h1 h2)
theorem sle_app {a b : List Mv} {x : Mv} (h : sle a b) : sle (a ++ [x]) (b ++ [x]) := by
  rcases h with rfl | h
  · exact .inl rfl
  · exact .inr (sl_app h)
theorem sle_anti {a b : List Mv} (h1 : sle a b) (h2 : sle b a) : a = b := by
  rcases h1 with h1 | h1
  · exact h1
  · rcases h2 with h2 | h2
    · exact h2.symm
    · exact absurd (sl_trans h1 h2) (sl_irrefl a)
theorem sle_len {a b : List Mv} (h : sle a b) : a.length ≤ b.length := by
  rcases h with rfl | h | ⟨h, _⟩
  · exact Nat.le_refl _
  · omega
  · omega
/-! ### all that it comes to, by the least of the shortest rows -/
theorem snoc_of' {α : Type} {xs : List α} {n : Nat} (h : xs.length = n + 1) : ∃ ys y, xs = ys ++ [y] ∧ ys.length = n := by
  have hne : xs ≠ [] := fun e => by rw [e] at h; simp at h
  refine ⟨xs.dropLast, xs.getLast hne, (List.dropLast_concat_getLast hne).symm, by rw [List.length_dropLast]; omega⟩
abbrev Es := List (Sn × List Mv)
def can (c : Cn) (s : Sn) (m : Mv) : Prop := m.1 < c.ls.length ∧ hasB c s m.1 m.2 = true
structure Wd (c : Cn) (s : Sn) (p : Nat) (done : List Mv) (xs : Es) : Prop where
  nd : (xs.map (·.1)).Nodup
  z : xs[0]? = some (s, [])
  ok : ∀ e ∈ xs, okRun c s e.2 ∧ runS c s e.2 = e.1
  fr : ∀ e ∈ xs, e.2 = [] ∨ ∃ q e' m, xs[q]? = some e' ∧ e.2 = e'.2 ++ [m] ∧ (q < p ∨ (q = p ∧ m ∈ done))
  so : xs.Pairwise fun a b => sl a.2 b.2
  cl : ∀ q e, q < p → xs[q]? = some e → ∀ m, can c e.1 m → ∃ r, (goM c e.1 m, r) ∈ xs ∧ sle r (e.2 ++ [m])
  cn : ∀ e, xs[p]? = some e → ∀ m ∈ done, ∃ r, (goM c e.1 m, r) ∈ xs ∧ sle r (e.2 ++ [m])
/-- to each the least of the shortest rows -/
structure Best (c : Cn) (s : Sn) (xs : Es) : Prop where
  nd : (xs.map (·.1)).Nodup
  z : (s, []) ∈ xs
  ok : ∀ e ∈ xs, okRun c s e.2 ∧ runS c s e.2 = e.1
  fr : ∀ e ∈ xs, e.2 = [] ∨ ∃ e' m, e' ∈ xs ∧ e.2 = e'.2 ++ [m]
  le : ∀ ms, okRun c s ms → ∃ r, (runS c s ms, r) ∈ xs ∧ sle r ms
section
variable {c : Cn} {s : Sn}
theorem Wd.zero : Wd c s 0 [] [(s, [])] := ⟨by simp, rfl, fun e he => by obtain rfl := List.mem_singleton.mp he; exact ⟨trivial, rfl⟩, fun e he => by obtain rfl := List.mem_singleton.mp he; exact .inl rfl, by simp, fun q e h => absurd h (Nat.not_lt_zero _), fun e _ m hm => by simp at hm⟩
theorem Wd.lt {p : Nat} {done : List Mv} {xs : Es} (h : Wd c s p done xs) {e : Sn × List Mv} (he : xs[p]? = some e) {m : Mv} (hm : ∀ m' ∈ done, mkN m' < mkN m) : ∀ x ∈ xs, sl x.2 (e.2 ++ [m]) := fun x hx => by
  rcases h.fr x hx with z | ⟨q, e', m', hq, e1, lt | ⟨rfl, hm'⟩⟩
  · rw [z]; exact sl_nil _ _
  · rw [e1]
    obtain ⟨l1, g1⟩ := List.getElem?_eq_some_iff.mp hq
    obtain ⟨l2, g2⟩ := List.getElem?_eq_some_iff.mp he
    have := List.pairwise_iff_getElem.mp h.so q p l1 l2 lt
    rw [g1, g2] at this
    exact sl_app this
  · rw [hq] at he
    obtain rfl := Option.some.inj he
    rw [e1]; exact sl_snoc (hm m' hm')
theorem Wd.keep {p : Nat} {done : List Mv} {xs : Es} (h : Wd c s p done xs) {e : Sn × List Mv} (he : xs[p]? = some e) {m : Mv} (hm : ∀ m' ∈ done, mkN m' < mkN m) {r : List Mv} (hr : (goM c e.1 m, r) ∈ xs) : Wd c s p (done ++ [m]) xs := by
  refine ⟨h.nd, h.z, h.ok, fun x hx => ?_, h.so, h.cl, fun x hx m' hm' => ?_⟩
  · rcases h.fr x hx with z | ⟨q, e', m', hq, e1, lt | ⟨rfl, hm'⟩⟩
    · exact .inl z
    · exact .inr ⟨q, e', m', hq, e1, .inl lt⟩
    · exact .inr ⟨q, e', m', hq, e1, .inr ⟨rfl, List.mem_append_left _ hm'⟩⟩
  · rcases List.mem_append.mp hm' with q | q
    · exact h.cn x hx m' q
    · obtain rfl := List.mem_singleton.mp q
      rw [he] at hx
      obtain rfl := Option.some.inj hx
      exact ⟨r, hr, .inr (h.lt he hm _ hr)⟩
theorem Wd.add {p : Nat} {done : List Mv} {xs : Es} (h : Wd c s p done xs) {e : Sn × List Mv} (he : xs[p]? = some e) {m : Mv} (hm : ∀ m' ∈ done, mkN m' < mkN m) (hc : can c e.1 m) (no : ∀ r, (goM c e.1 m, r) ∉ xs) : Wd c s p (done ++ [m]) (xs ++ [(goM c e.1 m, e.2 ++ [m])]) := by
  have em : e ∈ xs := List.mem_iff_getElem?.mpr ⟨p, he⟩
  have pl := (List.getElem?_eq_some_iff.mp he).1
  have new : ∀ {q : Nat} {x}, xs[q]? = some x → (xs ++ [(goM c e.1 m, e.2 ++ [m])])[q]? = some x := fun {q x} hx => by rw [List.getElem?_append_left (List.getElem?_eq_some_iff.mp hx).1]; exact hx
  have old : ∀ {q : Nat} {x}, q < xs.length → (xs ++ [(goM c e.1 m, e.2 ++ [m])])[q]? = some x → xs[q]? = some x := fun {q x} hq hx => by rw [List.getElem?_append_left hq] at hx; exact hx
  refine ⟨?_, new h.z, fun x hx => ?_, fun x hx => ?_, ?_, fun q x hq hx m' hc' => ?_, fun x hx m' hm' => ?_⟩
  · rw [List.map_append, List.nodup_append]
    refine ⟨h.nd, by simp, fun a ha b hb => ?_⟩
    obtain ⟨x, hx, rfl⟩ := List.mem_map.mp ha
    rw [List.map_cons, List.map_nil, List.mem_singleton] at hb
    rw [hb]
    intro z
    have z' : x.1 = goM c e.1 m := z
    exact no x.2 (by rw [← z']; exact hx)
  · rcases List.mem_append.mp hx with hx | hx
    · exact h.ok x hx
    · rw [List.mem_singleton.mp hx]
      obtain ⟨a, b⟩ := h.ok e em
      refine ⟨okRun_snoc a (by exact hc.1) (by rw [b]; exact hc.2), ?_⟩
      show runS c s (e.2 ++ [m]) = _
      rw [runS_snoc, b]
  · rcases List.mem_append.mp hx with hx | hx
    · rcases h.fr x hx with z | ⟨q, e', m', hq, e1, lt | ⟨rfl, hm'⟩⟩
      · exact .inl z
      · exact .inr ⟨q, e', m', new hq, e1, .inl lt⟩
      · exact .inr ⟨q, e', m', new hq, e1, .inr ⟨rfl, List.mem_append_left _ hm'⟩⟩
    · rw [List.mem_singleton.mp hx]
      exact .inr ⟨p, e, m, new he, rfl, .inr ⟨rfl, List.mem_append_right _ (List.mem_singleton.mpr rfl)⟩⟩
  · rw [List.pairwise_append]
    refine ⟨h.so, by simp, fun a ha b hb => ?_⟩
    rw [List.mem_singleton.mp hb]
    exact h.lt he hm a ha
  · obtain ⟨r, hr, l⟩ := h.cl q x hq (old (by omega) hx) m' hc'
    exact ⟨r, List.mem_append_left _ hr, l⟩
  · have hx' := old pl hx
    rw [he] at hx'
    obtain rfl := Option.some.inj hx'
    rcases List.mem_append.mp hm' with q | q
    · obtain ⟨r, hr, l⟩ := h.cn e he m' q
      exact ⟨r, List.mem_append_left _ hr, l⟩
    · obtain rfl := List.mem_singleton.mp q
      exact ⟨_, List.mem_append_right _ (List.mem_singleton.mpr rfl), .inl rfl⟩
theorem Wd.next {p : Nat} {done : List Mv} {xs : Es} (h : Wd c s p done xs) {e : Sn × List Mv} (he : xs[p]? = some e) (hd : ∀ m, can c e.1 m → m ∈ done) : Wd c s (p + 1) [] xs := by
  refine ⟨h.nd, h.z, h.ok, fun x hx => ?_, h.so, fun q x hq hx m hc => ?_, fun x hx m hm => by simp at hm⟩
  · rcases h.fr x hx with z | ⟨q, e', m', hq, e1, lt | ⟨rfl, hm'⟩⟩
    · exact .inl z
    · exact .inr ⟨q, e', m', hq, e1, .inl (by omega)⟩
    · exact .inr ⟨q, e', m', hq, e1, .inl (by omega)⟩
  · by_cases q2 : q < p
    · exact h.cl q x q2 hx m hc
    · obtain rfl : q = p := by omega
      rw [he] at hx
      obtain rfl := Option.some.inj hx
      exact h.cn e he m (hd m hc)
theorem Wd.best {p : Nat} {xs : Es} (h : Wd c s p [] xs) (hp : xs.length ≤ p) : Best c s xs := by
  refine ⟨h.nd, List.mem_iff_getElem?.mpr ⟨0, h.z⟩, h.ok, fun e he => ?_, ?_⟩
  · rcases h.fr e he with z | ⟨q, e', m', hq, e1, _⟩
    · exact .inl z
    · exact .inr ⟨e', m', List.mem_iff_getElem?.mpr ⟨q, hq⟩, e1⟩
  · have go : ∀ (n : Nat) (ms : List Mv), ms.length = n → okRun c s ms → ∃ r, (runS c s ms, r) ∈ xs ∧ sle r ms := fun n => by
      induction n with
      | zero =>
        intro ms l _
        rw [List.length_eq_zero_iff.mp l]
        exact ⟨[], List.mem_iff_getElem?.mpr ⟨0, h.z⟩, .inl rfl⟩
      | succ n ih =>
        intro ms l a
        obtain ⟨ns, m, rfl, hn⟩ := snoc_of' l
        obtain ⟨a1, a2⟩ := okRun_app.mp a
        obtain ⟨r, hr, lr⟩ := ih ns hn a1
        obtain ⟨k, hk⟩ := List.mem_iff_getElem?.mp hr
        have hkl := (List.getElem?_eq_some_iff.mp hk).1
        obtain ⟨r', hr', lr'⟩ := h.cl k _ (by omega) hk m a2.1
        refine ⟨r', by rw [runS_snoc]; exact hr', sle_trans lr' (sle_app lr)⟩
    exact fun ms a => go ms.length ms rfl a
/-- different standings that it comes to: as many there are at least -/
theorem Best.cap {xs : Es} (h : Best c s xs) {ys : List Sn} (nd : ys.Nodup) (hy : ∀ y ∈ ys, ∃ ms, okRun c s ms ∧ runS c s ms = y) : ys.length ≤ xs.length := by
  have := nd.length_le_of_subset (l₂ := xs.map (·.1)) fun y hy' => by
    obtain ⟨ms, a, b⟩ := hy y hy'
    obtain ⟨r, hr, _⟩ := h.le ms a
    rw [b] at hr
    exact List.mem_map.mpr ⟨_, hr, rfl⟩
  rw [List.length_map] at this
  exact this
theorem nd_key {α β : Type} {xs : List (α × β)} (nd : (xs.map (·.1)).Nodup) {x : α} {r r' : β} (h1 : (x, r) ∈ xs) (h2 : (x, r') ∈ xs) : r = r' := by
  obtain ⟨i, hi⟩ := List.mem_iff_getElem?.mp h1
  obtain ⟨j, hj⟩ := List.mem_iff_getElem?.mp h2
  have g1 : (xs.map (·.1))[i]? = some x := by rw [List.getElem?_map, hi]; rfl
  have g2 : (xs.map (·.1))[j]? = some x := by rw [List.getElem?_map, hj]; rfl
  have ij : i = j := (List.getElem?_inj (by rw [List.length_map]; exact (List.getElem?_eq_some_iff.mp hi).1) nd).mp (g1.trans g2.symm)
  subst ij
  rw [hi] at hj
  have := Option.some.inj hj
  injection this
/-- the row told is the least of the shortest -/
theorem Best.row {xs : Es} (h : Best c s xs) {t : Sn} {r : List Mv} (hr : (t, r) ∈ xs) {ms : List Mv} (a : okRun c s ms) (b : runS c s ms = t) : sle r ms := by
  obtain ⟨r', h1, h2⟩ := h.le ms a
  rw [b] at h1
  rw [nd_key h.nd hr h1]; exact h2
end
/-! ### each with how far it is -/
abbrev Ds := List (Sn × Nat)
def Go (c : Cn) (s : Sn) (n : Nat) (x : Sn) : Prop := ∃ ms, okRun c s ms ∧ ms.length = n ∧ runS c s ms = x
structure Far (c : Cn) (s : Sn) (xs : Ds) : Prop where
  nd : (xs.map (·.1)).Nodup
  d : ∀ e ∈ xs, Go c s e.2 e.1
  le : ∀ n x, Go c s n x → ∃ d, (x, d) ∈ xs ∧ d ≤ n
structure Bf (c : Cn) (s : Sn) (p : Nat) (done : List Mv) (xs : Ds) : Prop where
  nd : (xs.map (·.1)).Nodup
  d : ∀ e ∈ xs, Go c s e.2 e.1
  z : (s, 0) ∈ xs
  so : xs.Pairwise fun a b => a.2 ≤ b.2
  hi : ∀ e0, xs[p]? = some e0 → ∀ e ∈ xs, e.2 ≤ e0.2 + 1
  cl : ∀ q e, q < p → xs[q]? = some e → ∀ m, can c e.1 m → ∃ d, (goM c e.1 m, d) ∈ xs ∧ d ≤ e.2 + 1
  cn : ∀ e, xs[p]? = some e → ∀ m ∈ done, ∃ d, (goM c e.1 m, d) ∈ xs ∧ d ≤ e.2 + 1
section
variable {c : Cn} {s : Sn}
theorem Go.zero : Go c s 0 s := ⟨[], trivial, rfl, rfl⟩
theorem Go.step {n : Nat} {x : Sn} (h : Go c s n x) {m : Mv} (hc : can c x m) : Go c s (n + 1) (goM c x m) := by
  obtain ⟨ms, a, l, e⟩ := h
  refine ⟨ms ++ [m], okRun_snoc a hc.1 (by rw [e]; exact hc.2), by rw [List.length_append, l]; rfl, by rw [runS_snoc, e]⟩
theorem Bf.zero : Bf c s 0 [] [(s, 0)] := ⟨by simp, fun e he => by obtain rfl := List.mem_singleton.mp he; exact Go.zero, by simp, by simp, fun e0 h e he => by obtain rfl := List.mem_singleton.mp he; exact Nat.zero_le _, fun q e h => absurd h (Nat.not_lt_zero _), fun e _ m hm => by simp at hm⟩
theorem Bf.done {p : Nat} {xs : Ds} (h : Bf c s p [] xs) (hp : xs.length ≤ p) : Far c s xs := by
  refine ⟨h.nd, h.d, fun n => ?_⟩
  induction n with
  | zero =>
    intro x ⟨ms, a, l, e⟩
    rw [List.length_eq_zero_iff.mp l] at e
    have e' : s = x := e
    rw [← e']; exact ⟨0, h.z, Nat.le_refl _⟩
  | succ n ih =>
    intro x ⟨ms, a, l, e⟩
    obtain ⟨ns, m, rfl, hn⟩ := snoc_of' l
    obtain ⟨a1, a2⟩ := okRun_app.mp a
    rw [runS_snoc] at e
    obtain ⟨d, hd, dl⟩ := ih (runS c s ns) ⟨ns, a1, hn, rfl⟩
    obtain ⟨k, hk⟩ := List.mem_iff_getElem?.mp hd
    have hkl := (List.getElem?_eq_some_iff.mp hk).1
    obtain ⟨d', hd', dl'⟩ := h.cl k _ (by omega) hk m a2.1
    refine ⟨d', by rw [← e]; exact hd', ?_⟩
    have : d' ≤ d + 1 := dl'
    omega
theorem Bf.keep {p : Nat} {done : List Mv} {xs : Ds} {e : Sn × Nat} (h : Bf c s p done xs) (he : xs[p]? = some e) {m : Mv} {d : Nat} (hd : (goM c e.1 m, d) ∈ xs) : Bf c s p (done ++ [m]) xs := by
  refine ⟨h.nd, h.d, h.z, h.so, h.hi, h.cl, fun e' he' m' hm' => ?_⟩
  rcases List.mem_append.mp hm' with q | q
  · exact h.cn e' he' m' q
  · obtain rfl := List.mem_singleton.mp q
    rw [he] at he'
    obtain rfl := Option.some.inj he'
    exact ⟨d, hd, h.hi e he _ hd⟩
theorem Bf.add {p : Nat} {done : List Mv} {xs : Ds} {e : Sn × Nat} (h : Bf c s p done xs) (he : xs[p]? = some e) {m : Mv} (hc : can c e.1 m) (no : ∀ d, (goM c e.1 m, d) ∉ xs) : Bf c s p (done ++ [m]) (xs ++ [(goM c e.1 m, e.2 + 1)]) := by
  have em : e ∈ xs := List.mem_iff_getElem?.mpr ⟨p, he⟩
  have pl := (List.getElem?_eq_some_iff.mp he).1
  have old : ∀ {q : Nat} {x}, q < xs.length → (xs ++ [(goM c e.1 m, e.2 + 1)])[q]? = some x → xs[q]? = some x := fun {q x} hq hx => by rw [List.getElem?_append_left hq] at hx; exact hx
  refine ⟨?_, fun x hx => ?_, List.mem_append_left _ h.z, ?_, fun e0 h0 x hx => ?_, fun q x hq hx m' hc' => ?_, fun x hx m' hm' => ?_⟩
  · rw [List.map_append, List.nodup_append]
    refine ⟨h.nd, by simp, fun a ha b hb => ?_⟩
    obtain ⟨x, hx, rfl⟩ := List.mem_map.mp ha
    rw [List.map_cons, List.map_nil, List.mem_singleton] at hb
    rw [hb]
    intro z
    have z' : x.1 = goM c e.1 m := z
    exact no x.2 (by rw [← z']; exact hx)
  · rcases List.mem_append.mp hx with hx | hx
    · exact h.d x hx
    · rw [List.mem_singleton.mp hx]; exact (h.d e em).step hc
  · rw [List.pairwise_append]
    refine ⟨h.so, by simp, fun a ha b hb => ?_⟩
    rw [List.mem_singleton.mp hb]
    exact h.hi e he a ha
  · have h0' := old pl h0
    rw [he] at h0'
    obtain rfl := Option.some.inj h0'
    rcases List.mem_append.mp hx with hx | hx
    · exact h.hi e he x hx
    · rw [List.mem_singleton.mp hx]; exact Nat.le_refl _
  · obtain ⟨d, hd, dl⟩ := h.cl q x hq (old (by omega) hx) m' hc'
    exact ⟨d, List.mem_append_left _ hd, dl⟩
  · have hx' := old pl hx
    rw [he] at hx'
    obtain rfl := Option.some.inj hx'
    rcases List.mem_append.mp hm' with q | q
    · obtain ⟨d, hd, dl⟩ := h.cn e he m' q
      exact ⟨d, List.mem_append_left _ hd, dl⟩
    · obtain rfl := List.mem_singleton.mp q
      exact ⟨e.2 + 1, List.mem_append_right _ (List.mem_singleton.mpr rfl), Nat.le_refl _⟩
theorem Bf.next {p : Nat} {done : List Mv} {xs : Ds} {e : Sn × Nat} (h : Bf c s p done xs) (he : xs[p]? = some e) (hd : ∀ m, can c e.1 m → m ∈ done) : Bf c s (p + 1) [] xs := by
  refine ⟨h.nd, h.d, h.z, h.so, fun e0 h0 x hx => ?_, fun q x hq hx m hc => ?_, fun x hx m hm => by simp at hm⟩
  · have a := h.hi e he x hx
    have b : e.2 ≤ e0.2 := by
      obtain ⟨l1, e1⟩ := List.getElem?_eq_some_iff.mp he
      obtain ⟨l2, e2⟩ := List.getElem?_eq_some_iff.mp h0
      have := List.pairwise_iff_getElem.mp h.so p (p + 1) l1 l2 (Nat.lt_succ_self _)
      rw [e1, e2] at this
      exact this
    omega
  · by_cases q2 : q < p
    · exact h.cl q x q2 hx m hc
    · obtain rfl : q = p := by omega
      rw [he] at hx
      obtain rfl := Option.some.inj hx
      exact h.cn e he m (hd m hc)
/-- the way back is as long -/
theorem Go.back {W U : Nat} (okc : okCn W U c) {B : Int} (ok : okSn c B s) {n : Nat} {x : Sn} (h : Go c s n x) : Go c x n s := by
  obtain ⟨ms, a, l, e⟩ := h
  obtain ⟨b1, b2⟩ := run_back okc ok a
  rw [e] at b1 b2
  exact ⟨ms.reverse, b1, by rw [List.length_reverse]; exact l, b2⟩
theorem Go.trans {n m : Nat} {x y : Sn} (h1 : Go c s n x) (h2 : Go c x m y) : Go c s (n + m) y := by
  obtain ⟨ms, a, l, e⟩ := h1
  obtain ⟨ns, a', l', e'⟩ := h2
  exact ⟨ms ++ ns, okRun_app.mpr ⟨a, by rw [e]; exact a'⟩, by rw [List.length_append, l, l'], by rw [runS_app, e, e']⟩
/-- the least of the shortest rows -/
structure Lst (c : Cn) (s t : Sn) (r : List Mv) : Prop where
  ok : okRun c s r
  run : runS c s r = t
  le : ∀ ms, okRun c s ms → runS c s ms = t → sle r ms
theorem Best.lst {xs : Es} (h : Best c s xs) {t : Sn} {r : List Mv} (hr : (t, r) ∈ xs) : Lst c s t r := ⟨(h.ok _ hr).1, (h.ok _ hr).2, fun _ a b => h.row hr a b⟩
theorem Lst.uq {t : Sn} {r r' : List Mv} (h : Lst c s t r) (h' : Lst c s t r') : r = r' := sle_anti (h.le _ h'.ok h'.run) (h'.le _ h.ok h.run)
theorem least_nat {p : Nat → Prop} : ∀ n : Nat, p n → ∃ m, p m ∧ ∀ k, p k → m ≤ k := fun n => by
  induction n using Nat.strongRecOn with
  | _ n ih =>
    intro hn
    by_cases h : ∃ k, k < n ∧ p k
    · obtain ⟨k, kl, hk⟩ := h
      exact ih k kl hk
    · exact ⟨n, hn, fun k hk => by
        by_cases q : n ≤ k
        · exact q
        · exact absurd ⟨k, by omega, hk⟩ h⟩
theorem lx_least : ∀ (n : Nat) (p : List Mv → Prop), (∃ l, l.length = n ∧ p l) → ∃ l, l.length = n ∧ p l ∧ ∀ l', l'.length = n → p l' → l = l' ∨ lx l l'
  | 0, p, ⟨l, hl, hp⟩ => ⟨l, hl, hp, fun l' hl' _ => .inl (by rw [List.length_eq_zero_iff.mp hl, List.length_eq_zero_iff.mp hl'])⟩
  | n + 1, p, ⟨l, hl, hp⟩ => by
    obtain ⟨m, l2, rfl⟩ : ∃ m l2, l = m :: l2 := by
      cases l with
      | nil => simp at hl
      | cons m l2 => exact ⟨m, l2, rfl⟩
    obtain ⟨k, ⟨m0, e0, t0, h0, p0⟩, kmin⟩ := least_nat (p := fun k => ∃ m, mkN m = k ∧ ∃ t, t.length = n ∧ p (m :: t)) (mkN m) ⟨m, rfl, l2, by simpa using hl, hp⟩
    obtain ⟨t1, h1, p1, le1⟩ := lx_least n (fun t => p (m0 :: t)) ⟨t0, h0, p0⟩
    refine ⟨m0 :: t1, by rw [List.length_cons, h1], p1, fun l' hl' hp' => ?_⟩
    cases l' with
    | nil => simp at hl'
    | cons m' t' =>
      have lt : t'.length = n := by simpa using hl'
      have := kmin (mkN m') ⟨m', rfl, t', lt, hp'⟩
      by_cases q : mkN m0 = mkN m'
      · obtain rfl := mkN_inj q
        rcases le1 t' lt hp' with e | e
        · exact .inl (by rw [e])
        · exact .inr (.inr ⟨rfl, e⟩)
      · exact .inr (.inl (by omega))
theorem lst_ex {t : Sn} (h : ∃ ms, okRun c s ms ∧ runS c s ms = t) : ∃ r, Lst c s t r := by
  obtain ⟨ms, a, b⟩ := h
  obtain ⟨n, ⟨l0, e0, a0, b0⟩, nmin⟩ := least_nat (p := fun n => ∃ l : List Mv, l.length = n ∧ okRun c s l ∧ runS c s l = t) ms.length ⟨ms, rfl, a, b⟩
  obtain ⟨r, hr, ⟨a1, b1⟩, le1⟩ := lx_least n (fun l => okRun c s l ∧ runS c s l = t) ⟨l0, e0, a0, b0⟩
  refine ⟨r, a1, b1, fun l hl hb => ?_⟩
  have := nmin l.length ⟨l, rfl, hl, hb⟩
  by_cases q : l.length = n
  · rcases le1 l q ⟨hl, hb⟩ with e | e
    · exact .inl e
    · exact .inr (.inr ⟨by omega, e⟩)
  · exact .inr (.inl (by omega))
/-- the least of the shortest rows is found from one end: always the least going that comes nearer -/
theorem least_step {W U : Nat} (okc : okCn W U c) {B : Int} (ok : okSn c B s) {t : Sn} {r : List Mv} (bs : Lst c s t r) {xs : Ds} (far : Far c t xs) {j : Nat} (hj : j < r.length) {d : Nat} (hd : (runS c s (r.take j), d) ∈ xs) :
    d = r.length - j ∧ ∃ mj, r[j]? = some mj ∧ can c (runS c s (r.take j)) mj ∧ ∀ m', can c (runS c s (r.take j)) m' → ∀ d', (goM c (runS c s (r.take j)) m', d') ∈ xs → (d' < d → mkN mj ≤ mkN m') ∧ (m' = mj → d' < d) := by
  have a := bs.ok
  have b := bs.run
  have ra : r = r.take j ++ r.drop j := (List.take_append_drop j r).symm
  obtain ⟨mj, hmj⟩ : ∃ mj, r[j]? = some mj := ⟨_, List.getElem?_eq_getElem hj⟩
  have rd : r.drop j = mj :: r.drop (j + 1) := by rw [List.drop_eq_getElem_cons hj]; rw [List.getElem?_eq_getElem hj] at hmj; rw [Option.some.inj hmj]
  have a' := a
  have b' := b
  rw [ra] at a' b'
  obtain ⟨a1, a2⟩ := okRun_app.mp a'
  rw [runS_app] at b'
  have okt : okSn c (B + r.length) t := by have := runS_ok okc ok a; rw [b] at this; exact this
  have ok1 := runS_ok okc ok a1
  obtain ⟨x, hx⟩ : ∃ x, x = runS c s (r.take j) := ⟨_, rfl⟩
  have gox : Go c s j x := ⟨r.take j, a1, by rw [List.length_take]; omega, hx.symm⟩
  have hxt : ∀ {n : Nat}, Go c x n t → r.length ≤ j + n := fun {n} g => by
    obtain ⟨ms, m1, m2, m3⟩ := gox.trans g
    have := sle_len (bs.le _ m1 m3)
    omega
  rw [← hx] at hd a2 b' ok1 ⊢
  have gtx : Go c t d x := far.d _ hd
  have hd1 := hxt (gtx.back okc okt)
  have hd2 : d ≤ r.length - j := by
    have g : Go c x (r.length - j) t := ⟨r.drop j, a2, by rw [List.length_drop], b'⟩
    obtain ⟨d', h1, h2⟩ := far.le _ _ (g.back okc ok1)
    rw [nd_key far.nd hd h1]; exact h2
  have hdd : d = r.length - j := by omega
  rw [rd] at a2 b'
  have cmj : can c x mj := a2.1
  refine ⟨hdd, mj, hmj, cmj, fun m' hm' d' hd' => ⟨fun hlt => ?_, ?_⟩⟩
  · -- a row by m' that is as short
    have oky := goneS_ok okc ok1 hm'.1 m'.2 hm'.2
    obtain ⟨ms, m1, m2, m3⟩ := (far.d _ hd').back okc okt
    have run : okRun c s (r.take j ++ m' :: ms) := okRun_app.mpr ⟨a1, by rw [← hx]; exact ⟨hm', m1⟩⟩
    have fin : runS c s (r.take j ++ m' :: ms) = t := by rw [runS_app, ← hx]; exact m3
    have q := bs.le _ run fin
    have ql := sle_len q
    have lt : (r.take j).length = j := by rw [List.length_take]; omega
    rw [List.length_append, List.length_cons, lt] at ql
    by_cases c1 : mkN mj ≤ mkN m'
    · exact c1
    · exfalso
      have c2 : lx (r.take j ++ m' :: ms) r := by
        have : lx (r.take j ++ m' :: ms) (r.take j ++ mj :: r.drop (j + 1)) := lx_pre (.inl (by omega))
        rw [← rd, List.take_append_drop] at this; exact this
      have c3 : sl (r.take j ++ m' :: ms) r := .inr ⟨by rw [List.length_append, List.length_cons, lt]; omega, c2⟩
      rcases q with q | q
      · rw [← q] at c3; exact sl_irrefl _ c3
      · exact sl_irrefl _ (sl_trans c3 q)
  · rintro rfl
    have g : Go c (goM c x m') (r.length - j - 1) t := ⟨r.drop (j + 1), a2.2, by rw [List.length_drop]; omega, b'⟩
    have oky := goneS_ok okc ok1 cmj.1 m'.2 cmj.2
    obtain ⟨d2, h1, h2⟩ := far.le _ _ (g.back okc oky)
    rw [nd_key far.nd hd' h1]; omega
end
end XL
namespace PySem
open Sem (wp)
section
variable {prog : Program} {w : World} {K : Type} [DecidableEq K] {knd : KeyKind prog w K} {A : Around} {E : Value → Shared → Prop} {s : Shared}
theorem wpAny_dictPut_pairs {d : Addr} {kvs : List (K × Value)} {k : K} {key v : Value} {Q : Unit → Shared → Prop} (hkey : knd.is k key = true) (hm : s.heap.DictOf knd d kvs)
    (hQ : ∀ h', h'.DictOf knd d (stored kvs k v) → Heap.SameBut d s.heap h' → Q () { s with heap := h' })
    (hsz : kvs.length ≤ sizeLine) :
    wpAny (model prog w) A (dictPut d (knd.hash k) key v) Q E s := by
  obtain ⟨o, es, ep, ho, hc, hd, hk, hp, hn⟩ := hm
  have hes : es.size ≤ sizeLine := by have e1 := hp.length; have e2 : es.toList.length = es.size := by simp
                                      omega
  unfold dictPut
  refine wpAny_bind (wpAny_dictFind_of hkey ho hd hk ?_)
  have hidx : (es.findIdx? fun e => knd.is k e.key) = kvs.findIdx? fun kv => decide (kv.1 = k) := by
    rw [← hp.findIdx k]; obtain ⟨l⟩ := es; simp
  cases hi : es.findIdx? fun e => knd.is k e.key with
  | some i =>
    refine wpAny_updateDict ho hd (hQ _ ⟨_, _, ep, Heap.get?_update_self _ ho (Obj.isFreed_of_dict (Obj.data_mapDict hd _)),
      hc.mapDict _, Obj.data_mapDict hd _, hk.modify _ _, ?_, ?_⟩ (Heap.SameBut.update ..))
    · rw [stored, if_pos (any_of_findIdx_some (hidx ▸ hi))]
      have hl : (es.toList.findIdx? fun e => knd.is k e.key) = some i := by rw [← hi]; obtain ⟨l⟩ := es; simp
      have := hp.modify hn hl v
      obtain ⟨l⟩ := es
      simpa using this
    · rw [stored, if_pos (any_of_findIdx_some (hidx ▸ hi)), keys_map_store]; exact hn
  | none =>
    have hnot : k ∉ kvs.map (·.1) := not_mem_of_findIdx_none (hidx ▸ hi)
    have hany : ¬ (kvs.any fun kv => decide (kv.1 = k)) = true := by
      rw [List.any_eq_true]; rintro ⟨kv, hkv, he⟩
      exact hnot (List.mem_map.mpr ⟨kv, hkv, of_decide_eq_true he⟩)
    refine wpAny_updateDictKeys (hz := hes) ho hd (hQ _ ⟨_, _, ep + 1, Heap.get?_update_self _ ho (Obj.isFreed_of_dict (Obj.data_mapDictKeys hd _)),
      hc.mapDictKeys _, Obj.data_mapDictKeys hd _, hk.push hkey _, ?_, ?_⟩ (Heap.SameBut.update ..))
    · rw [stored, if_neg hany]
      have := hp.append hkey (knd.hash k) v
      obtain ⟨l⟩ := es
      simpa using this
    · rw [stored, if_neg hany, List.map_append, List.nodup_append]
      refine ⟨hn, by simp, ?_⟩
      intro a ha b hb
      simp only [List.map_cons, List.map_nil, List.mem_singleton] at hb
      subst hb
      exact fun e => hnot (e ▸ ha)
theorem wpAny_mergeMapping {d o : Addr} {kvs more : List (K × Value)} {Q : Unit → Shared → Prop} (hdo : d ≠ o) (hoS : (o == sysModules) = false)
    (hd : s.heap.DictOf knd d kvs) (ho : s.heap.DictOf knd o more)
    (hQ : ∀ h', h'.DictOf knd d (merged kvs more) → h'.DictOf knd o more → Heap.SameBut d s.heap h' → Q () { s with heap := h' })
    (hsz : kvs.length + more.length ≤ sizeLine) :
    wpAny (model prog w) A (mergeMapping d (.ref o) false) Q E s := by
  obtain ⟨od, esd, epd, hod, hcd, hdd, hkd, hpd, hnd⟩ := id hd
  obtain ⟨oo, eso, epo, hoo, hco, hdo', hko, hpo, hno⟩ := id ho
  have hlen : more.length = eso.size := by rw [← hpo.length]; simp
  have loop : wpAny (model prog w) A (do
      let l ← dictEntries o
      let epoch ← dictEpoch o
      forIn (List.range l.size) PUnit.unit fun i (_ : PUnit) => (do
          let l' ← dictEntries o
          match l'[i]? with
            | some e => do
              holding [e.key, e.val] (dictPut d e.hash e.key e.val)
              let ep' ← dictEpoch o
              if (ep' != epoch) = true then do
                  (unsupported "dict.changed-during-merge" : Sem PUnit)
                  pure (ForInStep.yield PUnit.unit)
                else pure (ForInStep.yield PUnit.unit)
            | _ => do
              (unsupported "dict.changed-during-merge" : Sem PUnit)
              pure (ForInStep.yield PUnit.unit) : Sem (ForInStep PUnit))
      pure ()) Q E s := by
    refine wpAny_bind (wpAny_dictEntries hoo hdo' ?_)
    refine wpAny_bind (wpAny_dictEpoch hoo hdo' ?_)
    refine wpAny_bind ?_
    rw [List.range_eq_range']
    refine wpAny_forIn_list _
      (fun rest _ s' => ∃ h' i, s' = { s with heap := h' } ∧ rest = List.range' i (eso.size - i) ∧ i ≤ eso.size ∧ h'.DictOf knd d (merged kvs (more.take i)) ∧ h'.get? o = some oo ∧ Heap.SameBut d s.heap h')
      _ ?_ ?_ _ _ ⟨s.heap, 0, rfl, by simp, Nat.zero_le _, by simpa [merged] using hd, hoo, Heap.SameBut.refl _ _⟩
    · rintro x rest b s' ⟨h', i, rfl, hr, hi, hd', hoo', hs'⟩
      have hlt : i < eso.size := by
        rcases Nat.lt_or_ge i eso.size with h | h
        · exact h
        · rw [Nat.sub_eq_zero_of_le h] at hr; simp at hr
      obtain ⟨rfl, hrest⟩ : x = i ∧ rest = List.range' (i + 1) (eso.size - (i + 1)) := by
        have e : eso.size - i = (eso.size - (i + 1)) + 1 := by omega
        rw [e, List.range'_succ] at hr
        injection hr with h1 h2
        exact ⟨h1, h2⟩
      refine wpAny_bind (wpAny_dictEntries hoo' hdo' ?_)
      rw [Array.getElem?_eq_getElem hlt]
      obtain ⟨kv, hkv⟩ : ∃ kv, more[x]? = some kv := ⟨more[x]'(by rw [hlen]; exact hlt), List.getElem?_eq_getElem _⟩
      obtain ⟨k, v⟩ := kv
      obtain ⟨hkey, hval⟩ := hpo.get? (e := eso[x]) (by simp [hlt]) hkv
      obtain ⟨k', hkey', hhash⟩ := hko eso[x] (Array.getElem_mem hlt)
      obtain rfl : k' = k := knd.inj _ _ _ hkey' hkey
      show wpAny _ _ (holding [eso[x].key, eso[x].val] (dictPut d eso[x].hash eso[x].key eso[x].val) >>= _) _ _ _
      rw [hhash, hval]
      have hmx : (merged kvs (more.take x)).length ≤ sizeLine := by
        have e1 := merged_length_le kvs (more.take x)
        have e2 : (more.take x).length ≤ more.length := by rw [List.length_take]; omega
        omega
      refine wpAny_bind (wpAny_holding (wpAny_dictPut_pairs (hsz := hmx) hkey hd' fun h'' hd'' hs'' => ?_))
      have hoo'' : h''.get? o = some oo := (hs''.2 o (Ne.symm hdo)).trans hoo'
      refine wpAny_bind (wpAny_dictEpoch hoo'' hdo' ?_)
      rw [if_neg (by simp)]
      exact wpAny_pure ⟨h'', x + 1, rfl, hrest, hlt, by rw [merged_take_succ kvs more x (k', v) hkv]; exact hd'', hoo'', hs'.trans hs''⟩
    · rintro b s' ⟨h', i, rfl, hr, hi, hd', hoo', hs'⟩
      have hin : i = eso.size := by
        rcases Nat.lt_or_ge i eso.size with h | h
        · have e : eso.size - i = (eso.size - (i + 1)) + 1 := by omega
          rw [e, List.range'_succ] at hr; exact nomatch hr
        · exact Nat.le_antisymm hi h
      refine wpAny_pure (hQ h' ?_ ⟨oo, eso, epo, hoo', hco, hdo', hko, hpo, hno⟩ hs')
      rw [hin, ← hlen, List.take_length] at hd'; exact hd'
  unfold mergeMapping
  refine wpAny_bind (wpAny_isInstance ho.typeIs isSubtype_dict_dict ?_)
  dsimp only
  rw [if_pos rfl]
  refine wpAny_bind (wpAny_specialOf ho.typeIs F.slot_dict_iter.lookup ?_)
  refine wpAny_bind (wpAny_pure ?_)
  rw [show ((some (Value.builtin "dict.__iter__") == some (Value.builtin "dict.__iter__"))) = true from beq_self_eq_true _]
  dsimp only
  rw [if_neg (by rw [hoS]; exact Bool.false_ne_true)]
  refine wpAny_bind (wpAny_dictEntries hod hdd ?_)
  split
  · refine wpAny_bind (wpAny_dictEntries hoo hdo' ?_)
    refine wpAny_bind ?_
    rw [← Array.forIn_toList]
    refine wpAny_forIn_list _ (fun rest _ s' => s' = s ∧ ∀ e ∈ rest, e ∈ eso.toList) _ ?_ ?_ _ _ ⟨rfl, fun e he => he⟩
    · rintro e rest b s' ⟨rfl, hall⟩
      have hrest : ∀ x ∈ rest, x ∈ eso.toList := fun x hx => hall x (List.mem_cons_of_mem _ hx)
      obtain ⟨k, hkey, _⟩ := hko e (Array.mem_toList_iff.mp (hall e List.mem_cons_self))
      have hv := knd.byValue k _ hkey
      cases hek : e.key with
      | ref a => rw [hek] at hv; exact absurd hv (by intro h; cases h)
      | _ => exact wpAny_pure ⟨rfl, hrest⟩
    · rintro b s' ⟨rfl, _⟩
      exact loop
  · exact loop
end
end PySem
namespace L2
open PySem PySem.Spec PyProof.Rows
/-- {**a, **b}, keys ints and texts -/
def tMerge2 (ta tb : TE) : TE := fun σ H Q => ∀ p, H p = none → ta σ (upd H p (.dK [])) fun x H1 => ∃ (a : Addr) (kvs : List (Key × V)), x = .ref a ∧ a ≠ p ∧ H1 p = some (.dK []) ∧ H1 a = some (.dK kvs) ∧ kvs.length ≤ 1000 ∧
  tb σ (upd H1 p (.dK (mergeK [] kvs))) fun y H2 => ∃ (b : Addr) (more : List (Key × V)), y = .ref b ∧ b ≠ p ∧ H2 p = some (.dK (mergeK [] kvs)) ∧ H2 b = some (.dK more) ∧ more.length ≤ 1000 ∧ Q (.ref p) (upd H2 p (.dK (mergeK (mergeK [] kvs) more)))
def mStep (d : Addr) (m : Value) : Sem Unit := (((holding [.ref d, m] (mergeMapping d m false)).onRaise fun x => do let _ ← holding [.ref d, m, x] (runValue (.builtin "proto.let_go" {}))).tryCatch fun e => do
        if ← isInstance e (.type "AttributeError") then
          rule "dict.display.not-a-mapping"; raiseError "TypeError" s!"'{← typeNameOf m}' object is not a mapping"
        throw e).onRaise fun x => do let _ ← holding [.ref d, x] (runValue (.builtin "proto.let_go" {}))
theorem display2 (va vb : Sem Value) : dictDisplay [(none, va), (none, vb)] = (do
    let d ← alloc { cls := .type "dict", data := .dict #[] }
    let m ← holding [.ref d] va
    mStep d m
    let m2 ← holding [.ref d] vb
    mStep d m2
    pure (.ref d)) := by
  unfold dictDisplay mStep
  simp only [List.forIn_cons, List.forIn_nil, List.isEmpty_nil, if_true, pure_bind, bind_assoc]
theorem wp_mStep {prog : Program} {w : World} {K : Type} [DecidableEq K] {knd : KeyKind prog w K} {A : Around} {E : Value → Shared → Prop} {s : Shared} {d o : Addr} {kvs more : List (K × Value)} {Q : Unit → Shared → Prop} (hdo : d ≠ o) (hoS : (o == sysModules) = false)
    (hd : s.heap.DictOf knd d kvs) (ho : s.heap.DictOf knd o more)
    (hQ : ∀ h', h'.DictOf knd d (merged kvs more) → h'.DictOf knd o more → Heap.SameBut d s.heap h' → Q () { s with heap := h' })
    (hsz : kvs.length + more.length ≤ sizeLine) : wpAny (model prog w) A (mStep d (.ref o)) Q E s := by
  unfold mStep
  exact wpAny_onRaise (wpAny_tryCatch (wpAny_onRaise (wpAny_holding (wpAny_mergeMapping hdo hoS hd ho hQ hsz))))
theorem pe_merge2 {X : Cx} {pos : Pos} {va vb : Expr} {ta tb : TE} (ha : PE X va ta) (hb : PE X vb tb) : PE X (.Dict [none, none] [va, vb] pos) (tMerge2 ta tb) := by
  refine ⟨fun pins s σ H Q I q => ?_⟩
  have hn := I.hok.fresh (Nat.le_refl s.heap.objs.size)
  have I1 := I.laid (a := s.heap.objs.size) (o := .dK []) (h' := s.heap.push { cls := .type "dict", data := .dict #[] }) (t' := s.toks) (fun _ _ q => Heap.get?_push_of_some _ q) (Nat.le_refl _) (dk_empty s.heap I.big)
  have q0 := q _ hn
  rw [arm_eval_Dict]
  show wpAny _ _ (standAt pos >>= fun _ => dictDisplay [(none, (do let x ← eval va X.env; standAt pos; pure x)), (none, (do let x ← eval vb X.env; standAt pos; pure x))]) _ _ _
  rw [display2]
  refine wpAny_bind (wpAny_standAt (wpAny_bind (wpAny_alloc ?_)))
  refine wpAny_bind (wpAny_holding (wpAny_bind (thn (ha.run pins _ σ _ _ I1 q0) fun u s1 ⟨x, H1, I2, rx, a, kvs, ex, nap, ep, ea, hl, q1⟩ => wpAny_bind (wpAny_standAt (wpAny_pure ?_)))))
  subst ex
  cases rx
  obtain ⟨z1, hd1, vs0, r0, dd0⟩ := dk_of I2.hok ep
  cases r0
  obtain ⟨z2, hd2, vs1, r1, dd1⟩ := dk_of I2.hok ea
  refine wpAny_bind (wp_mStep (Ne.symm nap) hd2 dd0 dd1 (fun h' dd' _ hs => ?_) (by rw [← r1.length]; show 0 + kvs.length ≤ sizeLine; rw [sizeLine_eq]; omega))
  have he : ∃ q, h'.get? s.heap.objs.size = some q := let ⟨q, _, _, hq, _⟩ := dd'; ⟨q, hq⟩
  have lz : (mergeK [] kvs).length ≤ 1000 := by
    have h1 := length_mergeK kvs []
    rw [List.length_nil] at h1; omega
  have I3 := d_write (t' := s1.toks) I2 (by rw [ep]; exact True.intro) hs he (dk_new (by rw [sizeLine_eq]; omega) hd1 (r1.merge .nil) dd')
  refine wpAny_bind (wpAny_holding (wpAny_bind (thn (hb.run pins _ σ _ _ I3 q1) fun u2 s2 ⟨y, H2, I4, ry, b, more, ey, nbp, ep2, eb, hl2, q2⟩ => wpAny_bind (wpAny_standAt (wpAny_pure ?_)))))
  subst ey
  cases ry
  obtain ⟨z3, hd3, vs3, r3, dd3⟩ := dk_of I4.hok ep2
  obtain ⟨z4, hd4, vs4, r4, dd4⟩ := dk_of I4.hok eb
  refine wpAny_bind (wp_mStep (Ne.symm nbp) hd4 dd3 dd4 (fun h2 dd2 _ hs2 => ?_) (by rw [← r3.length, ← r4.length, sizeLine_eq]; omega))
  have he2 : ∃ q, h2.get? s.heap.objs.size = some q := let ⟨q, _, _, hq, _⟩ := dd2; ⟨q, hq⟩
  have l2 : (mergeK (mergeK [] kvs) more).length ≤ 2000 := by
    have h1 := length_mergeK more (mergeK [] kvs); omega
  have I5 := d_write (t' := s2.toks) I4 (by rw [ep2]; exact True.intro) hs2 he2 (dk_new (by rw [sizeLine_eq]; omega) hd3 (r4.merge r3) dd2)
  exact wpAny_pure ⟨V.ref s.heap.objs.size, _, I5, rfl, q2⟩
end L2
namespace L2
open PySem PySem.Spec PyProof.Rows
section
variable {X : Cx}
/-- name = {..} on one line, the name a local -/
theorem ps_setDc {i : Nat} {y : Str} {py : Pos} {kx vx tg iter : Expr} {ifs : List Expr} {scope : Scope} {own : List (Str × Nat)} {pos spos : Pos} {wi : TI} {g : TG} {tt : TT} {tk tv : TE} (hc : X.calm = true) (hN : X.N.Nodup) (hy : X.N[i]? = some y) (hyl : X.env.scope.names.lookup y = some .local)
    (hsw : swapsWith (.DictComp kx vx [⟨tg, iter, ifs, 0⟩] scope pos) (some (.Name y py)) spos.line X.env = pure true) (hi : PI X tg iter wi) (ok : BlkOk X.N X.env.scope scope own)
    (hg : ∀ (s : Shared) (H : Hp) (C : Addr) (cl : List (Str × Addr)) (fp : List Addr), PG (X.blk s H scope (compEnvC scope cl C X.env) fp) tg g) (ht : ∀ (s : Shared) (H : Hp) (C : Addr) (cl : List (Str × Addr)) (fp : List Addr), PTs (X.blk s H scope (compEnvC scope cl C X.env) fp) ifs tt)
    (hk : ∀ (s : Shared) (H : Hp) (C : Addr) (cl : List (Str × Addr)) (fp : List Addr), PE (X.blk s H scope (compEnvC scope cl C X.env) fp) kx tk)
    (he : ∀ (s : Shared) (H : Hp) (C : Addr) (cl : List (Str × Addr)) (fp : List Addr), PE (X.blk s H scope (compEnvC scope cl C X.env) fp) vx tv) (hs : ∀ x, foldedSetIterable iter X.env x = pure x := by intro _; rfl) :
    PS X (.Assign [.Name y py] (.DictComp kx vx [⟨tg, iter, ifs, 0⟩] scope pos) spos) (tAsg (tDc wi g tt tk tv (own.map (·.2))) (gName i)) := by
  refine ⟨fun pins s σ H D I h => ?_⟩
  rw [exec_Assign_Name_used _ _ _ _ hsw]
  refine wpAny_bind (wpAny_standAt (wpAny_bind ?_))
  show wpAny _ X.A (do let _ ← comprehension (.DictComp kx vx [⟨tg, iter, ifs, 0⟩] scope pos) scope X.env (firstIterPos [⟨tg, iter, ifs, 0⟩] pos) newDict false (eval iter X.env) (some (assign (.Name y py) X.env))) _ _ s
  have h : tDc wi g tt tk tv (own.map (·.2)) σ H (fun x H1 => gName i x σ H1 D.nx) := h
  refine wpAny_bind (thn (dc_core (Qf := fun _ s' => SP X pins D .next s') hc hN I hi ok hg ht hk he hs h fun L C s' m H' I' q hn f => ?_) fun _ s' hq => wpAny_pure (wpAny_pure hq))
  show wpAny _ _ (assign (.Name y py) X.env (.ref L)) _ _ _
  refine wpAny_assign_Name (store_ok2 (v := V.ref L) I' hN hy (.inl hyl) rfl (fun s2 I2 ⟨a, sb, ha⟩ => ?_) (.inr hyl))
  obtain ⟨f0, f1, f2, f3, f4, f5⟩ := f
  have haC : C ≠ a := by
    rcases ha with z | z
    · rw [z]; exact f1
    · exact fun e => f4 y a z e.symm
  refine ⟨m, hn.sameBut sb haC, fun h3 sb3 => ?_⟩
  exact ⟨_, H', I2.turned (t' := s2.toks) (fun b o hb e => (sb3.2 b hb).trans e) f0 f1 f3 f4 f5, q⟩
theorem sw_trueD {kx vx : Expr} {gs : List Comprehension} {scope : Scope} {pos py : Pos} {y : Str} {l : Nat} {env : Env} (hk : env.scope.kind = .function) (hy : env.scope.names.lookup y = some .local) (hl : (py.line == pos.line) = true)
    (ha : (scope.names.any fun (n, k) => n == y && (k == .local || k == .cell)) = false) : swapsWith (.DictComp kx vx gs scope pos) (some (.Name y py)) l env = pure true := by
  have ky : env.kindOf y = some .local := hy
  have hb : env.blockKind = .function := by unfold Env.blockKind; rw [hk]; rfl
  unfold swapsWith
  simp only [hb, ky, ha, Expr.pos, hl]
  rfl
/-- a suite that is never come to -/
theorem pss_no {ss : List Stmt} : PSs X ss (fun _ _ _ => False) := ⟨fun _ _ _ _ _ _ h => h.elim⟩
end
/-- a dict comprehension by an invariant -/
theorem dc_it {J : It} {n : Nat} {G : Hp → Prop} {Y : Nat → Hp → V → Hp → Prop} (w : Walk J n G Y) {g : TG} {tt : TT} {tk tv : TE} {vs : List Nat} {σ : St} {H1 : Hp} {D : Addr} {Qd : Hp → Prop} (Pv : Nat → Hp → Prop) (h0 : Pv 0 (upd H1 D (.dK []))) (hG : ∀ i H, i ≤ n → Pv i H → G H)
    (hs : ∀ i x H H', i < n → Pv i H → Y i H x H' → g x (wipe σ vs) H' fun σ2 H2 => wipe σ2 vs = wipe σ vs ∧ tt σ2 H2 fun b H3 =>
      if b = true then tk σ2 H3 fun y H4 => tv σ2 H4 fun z H5 => ∃ kvs k, y = kV k ∧ H5 D = some (.dK kvs) ∧ kvs.length < sizeLine ∧ Pv (i + 1) (upd H5 D (.dK (putK kvs k z))) else Pv (i + 1) H3) (hd : ∀ H, Pv n H → Qd H) :
    ∃ W : Nat → Nat → Hp → Prop, (∃ m, W 0 m (upd H1 D (.dK []))) ∧ ∀ i m H, W i m H →
      (J.stop i H ∧ Qd H) ∨ (J.go i H ∧ ∃ Nx : Hp → Prop, (∀ H', Nx H' → ∃ m', m' < m ∧ W (i + 1) m' H') ∧ ∀ x H', J.yld i H x H' → g x (wipe σ vs) H' fun σ2 H2 => wipe σ2 vs = wipe σ vs ∧ tt σ2 H2 fun b H3 =>
        if b = true then tk σ2 H3 fun y H4 => tv σ2 H4 fun z H5 => ∃ kvs k, y = kV k ∧ H5 D = some (.dK kvs) ∧ kvs.length < sizeLine ∧ Nx (upd H5 D (.dK (putK kvs k z))) else Nx H3) := by
  refine ⟨fun i m H => m = n - i ∧ i ≤ n ∧ Pv i H, ⟨n, by simp, Nat.zero_le _, h0⟩, ?_⟩
  rintro i m H ⟨rfl, hi, p⟩
  have q := hG i H hi p
  by_cases hlt : i < n
  · refine .inr ⟨w.goes i H hlt q, Pv (i + 1), fun H' p' => ⟨n - (i + 1), by omega, rfl, hlt, p'⟩, fun x H' y => hs i x H H' hlt p (w.yields i H x H' hlt q y)⟩
  · have e : i = n := by omega
    subst e
    exact .inl ⟨w.stops H q, hd H p⟩
end L2
namespace XL
open PySem PySem.Spec PyProof.Rows L2
/-! ### dicts whose keys are tuples of tuples -/
abbrev NE := NestedKey × Addr × V
abbrev NR : List NE → List (NestedKey × Addr × Value) → Prop := Paired fun p q => p.1 = q.1 ∧ p.2.1 = q.2.1 ∧ RelV p.2.2 q.2.2
/-- what stands at a key -/
def atN : List NE → NestedKey → Option V
  | [], _ => none
  | e :: es, k => if e.1 = k then some e.2.2 else atN es k
def dnP (P : Program) (w : World) (a : Addr) (es : List NE) (h : Heap) : Prop := es.length ≤ sizeLine ∧ (a == sysModules) = false ∧
  ∃ ys : List (NestedKey × Addr × Value), NR es ys ∧ ∃ o en ep, h.get? a = some o ∧ o.ExactDict ∧ o.data = .dict en ep ∧ en.toList = ys.map (entryOfKey (nestedKind P w)) ∧ (ys.map (·.1)).Nodup
def DNo (P : Program) (w : World) (a : Addr) (es : List NE) : HO := .ext (dnP P w a es)
/-- the tuple at b is the key k -/
def KyAt (K : PySem.W.Frag) (H : Hp) (k : NestedKey) (b : Addr) : Prop := Dp K H (.ref b) k.data ∧ k.depth ≤ 8
section
variable {P : Program} {w : World} {H : Hp} {h : Heap} {a : Addr} {es : List NE} {ys : List (NestedKey × Addr × Value)}
theorem dn_ok (x : dnP P w a es h) : ObjOk P w H h a (DNo P w a es) := by
  refine ⟨x, ?_, fun h1 h2 q k => ?_⟩
  · obtain ⟨_, _, _, _, o, _, _, e, _⟩ := x
    exact ⟨o, e⟩
  · obtain ⟨z, y, ys, r, o, en, ep, e, c⟩ := q
    exact ⟨z, y, ys, r, o, en, ep, k o e, c⟩
theorem dn_rd (ok : HOk P w H h) (e : Rd H a (DNo P w a es)) : dnP P w a es h := (rd_of ok e).1
theorem NR.val (r : NR es ys) (k : NestedKey) : RelO (atN es k) ((atKey ys k).map (·.2)) := by
  induction r with
  | nil => exact True.intro
  | @cons p q ps qs h t ih =>
    obtain ⟨h1, _, h2⟩ := h
    by_cases e : p.1 = k
    · have e' : q.1 = k := h1.symm.trans e
      have b : atKey (q :: qs) k = some q.2 := by simp [atKey, List.find?_cons, e']
      rw [atN, if_pos e, b]; exact h2
    · have e' : ¬ q.1 = k := fun z => e (h1.trans z)
      have b : atKey (q :: qs) k = atKey qs k := by simp [atKey, List.find?_cons, e']
      rw [atN, if_neg e, b]; exact ih
theorem NR.keys (r : NR es ys) : es.map (·.1) = ys.map (·.1) := by
  induction r with
  | nil => rfl
  | cons h t ih => rw [List.map_cons, List.map_cons, h.1, ih]
theorem NR.ent (r : NR es ys) {i : Nat} {e : NE} (h : es[i]? = some e) : ∃ y, ys[i]? = some y ∧ e.1 = y.1 ∧ e.2.1 = y.2.1 ∧ RelV e.2.2 y.2.2 := by
  induction r generalizing i with
  | nil => simp at h
  | cons h1 t ih =>
    cases i with
    | zero => obtain rfl := Option.some.inj h; exact ⟨_, rfl, h1⟩
    | succ i => exact ih h
end
section
variable {X : Cx} {pins : List (Addr × Obj)} {σ : L2.St} {H : Hp} {s : Shared}
mutual
theorem nk_is (I : Inv X pins σ H s) : ∀ (k : NestedKey) (v : V) (u : Value), Dp X.K H v k.data → RelV v u → NestedIs s.heap k u
  | .none, _, _, h, r => by
    cases h; cases r; exact .none
  | .num i, _, _, h, r => by
    cases h
    obtain ⟨t, rfl⟩ := r
    exact .int i t
  | .text x, _, _, h, r => by
    cases h
    obtain ⟨t, rfl⟩ := r
    exact .text x t
  | .tup ks, _, _, h, r => by
    cases h with
    | tup hs ha =>
      cases r
      obtain ⟨its, rv, ⟨o, ho, hc, n, hd⟩, _⟩ := I.tuple hs
      exact .tup ho hc hd (nk_all I ks _ _ ha rv)
theorem nk_all (I : Inv X pins σ H s) : ∀ (ks : List NestedKey) (vs : List V) (us : List Value), DpAll X.K H vs (NestedKey.datas ks) → Vals vs us → NestedAll s.heap ks us
  | [], _, _, h, r => by
    cases h; cases r; exact .nil
  | k :: ks, _, _, h, r => by
    cases h with
    | cons h1 h2 =>
      cases r with
      | cons r1 r2 => exact .cons (nk_is I k _ _ h1 r1) (nk_all I ks _ _ h2 r2)
end
theorem ky_is (I : Inv X pins σ H s) {k : NestedKey} {b : Addr} (h : KyAt X.K H k b) : (nestedKind X.prog X.w).is s.heap k b := ⟨nk_is I k _ _ h.1 rfl, h.2⟩
theorem dn_of (I : Inv X pins σ H s) {a : Addr} {es : List NE} (e : Rd H a (DNo X.prog X.w a es)) (hk : ∀ x ∈ es, KyAt X.K H x.1 x.2.1) : es.length ≤ sizeLine ∧ (a == sysModules) = false ∧ ∃ ys, NR es ys ∧ s.heap.DictOfH (nestedKind X.prog X.w) a ys := by
  obtain ⟨z, y, ys, r, o, en, ep, h1, h2, h3, h4, h5⟩ := dn_rd I.hok e
  refine ⟨z, y, ys, r, o, en, ep, h1, h2, h3, h4, fun x hx => ?_, h5⟩
  have all : ∀ {l : List NE} {m : List (NestedKey × Addr × Value)}, NR l m → (∀ x ∈ l, KyAt X.K H x.1 x.2.1) → ∀ x ∈ m, (nestedKind X.prog X.w).is s.heap x.1 x.2.1 := by
    intro l m q
    induction q with
    | nil => intro _ x hx; exact nomatch hx
    | @cons p q ps qs hq t ih =>
      intro hk x hx
      rcases List.mem_cons.mp hx with e | hx
      · subst e
        rw [← hq.1, ← hq.2.1]
        exact ky_is I (hk p (List.mem_cons_self ..))
      · exact ih (fun y hy => hk y (List.mem_cons_of_mem _ hy)) x hx
  exact all r hk x hx
def NGet (P : Program) (w : World) (K : PySem.W.Frag) (H : Hp) (a : Addr) (y : V) (o : Option V) : Prop :=
  ∃ es k b, Rd H a (DNo P w a es) ∧ (∀ x ∈ es, KyAt K H x.1 x.2.1) ∧ y = .ref b ∧ KyAt K H k b ∧ o = atN es k
/-- d[y] = v, y a new key -/
def NPut (P : Program) (w : World) (K : PySem.W.Frag) (H : Hp) (a : Addr) (y v : V) (H' : Hp) : Prop :=
  ∃ es k b, H a = some (DNo P w a es) ∧ (∀ x ∈ es, KyAt K H x.1 x.2.1) ∧ y = .ref b ∧ KyAt K H k b ∧ atN es k = none ∧ es.length < sizeLine ∧ H' = upd H a (DNo P w a (es ++ [(k, b, v)]))
theorem nroom {A : Around} (hu : A.units + 10 < cLine) : A.in1.units + 8 < cLine := by show A.units + 1 + 8 < cLine; omega
variable {a : Addr} {y v : V} {u r : Value} {o : Option V} {A : Around} {E : Value → Shared → Prop}
theorem n_typeIs (I : Inv X pins σ H s) (g : NGet X.prog X.w X.K H a y o) : s.TypeIs (.ref a) "dict" := by
  obtain ⟨es, k, b, e, hk, _⟩ := g
  obtain ⟨_, _, ys, _, dd⟩ := dn_of I e hk
  exact dd.typeIs
theorem n_getItem {Q : Value → Shared → Prop} (hu : A.units + 10 < cLine) (I : Inv X pins σ H s) (g : NGet X.prog X.w X.K H a y (some v)) (ry : RelV y u) (h : ∀ w' s', Inv X pins σ H s' → RelV v w' → Q w' s') :
    wpAny (model X.prog X.w) A (getItem (.ref a) u) Q E s := by
  obtain ⟨es, k, b, e, hk, rfl, kb, l⟩ := g
  cases (show u = Value.ref b from ry)
  obtain ⟨z, hd, ys, rel, dd⟩ := dn_of I e hk
  obtain ⟨w', hw, rw'⟩ := RelO.some_of (v := v) (o := (atKey ys k).map (·.2)) (by rw [l]; exact rel.val k)
  obtain ⟨p, hp, hp2⟩ := Option.map_eq_some_iff.mp hw
  refine wpAny_getItem_heap (nroom hu) (ky_is I kb) dd hp ?_
  rw [hp2]
  exact h w' _ (I.tok _) rw'
theorem n_in {Q : Value → Shared → Prop} (hu : A.units + 10 < cLine) (I : Inv X pins σ H s) (g : NGet X.prog X.w X.K H a y o) (ry : RelV y u) (h : ∀ s', Inv X pins σ H s' → Q (.bool o.isSome) s') :
    wpAny (model X.prog X.w) A (compareOp .In u (.ref a)) Q E s := by
  obtain ⟨es, k, b, e, hk, rfl, kb, l⟩ := g
  cases (show u = Value.ref b from ry)
  obtain ⟨z, hd, ys, rel, dd⟩ := dn_of I e hk
  refine wpAny_in_heap (nroom hu) (ky_is I kb) hd dd ?_
  have q := (rel.val k).isSome_eq
  rw [Option.isSome_map] at q
  rw [← q, ← l]
  exact h _ (I.tok _)
theorem n_notIn {Q : Value → Shared → Prop} (hu : A.units + 10 < cLine) (I : Inv X pins σ H s) (g : NGet X.prog X.w X.K H a y o) (ry : RelV y u) (h : ∀ s', Inv X pins σ H s' → Q (.bool (!o.isSome)) s') :
    wpAny (model X.prog X.w) A (compareOp .NotIn u (.ref a)) Q E s := by
  obtain ⟨es, k, b, e, hk, rfl, kb, l⟩ := g
  cases (show u = Value.ref b from ry)
  obtain ⟨z, hd, ys, rel, dd⟩ := dn_of I e hk
  refine wpAny_notIn_heap (nroom hu) (ky_is I kb) hd dd ?_
  have q := (rel.val k).isSome_eq
  rw [Option.isSome_map] at q
  rw [← q, ← l]
  exact h _ (I.tok _)
theorem NR.snoc {es : List NE} {ys : List (NestedKey × Addr × Value)} (r : NR es ys) {k : NestedKey} {b : Addr} {v : V} {u : Value} (hn : atN es k = none) (rv : RelV v u) : NR (es ++ [(k, b, v)]) (storedH ys k b u) := by
  have q := (r.val k).isSome_eq
  rw [Option.isSome_map, hn] at q
  unfold storedH
  rw [if_neg (by rw [← q]; exact Bool.false_ne_true)]
  exact Paired.snoc r ⟨rfl, rfl, rv⟩
theorem n_setItem {H' : Hp} {Q : Unit → Shared → Prop} (hu : A.units + 10 < cLine) (I : Inv X pins σ H s) (g : NPut X.prog X.w X.K H a y v H') (ry : RelV y u) (rv : RelV v r) (h : ∀ s', Inv X pins σ H' s' → Q () s') :
    wpAny (model X.prog X.w) A (setItem (.ref a) u r) Q E s := by
  obtain ⟨es, k, b, e, hk, rfl, kb, hn, hl, rfl⟩ := g
  cases (show u = Value.ref b from ry)
  obtain ⟨z, hd, ys, rel, dd⟩ := dn_of I (.inl e) hk
  have hz : ys.length ≤ sizeLine := by rw [← Paired.length rel]; exact z
  refine wpAny_setItem_heap (hsz := hz) (nroom hu) (ky_is I kb) dd fun h' dd' hs => h _ ?_
  obtain ⟨q, en, ep, hq, h2, h3, h4, _, h5⟩ := dd'
  refine d_write I (by rw [e]; exact True.intro) hs ⟨q, hq⟩ (dn_ok ⟨by rw [List.length_append]; exact hl, hd, _, rel.snoc hn rv, q, en, ep, hq, h2, h3, h4, h5⟩)
end
/-! ### readings and rules -/
def tNGet (P : Program) (w : World) (K : PySem.W.Frag) (td ty : TE) : TE := fun σ H Q => td σ H fun x H1 => ty σ H1 fun y H2 => ∃ a v, x = .ref a ∧ NGet P w K H2 a y (some v) ∧ Q v H2
def tNIn (P : Program) (w : World) (K : PySem.W.Frag) (ty td : TE) : TE := fun σ H Q => ty σ H fun y H1 => td σ H1 fun x H2 => ∃ a o, x = .ref a ∧ NGet P w K H2 a y o ∧ Q (.bl o.isSome) H2
def tNNotIn (P : Program) (w : World) (K : PySem.W.Frag) (ty td : TE) : TE := fun σ H Q => ty σ H fun y H1 => td σ H1 fun x H2 => ∃ a o, x = .ref a ∧ NGet P w K H2 a y o ∧ Q (.bl (!o.isSome)) H2
def sNPut (P : Program) (w : World) (K : PySem.W.Frag) (td ty tv : TE) : TS := fun D σ H => tv σ H fun v H1 => td σ H1 fun x H2 => ty σ H2 fun y H3 => ∃ a H4, x = .ref a ∧ NPut P w K H3 a y v H4 ∧ D.nx σ H4
section
variable {X : Cx} {o i e value : Expr} {pos pos' tpos : Pos} {td ty tv : TE}
theorem pe_nget (hu : X.A.units + 10 < cLine) (ho : PE X o td) (hi : PE X i ty) (hs : NoSl i) : PE X (.Subscript o i pos) (tNGet X.prog X.w X.K td ty) := by
  constructor
  intro pins s σ H Q I h
  refine subD_of PySem.F.slot_dict_getitem.lookup hs (thn (ho.run pins s σ H _ I h) fun u s1 h1 => ?_)
  obtain ⟨x, H1, I1, rx, q1⟩ := h1
  refine thn (hi.run pins s1 σ H1 _ I1 q1) fun iv s2 h2 => ?_
  obtain ⟨y, H2, I2, ry, a, v, rfl, g, q2⟩ := h2
  cases (show u = Value.ref a from rx)
  exact ⟨n_typeIs I2 g, n_getItem hu I2 g ry fun w' s3 J r => ⟨v, H2, J, r, q2⟩⟩
theorem pc_nin (hu : X.A.units + 10 < cLine) (hi : PE X i ty) (ho : PE X o td) : PC X .In i o (tNIn X.prog X.w X.K ty td) := by
  constructor
  intro pins s σ H Q I h
  refine thn (hi.run pins s σ H _ I h) fun iv s1 h1 => ?_
  obtain ⟨y, H1, I1, ry, q1⟩ := h1
  refine thn (ho.run pins s1 σ H1 _ I1 q1) fun u s2 h2 => ?_
  obtain ⟨x, H2, I2, rx, a, ov, rfl, g, q2⟩ := h2
  cases (show u = Value.ref a from rx)
  exact n_in hu I2 g ry fun s3 J => ⟨.bl ov.isSome, H2, J, rfl, q2⟩
theorem pc_nnotin (hu : X.A.units + 10 < cLine) (hi : PE X i ty) (ho : PE X o td) : PC X .NotIn i o (tNNotIn X.prog X.w X.K ty td) := by
  constructor
  intro pins s σ H Q I h
  refine thn (hi.run pins s σ H _ I h) fun iv s1 h1 => ?_
  obtain ⟨y, H1, I1, ry, q1⟩ := h1
  refine thn (ho.run pins s1 σ H1 _ I1 q1) fun u s2 h2 => ?_
  obtain ⟨x, H2, I2, rx, a, ov, rfl, g, q2⟩ := h2
  cases (show u = Value.ref a from rx)
  exact n_notIn hu I2 g ry fun s3 J => ⟨.bl (!ov.isSome), H2, J, rfl, q2⟩
theorem ps_nput (hu : X.A.units + 10 < cLine) (ho : PE X o td) (hi : PE X i ty) (hv : PE X value tv) (hs : swapsWith value (some (.Subscript o i pos')) pos.line X.env = pure false) :
    PS X (.Assign [.Subscript o i pos'] value pos) (sNPut X.prog X.w X.K td ty tv) := by
  constructor
  intro pins s σ H D I h
  refine wpAny_Assign_Subscript (thn (hv.run pins s σ H _ I h) fun r s1 h1 => ?_) hs
  obtain ⟨v, H1, I1, rv, q1⟩ := h1
  refine thn (ho.run pins s1 σ H1 _ I1 q1) fun u s2 h2 => ?_
  obtain ⟨x, H2, I2, rx, q2⟩ := h2
  refine thn (hi.run pins s2 σ H2 _ I2 q2) fun iv s3 h3 => ?_
  obtain ⟨y, H3, I3, ry, a, H4, rfl, g, q3⟩ := h3
  cases (show u = Value.ref a from rx)
  exact n_setItem hu I3 g ry rv fun s4 J => ⟨σ, H4, J, q3⟩
/-- len(d) -/
def rLenN (P : Program) (w : World) (K : PySem.W.Frag) : List V → Hp → VK → Prop := fun xs H Q => ∃ (p : Addr) (es : List NE), xs = [.ref p] ∧ Rd H p (DNo P w p es) ∧ (∀ x ∈ es, KyAt K H x.1 x.2.1) ∧ Q (.int ((es.length : Nat) : Int)) H
theorem call_lenN : CallR X (.builtin "len") (rLenN X.prog X.w X.K) := by
  intro pins s σ H xs us Q I r h
  obtain ⟨p, es, rfl, hp, hk, q⟩ := h
  obtain ⟨u, rfl, rx⟩ := vals1 r
  obtain rfl : u = .ref p := rx
  obtain ⟨z, hd, ys, rel, dd⟩ := dn_of I hp hk
  have hl : es.length = ys.length := Paired.length rel
  refine call_len_dictH hd dd (by rw [← hl]; rw [sizeLine_eq] at z; omega) ?_
  rw [← hl]
  exact ⟨.int ((es.length : Nat) : Int), H, I.tok _, ⟨_, rfl⟩, q⟩
end
end XL
namespace XL
open PySem PySem.Spec PyProof.Rows L2
/-! ### such a dict displayed, gone through, asked by get -/
theorem dn_bare {P : Program} {w : World} (h : Heap) (big : sysModules < h.objs.size) : dnP P w h.objs.size [] (h.push { cls := .type "dict", data := .dict #[] }) := by
  refine ⟨Nat.zero_le _, ?_, [], .nil, _, #[], 0, Heap.get?_push_size _ rfl, ⟨rfl, rfl, rfl⟩, rfl, rfl, List.nodup_nil⟩
  rw [beq_eq_false_iff_ne]
  intro z
  rw [z] at big
  exact absurd big (Nat.lt_irrefl _)
def tNDisp (P : Program) (w : World) (K : PySem.W.Frag) (trs : List (TE × TE)) : TE := fun σ H Q => ∀ p, H p = none → tPairs trs σ (upd H p (DNo P w p [])) fun ps H2 =>
  H2 p = some (DNo P w p []) ∧ ∃ k b v, ps = [(.ref b, v)] ∧ KyAt K H2 k b ∧ Q (.ref p) (upd H2 p (DNo P w p [(k, b, v)]))
theorem pe_ndisp {X : Cx} {pos : Pos} {ke ve : Expr} {trs : List (TE × TE)} (hu : X.A.units + 10 < cLine) (hp : PPs X pos [some ke] [ve] trs) : PE X (.Dict [some ke] [ve] pos) (tNDisp X.prog X.w X.K trs) := by
  constructor
  intro pins s σ H Q I q
  have fresh := I.hok.fresh (Nat.le_refl s.heap.objs.size)
  have I1 := I.laid (t' := s.toks) (fun _ _ z => Heap.get?_push_of_some _ z) (Nat.le_refl _) (dn_ok (P := X.prog) (w := X.w) (H := upd H s.heap.objs.size (DNo X.prog X.w s.heap.objs.size [])) (dn_bare s.heap I.big))
  have shape := zip_pairTrees [some ke] [ve] X.env pos rfl rfl
  have one : (pairTrees [some ke] [ve] X.env pos).length = 1 := rfl
  rw [arm_eval_Dict, shape, dictDisplay_pairs _ (fun z => by rw [z] at one; cases one) (by rw [one]; decide)]
  refine wpAny_bind (wpAny_standAt (wpAny_bind (wpAny_subDictH (knd := nestedKind X.prog X.w) (show X.A.units + 8 < cLine by omega) (by rw [one]; decide) ?_)))
  refine thn (hp.run pins _ σ _ _ I1 (q _ fresh)) fun vs s2 h2 => ?_
  obtain ⟨ps, H2, I2, rel, e, k, b, v, rfl, kb, q2⟩ := h2
  cases rel with
  | @cons p0 p1 _ _ r t =>
    cases t
    obtain ⟨kv, vv⟩ := p1
    obtain rfl : kv = Value.ref b := r.1
    obtain ⟨z, hd, ys, r0, dd⟩ := dn_of I2 (.inl e) (fun x hx => nomatch hx)
    cases r0
    refine ⟨[(k, b, vv)], ⟨rfl, rfl, ky_is I2 kb, True.intro⟩, dd, fun h' tk dd' sb => wpAny_pure ⟨.ref s.heap.objs.size, _, ?_, rfl, q2⟩⟩
    obtain ⟨ob, en, ep, hq, x1, x2, x3, _, x5⟩ := dd'
    exact d_write I2 (by rw [e]; exact True.intro) sb ⟨ob, hq⟩ (dn_ok ⟨by show 1 ≤ sizeLine; decide, hd, _, .cons ⟨rfl, rfl, r.2⟩ .nil, ob, en, ep, hq, x1, x2, x3, x5⟩)
theorem frzN {X : Cx} {pins : List (Addr × Obj)} {σ : L2.St} {H : Hp} {s : Shared} {d : Addr} {o : Obj} {es : List NE} (I : Inv X pins σ H s) (h : H d = some (.frz o (DNo X.prog X.w d es))) :
    (d == sysModules) = false ∧ s.heap.get? d = some o ∧ o.ExactDict ∧ ∃ (en : Array DictEntry) (ep : Nat), o.data = .dict en ep ∧ en.size = es.length ∧
      ∀ (i : Nat) (e : NE), es[i]? = some e → ∃ q : DictEntry, en[i]? = some q ∧ q.key = .ref e.2.1 := by
  obtain ⟨g0, ⟨z, y, ys, r, ob, en, ep, g1, x1, x2, x3, x5⟩, _⟩ := (show ObjOk X.prog X.w H s.heap d (.frz o (DNo X.prog X.w d es)) from I.hok d _ h)
  rw [g0] at g1
  obtain rfl := Option.some.inj g1
  have sz : en.size = ys.length := by
    have := congrArg List.length x3
    rw [List.length_map, Array.length_toList] at this
    exact this
  refine ⟨y, g0, x1, en, ep, x2, by rw [sz]; exact (Paired.length r).symm, fun i e he => ?_⟩
  obtain ⟨u, hu, _, e2, _⟩ := r.ent he
  refine ⟨entryOfKey (nestedKind X.prog X.w) u, ?_, by show Value.ref u.2.1 = _; rw [e2]⟩
  rw [← Array.getElem?_toList, x3, List.getElem?_map, hu]; rfl
def Itn (P : Program) (w : World) (d : Addr) (o : Obj) (es : List NE) : It :=
  ⟨fun i H => H d = some (.frz o (DNo P w d es)) ∧ i < es.length, fun i H x H' => H' = H ∧ ∃ e, es[i]? = some e ∧ x = .ref e.2.1, fun i H => H d = some (.frz o (DNo P w d es)) ∧ es.length ≤ i⟩
theorem turn_n {P : Program} {w : World} {K : PySem.W.Frag} {tg : Expr} {d : Addr} {o : Obj} {en : Array DictEntry} {ep : Nat} {es : List NE} (it : Addr) (hod : o.data = .dict en ep) : Turn P w K tg (Itn P w d o es) [it] it (fun i h => h.IsKeyIter it d i es.length ep) where
  mem := List.mem_singleton.mpr rfl
  obj := fun i h st b hb => by
    obtain rfl := List.mem_singleton.mp hb
    obtain ⟨oi, e, c, dd⟩ := st
    exact ⟨oi, e, fun v z => by rw [dd] at z; cases z⟩
  keep := fun i h h' st k => st.at fun oi e => k it (List.mem_singleton.mpr rfl) oi e
  item := by
    intro X hP hw hK hc i pins s σ H E I hf st hg
    subst hP hw hK
    obtain ⟨f0, f1, f2, f3, f4, f5⟩ := hf it (List.mem_singleton.mpr rfl)
    obtain ⟨sm, g0, x1, en', ep', x2, sz, ent⟩ := frzN I hg.1
    obtain ⟨rfl, rfl⟩ := dict_ep hod x2
    obtain ⟨q, hq, hk⟩ := ent i (es[i]'hg.2) (List.getElem?_eq_getElem hg.2)
    refine next_key_item st g0 x2 sz hq fun h' st' sb => ?_
    have J : Inv X pins σ H { s with heap := h' } := I.turned (t' := s.toks) (fun b ob hb e => (sb.2 b hb).trans e) f0 f1 f3 f4 f5
    obtain ⟨oi, y1, y2, y3⟩ := id st'
    exact ⟨q.key, rfl, go_of (s := { s with heap := h' }) y1 y2 y3 (by decide) ⟨.ref (es[i]'hg.2).2.1, H, J, hk, ⟨rfl, _, List.getElem?_eq_getElem hg.2, rfl⟩, st', fun b hb => (hf b hb).1⟩⟩
  done := by
    intro X hP hw hK hc i pins s σ H E I hf st hg
    subst hP hw hK
    obtain ⟨f0, f1, f2, f3, f4, f5⟩ := hf it (List.mem_singleton.mpr rfl)
    obtain ⟨sm, g0, x1, en', ep', x2, sz, ent⟩ := frzN I hg.1
    obtain ⟨rfl, rfl⟩ := dict_ep hod x2
    exact next_key_end (I.ok.hd hc) st g0 x2 sz hg.2 fun h' eb => ⟨rfl, I.turned (t' := s.toks) (fun b ob hb e => eb b ob hb e) f0 f1 f3 f4 f5⟩
  self := fun A i s Q E st h => (turn_keysT (P := P) (w := w) (K := K) (tg := tg) (d := d) (o := o) (kvs := es.map fun _ => ([], V.non)) it hod).self A i s Q E (by rw [List.length_map]; exact st) h
theorem pe_ngetK {X : Cx} {o i : Expr} {pos : Pos} {td ty : TE} {P : Program} {w : World} {K : PySem.W.Frag} (hP : X.prog = P) (hw : X.w = w) (hK : X.K = K) (hu : X.A.units + 10 < cLine) (ho : PE X o td) (hi : PE X i ty) (hs : NoSl i) : PE X (.Subscript o i pos) (tNGet P w K td ty) := by
  subst hP hw hK
  exact pe_nget hu ho hi hs
def iNKeys (P : Program) (w : World) (td : TE) : TI := fun σ H R => td σ H fun x H1 => ∃ d o es, x = .ref d ∧ H1 d = some (.frz o (DNo P w d es)) ∧ R (Itn P w d o es) H1
theorem pi_nkeys {X : Cx} {tg e : Expr} {td : TE} (he : PE X e td) : PI X tg e (iNKeys X.prog X.w td) := by
  constructor
  intro pins s σ H R I h
  refine thn (he.run pins s σ H _ I h) fun u s1 hx => ?_
  obtain ⟨x, H1, I1, rx, d, o, es, rfl, hd, q⟩ := hx
  obtain rfl : u = Value.ref d := rx
  obtain ⟨sm, g0, x1, en, ep, x2, sz, ent⟩ := frzN I1 hd
  refine iter_keys sm g0 x1 x2 (pi_one (tk := s1.toks) I1 _ (turn_n _ x2) ⟨_, Heap.get?_push_size _ rfl, rfl, ?_⟩ q)
  rw [sz] <;> rfl
theorem walk_n {P : Program} {w : World} {d : Addr} {o : Obj} {es : List NE} : Walk (Itn P w d o es) es.length (fun H => H d = some (.frz o (DNo P w d es))) (fun i H x H' => H' = H ∧ ∃ e, es[i]? = some e ∧ x = .ref e.2.1) :=
  ⟨fun _ _ hi q => ⟨q, hi⟩, fun _ q => ⟨q, Nat.le_refl _⟩, fun _ _ _ _ _ _ y => y⟩
end XL
namespace XL
open PySem PySem.Spec PyProof.Rows L2
/-! ### {k: v for x in xs}, the keys tuples of tuples: no test, new keys only -/
def tDcN (P : Program) (w : World) (K : PySem.W.Frag) (wi : TI) (g : TG) (tk tv : TE) (vs : List Nat) : TE := fun σ H Q => wi σ H fun J H1 => ∀ D, H1 D = none →
  ∃ Wn : Nat → Nat → Hp → Prop, (∃ m, Wn 0 m (upd H1 D (DNo P w D []))) ∧ ∀ i m G, Wn i m G → (J.stop i G ∧ Q (.ref D) G) ∨
    (J.go i G ∧ ∀ x G1, J.yld i G x G1 → g x (wipe σ vs) G1 fun τ G2 => wipe τ vs = wipe σ vs ∧ tk τ G2 fun y G3 => tv τ G3 fun z G4 => ∃ G5 m', NPut P w K G4 D y z G5 ∧ m' < m ∧ Wn (i + 1) m' G5)
section
variable {X : Cx} {pins : List (Addr × Obj)} {σ : L2.St} {H : Hp} {s : Shared}
theorem n_dictSet {H' : Hp} {a : Addr} {y v : V} {u r : Value} {E : Value → Shared → Prop} {Q : Unit → Shared → Prop} (hu : X.A.units + 10 < cLine) (I : Inv X pins σ H s) (g : NPut X.prog X.w X.K H a y v H') (ry : RelV y u) (rv : RelV v r) (h : ∀ s', Inv X pins σ H' s' → Q () s') :
    wpAny (model X.prog X.w) X.A (dictSet a u r) Q E s := by
  obtain ⟨es, k, b, e, hk, rfl, kb, hn, hl, rfl⟩ := g
  cases (show u = Value.ref b from ry)
  obtain ⟨z, hd, ys, rel, dd⟩ := dn_of I (.inl e) hk
  have hz : ys.length ≤ sizeLine := by rw [← Paired.length rel]; exact z
  refine wpAny_dictSet_heap (hsz := hz) (show X.A.units + 8 < cLine by omega) (ky_is I kb) dd fun h' dd' hs => h _ ?_
  obtain ⟨q, en, ep, hq, h2, h3, h4, _, h5⟩ := dd'
  exact d_write I (by rw [e]; exact True.intro) hs ⟨q, hq⟩ (dn_ok ⟨by rw [List.length_append]; exact hl, hd, _, rel.snoc hn rv, q, en, ep, hq, h2, h3, h4, h5⟩)
variable {kx vx tg iter : Expr} {scope : Scope} {own : List (Str × Nat)} {wi : TI} {g : TG} {tk tv : TE}
/-- what the parts of such a comprehension are -/
structure DcParts (X : Cx) (tg kx vx iter : Expr) (scope : Scope) (own : List (Str × Nat)) (wi : TI) (g : TG) (tk tv : TE) : Prop where
  u : X.A.units + 10 < cLine
  calm : X.calm = true
  nd : X.N.Nodup
  walk : PI X tg iter wi
  blk : BlkOk X.N X.env.scope scope own
  tgt : ∀ (s : Shared) (H : Hp) (C : Addr) (cl : List (Str × Addr)) (fp : List Addr), PG (X.blk s H scope (compEnvC scope cl C X.env) fp) tg g
  key : ∀ (s : Shared) (H : Hp) (C : Addr) (cl : List (Str × Addr)) (fp : List Addr), PE (X.blk s H scope (compEnvC scope cl C X.env) fp) kx tk
  val : ∀ (s : Shared) (H : Hp) (C : Addr) (cl : List (Str × Addr)) (fp : List Addr), PE (X.blk s H scope (compEnvC scope cl C X.env) fp) vx tv
  fold : ∀ x, foldedSetIterable iter X.env x = pure x
theorem dcn_core {Q : VK} {pos pos' : Pos} {use : Option (Value → Sem Unit)} {Qf : Value → Shared → Prop} (p : DcParts X tg kx vx iter scope own wi g tk tv) (I : Inv X pins σ H s) (h : tDcN X.prog X.w X.K wi g tk tv (own.map (·.2)) σ H Q)
    (after : ∀ D C s' m G, Inv X pins σ G s' → Q (.ref D) G → s'.heap.Ns C m → FpOk X pins G C → compPost (model X.prog X.w) X.A X.xe use Qf (.ref D) C (.ok .next) s') :
    wpAny (model X.prog X.w) X.A (comprehension (.DictComp kx vx [⟨tg, iter, [], 0⟩] scope pos) scope X.env pos' newDict false (eval iter X.env) use) Qf X.xe s := by
  have cells : ∀ y ∈ scope.names, y.2 = .free → ∃ c, X.env.cells.lookup y.1 = some c := fun y hy e => (p.blk.free y hy e).elim (fun k => I.ok.has _ (.inl k)) fun k => I.ok.has _ (.inr k)
  refine wpAny_comprehension_free (use := use) rfl p.fold (closure_ok cells) p.blk.kind (fun y hy e => by rw [p.blk.uniq y hy, e]) ?_
  refine thn (p.walk.run pins s σ H _ I h) fun _ _ hx => thn hx fun _ s2 h2 => ?_
  obtain ⟨it, fp, tn, J, H2, rfl, I2, T, st2, f2, q⟩ := h2
  refine wpAny_newObj_type (newEnv_comp ?_)
  have hDn : H2 s2.heap.objs.size = none := I2.hok.fresh (Nat.le_refl _)
  obtain ⟨Wn, ⟨m0, w0⟩, turn⟩ := q _ hDn
  have fit : ∀ b ∈ fp, b < s2.heap.objs.size := fun b hb => (T.obj _ _ st2 b hb).elim fun _ z => Heap.lt_size z.1
  obtain ⟨H3, eH3⟩ : ∃ H3, H3 = upd H2 s2.heap.objs.size (DNo X.prog X.w s2.heap.objs.size []) := ⟨_, rfl⟩
  have I3 : Inv X pins σ H3 ({ s2 with heap := s2.heap.push { cls := .type "dict", data := .dict #[] } } : Shared) := by
    rw [eH3]
    exact I2.laid (t' := s2.toks) (fun _ _ e => Heap.get?_push_of_some _ e) (Nat.le_refl _) (dn_ok (dn_bare s2.heap I2.big))
  rw [← eH3] at w0
  generalize hD : s2.heap.objs.size = D at *
  obtain ⟨s3, e3⟩ : ∃ s3 : Shared, s3 = ({ s2 with heap := s2.heap.push { cls := .type "dict", data := .dict #[] } } : Shared) := ⟨_, rfl⟩
  rw [← e3] at I3
  have h3 : s3.heap = s2.heap.push { cls := .type "dict", data := .dict #[] } := by rw [e3]
  have f3 : ∀ b ∈ fp, FpOk X pins H3 b ∧ b < s3.heap.objs.size := fun b hb => by
    have lt := fit b hb
    refine ⟨⟨?_, (f2 b hb).2⟩, by rw [h3, Heap.size_push]; exact Nat.lt_succ_of_lt (by rw [hD]; exact lt)⟩
    rw [eH3, upd_ne (Nat.ne_of_lt lt)]; exact (f2 b hb).1
  have st3 : tn 0 s3.heap := T.keep _ _ _ st2 fun _ _ o e => by rw [h3]; exact Heap.get?_push_of_some _ e
  obtain ⟨ce, hce⟩ : ∃ ce, ce = compEnvC scope (cellsFrom (s3.heap.objs.size + 1) scope.names (cloFrom X.env.cells scope.names [])) s3.heap.objs.size X.env := ⟨_, rfl⟩
  have I4 := block_start I3 p.blk p.nd f3
  have pg := p.tgt s3 H3 s3.heap.objs.size (cellsFrom (s3.heap.objs.size + 1) scope.names (cloFrom X.env.cells scope.names [])) fp
  have pk := p.key s3 H3 s3.heap.objs.size (cellsFrom (s3.heap.objs.size + 1) scope.names (cloFrom X.env.cells scope.names [])) fp
  have pv := p.val s3 H3 s3.heap.objs.size (cellsFrom (s3.heap.objs.size + 1) scope.names (cloFrom X.env.cells scope.names [])) fp
  have cL : ce.locals = s3.heap.objs.size := by rw [hce]; rfl
  rw [← hce] at I4 pg pk pv
  obtain ⟨s4, e4⟩ : ∃ s4 : Shared, s4 = ({ s3 with heap := pushCells (s3.heap.push { cls := .type "dict", data := .dict #[] }) scope.names } : Shared) := ⟨_, rfl⟩
  have I4' : Inv (X.blk s3 H3 scope ce fp) [] (wipe σ (own.map (·.2))) H3 s4 := by rw [e4]; exact I4
  have st4 : tn 0 s4.heap := T.keep _ _ _ st3 fun _ _ o e => by rw [e4]; exact pushCells_keeps _ _ _ _ (Heap.get?_push_of_some _ e)
  have quiet : ∀ {τ : L2.St} {G : Hp} {t : Shared}, Inv (X.blk s3 H3 scope ce fp) [] τ G t → (∀ b ∈ fp, G b = none) → ∀ b ∈ fp, FpOk (X.blk s3 H3 scope ce fp) [] G b := fun I' hn b hb =>
    ⟨hn b hb, (I'.ok.exf b hb).1, I'.ok.exfs b hb, .inl hb, fun x c e => (I'.ok.exf b hb).2 x c e, fun z hz => absurd (show z ∈ ([] : List (Addr × Obj)) ++ [] from hz) (by simp)⟩
  have loop : codeAny (model X.prog X.w) X.A (.compLoop (.DictComp kx vx [⟨tg, iter, [], 0⟩] scope pos) 0 (.ref it) (.ref D) ce) (compPost (model X.prog X.w) X.A X.xe use Qf (.ref D) ce.locals) s4 := by
    refine compLoop_anyD (fun n t => ∃ i G, Inv (X.blk s3 H3 scope ce fp) [] (wipe σ (own.map (·.2))) G t ∧ tn i t.heap ∧ (∀ b ∈ fp, G b = none) ∧ Wn i n G) ?_ m0 ⟨0, H3, I4', st4, fun b hb => (f3 b hb).1.1, w0⟩
    rintro n s5 ⟨i, G, I5, st5, n5, w5⟩
    rcases turn i n G w5 with ⟨stop, qq⟩ | ⟨go, step⟩
    · refine thnF (T.done (X.blk s3 H3 scope ce fp) rfl rfl rfl p.calm i [] s5 _ G (fun _ _ => False) I5 (quiet I5 n5) st5 stop) fun r s6 ⟨hr, I6⟩ => ?_
      rw [hr]
      have nC : G ce.locals = none := I6.free
      obtain ⟨m, hm, _⟩ := I6.loc
      refine after D ce.locals s6 m G (I3.call' (ch := fp) I6.os I6.base I6.hok I6.bare fun b hb => ?_) qq hm ?_
      · have f := (f3 b hb).1
        exact ⟨f.2.2.2.1, f.2.1, f.2.2.2.2.1, f.2.2.2.2.2⟩
      · rw [cL] at nC ⊢
        exact I3.fpOk (Nat.le_refl _) nC
    · refine thnF (T.item (X.blk s3 H3 scope ce fp) rfl rfl rfl p.calm i [] s5 _ G (fun _ _ => False) I5 (quiet I5 n5) st5 go) fun r s6 ⟨u, hr, h6⟩ => ?_
      rw [hr]
      refine thnF h6 fun _ s7 ⟨x, G1, I7, r7, y7, st7, n7⟩ => ?_
      refine thnF (pg.run _ s7 _ G1 x u _ (I7.pinned (quiet I7 n7) (T.obj _ _ st7)) r7 (step x G1 y7)) fun _ s8 ⟨τ, G2, I8, hw, q8⟩ => ?_
      refine thnF ((pts_nil (X := X.blk s3 H3 scope ce fp)).run _ s8 τ G2 (fun b G3 => b = true ∧ G3 = G2) I8 ⟨rfl, rfl⟩) fun b s9 ⟨G3, I9, hb, e9⟩ => ?_
      subst hb e9
      rw [if_pos rfl]
      refine thnF (pk.run _ s9 τ G3 _ I9 q8) fun _ s10 ⟨y, G4, I10, r10, q10⟩ => ?_
      refine thnF (pv.run _ s10 τ G4 _ I10 q10) fun _ s11 ⟨z, G5, I11, r11, G6, m', put, lt, w6⟩ => ?_
      refine n_dictSet (X := X.blk s3 H3 scope ce fp) p.u I11 put r10 r11 fun s12 I12 => ⟨m', lt, i + 1, G6, ?_, ?_, fun b hb => ?_, w6⟩
      · refine (I12.unpinned (pins := [])).weak (by rw [← hw, wipe_length]) fun j v e => ?_
        rw [← hw] at e
        exact (wipe_some e).1
      · exact T.keep _ _ _ st7 fun b hb o e => (I12.pin (b, o) (List.mem_append_right _ (List.mem_append_right _ (mem_pinsAt hb e)))).1
      · obtain ⟨o, e, _⟩ := T.obj _ _ st7 b hb
        exact (I12.pin (b, o) (List.mem_append_right _ (List.mem_append_right _ (mem_pinsAt hb e)))).2.1
  have fin := codeAny_compStart_dict loop (T.self X.A 0 _ _ _ st4 loop)
  rw [hce, e4] at fin
  rw [e3] at fin
  exact fin
/-- name = {k: v for x in xs}, the name a local -/
theorem ps_setDcN {i : Nat} {y : Str} {py pos spos : Pos} (hy : X.N[i]? = some y) (hyl : X.env.scope.names.lookup y = some .local)
    (hsw : swapsWith (.DictComp kx vx [⟨tg, iter, [], 0⟩] scope pos) (some (.Name y py)) spos.line X.env = pure true) (p : DcParts X tg kx vx iter scope own wi g tk tv) :
    PS X (.Assign [.Name y py] (.DictComp kx vx [⟨tg, iter, [], 0⟩] scope pos) spos) (tAsg (tDcN X.prog X.w X.K wi g tk tv (own.map (·.2))) (gName i)) := by
  refine ⟨fun pins s σ H D I h => ?_⟩
  have h : tDcN X.prog X.w X.K wi g tk tv (own.map (·.2)) σ H (fun x G => gName i x σ G D.nx) := h
  rw [exec_Assign_Name_used _ _ _ _ hsw]
  refine wpAny_bind (wpAny_standAt (wpAny_bind ?_))
  show wpAny _ X.A (do let _ ← comprehension (.DictComp kx vx [⟨tg, iter, [], 0⟩] scope pos) scope X.env (firstIterPos [⟨tg, iter, [], 0⟩] pos) newDict false (eval iter X.env) (some (assign (.Name y py) X.env))) _ _ s
  refine wpAny_bind (thn (dcn_core (Qf := fun _ t => SP X pins D .next t) p I h fun L C t m G I' q hn f => ?_) fun _ t hq => wpAny_pure (wpAny_pure hq))
  obtain ⟨f0, f1, f2, f3, f4, f5⟩ := f
  show wpAny _ _ (assign (.Name y py) X.env (.ref L)) _ _ _
  refine wpAny_assign_Name (store_ok2 (v := V.ref L) I' p.nd hy (.inl hyl) rfl (fun t2 J ⟨a, sb, ha⟩ => ?_) (.inr hyl))
  have haC : C ≠ a := ha.elim (fun z => by rw [z]; exact f1) fun z e => f4 y a z e.symm
  exact ⟨m, hn.sameBut sb haC, fun h3 sb3 => ⟨_, G, J.turned (t' := t2.toks) (fun b o hb e => (sb3.2 b hb).trans e) f0 f1 f3 f4 f5, q⟩⟩
end
end XL
namespace L2
open PySem PySem.Spec PyProof.Rows PySem.W
/-! sorted(xs), xs a list of alike data (lists or tuples): by the order of data -/
theorem paired_each {H : Hp} {K : PySem.W.Frag} {α : Type} {f : α → V} : ∀ {bs : List α} {its : List Value}, Vals (bs.map f) its → EachIs (fun v b => RelV (f b) v) its bs
  | [], _, .nil => .nil
  | _ :: _, _, .cons r t => .cons r (paired_each (H := H) (K := K) t)
theorem each_paired {α : Type} {f : α → V} : ∀ {bs : List α} {its : List Value}, EachIs (fun v b => RelV (f b) v) its bs → Vals (bs.map f) its
  | [], _, .nil => .nil
  | _ :: _, _, .cons r t => .cons r (each_paired t)
def rSortedDt (K : PySem.W.Frag) {α : Type} (enc : α → PyData) : List V → Hp → VK → Prop := fun vs H Q => ∃ (a : Addr) (bs : List (V × α)), vs = [V.ref a] ∧ SqL K H a (bs.map (·.1)) ∧ (∀ b ∈ bs, Dp K H b.1 (enc b.2)) ∧ AllAlike (bs.map fun b => enc b.2) ∧ Sortable (bs.map fun b => enc b.2) ∧ (∀ b ∈ bs, (enc b.2).depth ≤ 60) ∧
  ∀ (p : Addr) (cs : List (V × α)), cs.Perm bs → cs.Pairwise (fun x y => dataLt (enc y.2) (enc x.2) = false) → H p = none → Q (.ref p) (upd H p (.lst (cs.map (·.1))))
theorem cr_sortedDt {X : Cx} {α : Type} {enc : α → PyData} (hu : X.A.units + 64 < cLine) : CallR X (.builtin "sorted") (rSortedDt X.K enc) := by
  intro pins s σ H vs us Q I r h
  obtain ⟨a, bs, rfl, hs, hd, hal, hso, hdp, q⟩ := h
  obtain ⟨its, rv, hl, hz⟩ := I.list hs
  rw [Vals.ref1 r]
  have e : EachIs (fun v (b : V × α) => RelV b.1 v) its bs := paired_each (H := H) (K := X.K) rv
  have er : EachIs (fun v (b : V × α) => ∃ as, Reads s.heap v (enc b.2) as) its bs := (each_mem e).mono fun v b ⟨h1, h2⟩ => Dp.reads I (enc b.2) b.1 v (hd b h2) h1
  refine sorted_data (enc := fun b : V × α => enc b.2) hl.isList e er hal hso (by rw [List.length_map] at hz; exact hz) (fun b hb => by have := hdp b hb; omega) fun out ho eo => ?_
  obtain ⟨ep, he'⟩ := PyProof.Rows.sortedAll_at s.heap its out.toArray
  have tot := sortLe_total (listOrd itemOrd) false fun b : V × α => keyToks (enc b.2)
  have hp : (bs.mergeSort (dataLe false fun b : V × α => enc b.2)).Perm bs := List.mergeSort_perm _ _
  have ho2 : (bs.mergeSort (dataLe false fun b : V × α => enc b.2)).Pairwise (fun x y => dataLe false (fun b : V × α => enc b.2) x y = true) := List.pairwise_mergeSort (fun a b c => tot.trans a b c) (fun a b => by have := tot.total a b; simpa using this) bs
  have hlen : ((bs.mergeSort (dataLe false fun b : V × α => enc b.2)).map (·.1)).length ≤ sizeLine := by
    rw [List.length_map, List.length_mergeSort]
    rw [List.length_map] at hz
    exact hz
  exact ⟨.ref _, upd H (s.heap.objs.size + 1) (.lst ((bs.mergeSort (dataLe false fun b : V × α => enc b.2)).map (·.1))), I.laid (t' := s.toks) (fun _ _ => PyProof.Rows.sortedAll_old) (Nat.le_succ _) ⟨hlen, out, ep, each_paired eo, he'⟩, rfl, q _ _ hp (ho2.imp fun {x y} h => by rw [dataLe_eq] at h; simpa using h) (I.hok.fresh (Nat.le_succ _))⟩
end L2
namespace XL
open PySem PySem.Spec PyProof.Rows L2 PySem.W
/-! ### such a dict's keys, as a list, sorted; the least of a list of data -/
section
variable {X : Cx} {pins : List (Addr × Obj)} {σ : L2.St} {H : Hp} {s : Shared}
theorem dn_raw {d : Addr} {es : List NE} (I : Inv X pins σ H s) (h : Rd H d (DNo X.prog X.w d es)) :
    es.length ≤ sizeLine ∧ (d == sysModules) = false ∧ ∃ (o : Obj) (en : Array DictEntry) (ep : Nat), s.heap.get? d = some o ∧ o.ExactDict ∧ o.data = .dict en ep ∧ en.size = es.length ∧ ∀ (i : Nat) (e : NE), es[i]? = some e → ∃ q : DictEntry, en[i]? = some q ∧ q.key = .ref e.2.1 := by
  obtain ⟨z, y, ys, r, o, en, ep, g1, x1, x2, x3, x5⟩ := dn_rd I.hok h
  have sz : en.size = ys.length := by
    have := congrArg List.length x3
    rw [List.length_map, Array.length_toList] at this
    exact this
  refine ⟨z, y, o, en, ep, g1, x1, x2, by rw [sz]; exact (Paired.length r).symm, fun i e he => ?_⟩
  obtain ⟨u, hu, _, e2, _⟩ := r.ent he
  refine ⟨entryOfKey (nestedKind X.prog X.w) u, ?_, by show Value.ref u.2.1 = _; rw [e2]⟩
  rw [← Array.getElem?_toList, x3, List.getElem?_map, hu]; rfl
/-- the items of a walk over the keys -/
theorem keys_vals {es : List NE} {en : Array DictEntry} {acc : Array Value} (sz : en.size = es.length) (ent : ∀ (i : Nat) (e : NE), es[i]? = some e → ∃ q : DictEntry, en[i]? = some q ∧ q.key = .ref e.2.1)
    (it : ItemsOf (fun i v => ∃ q : DictEntry, en[i]? = some q ∧ v = q.key) acc en.size) : acc.toList = es.map fun e => Value.ref e.2.1 := by
  have hl : acc.toList.length = es.length := by rw [Array.length_toList, it.1]; exact sz
  apply List.ext_getElem?
  intro j
  rw [List.getElem?_map]
  cases hj : acc.toList[j]? with
  | none =>
    have h1 := List.getElem?_eq_none_iff.mp hj
    rw [List.getElem?_eq_none (by omega)]; rfl
  | some v =>
    obtain ⟨q, hq, hv⟩ := it.2 j v (by rw [← Array.getElem?_toList]; exact hj)
    have jl : j < es.length := by rw [← hl]; exact (List.getElem?_eq_some_iff.mp hj).1
    obtain ⟨q', hq', k⟩ := ent j _ (List.getElem?_eq_getElem jl)
    rw [hq] at hq'
    obtain rfl := Option.some.inj hq'
    rw [hv, k, List.getElem?_eq_getElem jl]; rfl
theorem vals_keys : ∀ es : List NE, Vals (es.map fun e => V.ref e.2.1) (es.map fun e => Value.ref e.2.1)
  | [] => .nil
  | _ :: r => .cons rfl (vals_keys r)
/-- list(d) -/
def rLstN (P : Program) (w : World) : List V → Hp → VK → Prop := fun xs H Q => ∃ (d : Addr) (es : List NE), xs = [V.ref d] ∧ Rd H d (DNo P w d es) ∧ ∀ p, H p = none → Q (.ref p) (upd H p (.lst (es.map fun e => V.ref e.2.1)))
theorem call_listN (hc : X.calm = true) : CallR X (.type "list") (rLstN X.prog X.w) := by
  intro pins s σ H xs us Q I r h
  obtain ⟨d, es, rfl, hd, q⟩ := h
  obtain ⟨u, rfl, rx⟩ := vals1 r
  cases rx
  obtain ⟨z, lo, o, en, ep, ho, hx, hdt, sz, ent⟩ := dn_raw I hd
  refine PySem.W.kdl_call (kdl_raw lo hx hdt) (I.ok.hd hc) ho (by omega) fun h' tk acc c kp e it => ?_
  have ea := keys_vals sz ent it
  refine ⟨.ref s.heap.objs.size, _, I.laid (t' := tk) (o := .lst (es.map fun e => V.ref e.2.1)) kp (Nat.le_refl _) ⟨by rw [List.length_map]; exact z, acc.toList, c, by rw [ea]; exact vals_keys es, by rw [Array.toArray_toList]; exact e⟩, rfl, q _ (I.hok.fresh (Nat.le_refl _))⟩
mutual
theorem nk_reads {h : Heap} : ∀ (k : NestedKey) (v : Value) (as : List Addr), Reads h v k.data as → as = []
  | .none, _, _, r => by cases r; rfl
  | .num _, _, _, r => by cases r; rfl
  | .text _, _, _, r => by cases r; rfl
  | .tup ks, _, _, r => by
    cases r with
    | tuple _ _ _ h4 => exact nk_readsAll ks _ _ h4
theorem nk_readsAll {h : Heap} : ∀ (ks : List NestedKey) (vs : List Value) (as : List Addr), ReadsAll h vs (NestedKey.datas ks) as → as = []
  | [], _, _, r => by cases r; rfl
  | k :: ks, _, _, r => by
    cases r with
    | cons h1 h2 => rw [nk_reads k _ _ h1, nk_readsAll ks _ _ h2]; rfl
end
theorem each_keys : ∀ (es : List NE), EachIs (fun v (e : NE) => v = Value.ref e.2.1) (es.map fun e => Value.ref e.2.1) es
  | [] => .nil
  | _ :: r => .cons rfl (each_keys r)
theorem keys_each : ∀ {vs : List Value} {es : List NE}, EachIs (fun v (e : NE) => v = Value.ref e.2.1) vs es → vs = es.map fun e => Value.ref e.2.1
  | _, _, .nil => rfl
  | _, _, .cons h t => by rw [h, keys_each t]; rfl
/-- sorted(d) -/
def rSortedN (P : Program) (w : World) (K : PySem.W.Frag) : List V → Hp → VK → Prop := fun xs H Q => ∃ (d : Addr) (es : List NE), xs = [V.ref d] ∧ Rd H d (DNo P w d es) ∧ (∀ e ∈ es, KyAt K H e.1 e.2.1) ∧ AllAlike (es.map fun e => e.1.data) ∧ Sortable (es.map fun e => e.1.data) ∧ (∀ e ∈ es, e.1.data.depth ≤ 40) ∧
  ∀ (p : Addr) (cs : List NE), cs.Perm es → cs.Pairwise (fun x y => dataLt y.1.data x.1.data = false) → H p = none → Q (.ref p) (upd H p (.lst (cs.map fun e => V.ref e.2.1)))
theorem cr_sortedN (hc : X.calm = true) (hu : X.A.units + 64 < cLine) : CallR X (.builtin "sorted") (rSortedN X.prog X.w X.K) := by
  intro pins s σ H xs us Q I r h
  obtain ⟨d, es, rfl, hd, ky, hal, hso, hdp, q⟩ := h
  obtain ⟨u, rfl, rx⟩ := vals1 r
  cases rx
  obtain ⟨z, lo, o, en, ep, ho, hx, hdt, sz, ent⟩ := dn_raw I hd
  refine PySem.Calls.call_function_entry kind_sorted plain_sorted entry_sorted (args_sorted1 _) ?_
  unfold Builtin.«sorted»
  refine wpAny_bind (m := checkCount "sorted" 1 1 _) (wpAny_pure ?_)
  refine wpAny_bind (kdu_collect (A := X.A.in1) (kdl_raw lo hx hdt) (I.ok.hd hc) ho (by omega) fun h' tk acc kp it => ?_)
  have ea := keys_vals sz ent it
  have el : acc.toList.length ≤ sizeLine := by rw [ea, List.length_map]; exact z
  refine wpAny_bind (wpAny_newList ?_ el)
  have I1 : Inv X pins σ H { s with heap := h', toks := tk } := I.kept kp
  have kp2 : ∀ b o, h'.get? b = some o → (h'.push { cls := .type "list", data := .seq acc.toList.toArray }).get? b = some o := fun b o e => Heap.get?_push_of_some _ e
  have er : EachIs (fun v (e : NE) => ∃ as, Reads (h'.push { cls := .type "list", data := .seq acc.toList.toArray }) v e.1.data as ∧ h'.objs.size ∉ as) acc.toList es := by
    have ek : EachIs (fun v (e : NE) => v = Value.ref e.2.1) acc.toList es := by rw [ea]; exact each_keys es
    refine (each_mem ek).mono fun v e ⟨h1, h2⟩ => ?_
    obtain ⟨as, ra⟩ := Dp.reads I1 e.1.data (.ref e.2.1) v (ky e h2).1 h1
    rw [nk_reads _ _ _ ra] at ra
    exact ⟨[], PyProof.Rows.Reads.keeps kp2 ra, by simp⟩
  have ho2 : (h'.push { cls := .type "list", data := .seq acc.toList.toArray }).get? h'.objs.size = some (seqObj "list" acc.toList.toArray 0) := Heap.get?_push_size _ rfl
  have hk := list_sort_data (prog := X.prog) (w := X.w) (A := X.A.in1) (E := X.xe) (s := { s with heap := h'.push { cls := .type "list", data := .seq acc.toList.toArray }, toks := tk }) (enc := fun e : NE => e.1.data) (Q := fun _ t => EP X pins σ Q (.ref h'.objs.size) t) ho2 (by rw [ea]; exact each_keys es) er hal hso z (fun b hb => by have := hdp b hb; show X.A.units + 1 + 1 + _ < cLine; omega) fun out hl eo => ?_
  · refine wpAny_bind (wpAny_holding (wpAny_mono hk (fun _ t x => ?_) fun _ _ e => e))
    exact wpAny_pure ⟨_, rfl, x⟩
  · have tot := sortLe_total (listOrd itemOrd) false fun b : NE => keyToks b.1.data
    have hp : (es.mergeSort (dataLe false fun b : NE => b.1.data)).Perm es := List.mergeSort_perm _ _
    have hw : (es.mergeSort (dataLe false fun b : NE => b.1.data)).Pairwise (fun x y => dataLe false (fun b : NE => b.1.data) x y = true) := List.pairwise_mergeSort (fun a b c => tot.trans a b c) (fun a b => by have := tot.total a b; simpa using this) es
    have eo' := keys_each eo
    obtain ⟨e2, at2⟩ := sortedHeap_at (vs := acc.toList) (out := out.toArray) ho2
    have old : ∀ b o, h'.get? b = some o → (sortedHeap (h'.push { cls := .type "list", data := .seq acc.toList.toArray }) h'.objs.size acc.toList out.toArray).get? b = some o := fun b o e => by
      rw [sortedHeap_old (Nat.ne_of_lt (Heap.lt_size e)) (by rw [Heap.size_push]; exact Nat.lt_succ_of_lt (Heap.lt_size e))]
      exact kp2 b o e
    refine ⟨.ref h'.objs.size, _, I1.laid (t' := tk) (o := .lst ((es.mergeSort (dataLe false fun b : NE => b.1.data)).map fun e => V.ref e.2.1)) old (Nat.le_refl _) ⟨by rw [List.length_map, hp.length_eq]; exact z, out, e2, by rw [eo']; exact vals_keys _, at2⟩, rfl, q _ _ hp (hw.imp fun {x y} h => by rw [dataLe_eq] at h; simpa using h) (I1.hok.fresh (Nat.le_refl _))⟩
/-- the least of alike data -/
theorem dle_trans {a b d : PyData} (h1 : dataLt b a = false) (h2 : dataLt d b = false) : dataLt d a = false := by
  have tot := sortLe_total (listOrd itemOrd) false keyToks
  have := tot.trans a b d (by show (!dataLt b a) = true; rw [h1]; rfl) (by show (!dataLt d b) = true; rw [h2]; rfl)
  have this : (!dataLt d a) = true := this
  simpa using this
theorem dlt_asymm {a b : PyData} (h : dataLt a b = true) : dataLt b a = false := by
  have tot := sortLe_total (listOrd itemOrd) false keyToks
  have := tot.total a b
  rcases (show (sortLe (listOrd itemOrd) false keyToks a b = true ∨ sortLe (listOrd itemOrd) false keyToks b a = true) by simpa using this) with q | q
  · have q : (!dataLt b a) = true := q
    simpa using q
  · have q : (!dataLt a b) = true := q
    rw [h] at q; cases q
theorem minD_le : ∀ (xs : List PyData) (x : PyData), dataLt x (minD x xs) = false ∧ ∀ y ∈ xs, dataLt y (minD x xs) = false
  | [], x => by
    refine ⟨?_, fun y hy => (by cases hy)⟩
    show dataLt x x = false
    cases h : dataLt x x with
    | false => rfl
    | true =>
      have := dlt_asymm h
      rw [h] at this
      cases this
  | z :: zs, x => by
    have e : minD x (z :: zs) = minD (if dataLt z x then z else x) zs := rfl
    obtain ⟨h1, h2⟩ := minD_le zs (if dataLt z x then z else x)
    rw [← e] at h1 h2
    have hx : dataLt x (minD x (z :: zs)) = false ∧ dataLt z (minD x (z :: zs)) = false := by
      cases hc : dataLt z x with
      | true =>
        rw [hc, if_pos rfl] at h1
        exact ⟨dle_trans h1 (dlt_asymm hc), h1⟩
      | false =>
        rw [hc, if_neg Bool.false_ne_true] at h1
        exact ⟨h1, dle_trans h1 hc⟩
    refine ⟨hx.1, fun y hy => ?_⟩
    rcases List.mem_cons.mp hy with rfl | hy
    · exact hx.2
    · exact h2 y hy
theorem reads_each {H : Hp} {K : PySem.W.Frag} {α : Type} {enc : α → PyData} (I : Inv X pins σ H s) (hK : X.K = K) : ∀ {bs : List (V × α)} {its : List Value}, Vals (bs.map (·.1)) its → (∀ b ∈ bs, Dp K H b.1 (enc b.2)) → ∃ as, ReadsAll s.heap its (bs.map fun b => enc b.2) as
  | [], _, .nil, _ => ⟨_, .nil⟩
  | b :: bs, _, .cons r t, h => by
    subst hK
    obtain ⟨as, ra⟩ := Dp.reads I _ _ _ (h b (List.mem_cons_self ..)) r
    obtain ⟨cs, rc⟩ := reads_each I rfl t fun x hx => h x (List.mem_cons_of_mem _ hx)
    exact ⟨_, .cons ra rc⟩
/-- min(xs) -/
def rMinDt (K : PySem.W.Frag) {α : Type} (enc : α → PyData) : List V → Hp → VK → Prop := fun vs H Q => ∃ (a : Addr) (bs : List (V × α)), vs = [V.ref a] ∧ SqL K H a (bs.map (·.1)) ∧ bs ≠ [] ∧ (∀ b ∈ bs, Dp K H b.1 (enc b.2)) ∧ AlikeAll (bs.map fun b => enc b.2) ∧ PyData.depthAll (bs.map fun b => enc b.2) ≤ 40 ∧
  ∀ b ∈ bs, (∀ b' ∈ bs, dataLt (enc b'.2) (enc b.2) = false) → Q b.1 H
theorem cr_minDt {α : Type} {enc : α → PyData} (hc : X.calm = true) (hu : X.A.units + 64 < cLine) : CallR X (.builtin "min") (rMinDt X.K enc) := by
  intro pins s σ H vs us Q I r h
  obtain ⟨a, bs, rfl, hs, hne, hd, hal, hdp, q⟩ := h
  obtain ⟨its, rv, hl, hz⟩ := I.list hs
  rw [Vals.ref1 r]
  obtain ⟨as, ra⟩ := reads_each I rfl rv hd
  obtain ⟨b0, bt, rfl⟩ : ∃ b0 bt, bs = b0 :: bt := by
    cases bs with
    | nil => exact absurd rfl hne
    | cons b0 bt => exact ⟨b0, bt, rfl⟩
  refine min_list_data (x := enc b0.2) (vs := its.toArray) (as := as) (xs := bt.map fun b => enc b.2) (I.ok.hd hc) hl.isList (by rw [List.toList_toArray]; exact ra) (show AlikeAll (enc b0.2 :: bt.map fun b => enc b.2) from hal) (by have : PyData.depthAll (enc b0.2 :: bt.map fun b => enc b.2) ≤ 40 := hdp; omega) fun i v h' tk cs hv hr k => ?_
  have hv' : its[i]? = some v := by rw [← hv]; simp
  have hi : i < (b0 :: bt).length := by
    have := (List.getElem?_eq_some_iff.mp hv').1
    rw [← Vals.length rv, List.length_map] at this
    exact this
  obtain ⟨b, hb⟩ : ∃ b, (b0 :: bt)[i]? = some b := ⟨_, List.getElem?_eq_getElem hi⟩
  obtain ⟨u2, hu2, ry⟩ := Vals.get (x := b.1) rv (by rw [List.getElem?_map, hb]; rfl)
  rw [hv'] at hu2
  obtain rfl := Option.some.inj hu2
  have bm := List.mem_of_getElem? hb
  obtain ⟨ds, rd⟩ := Dp.reads I _ _ _ (hd b bm) ry
  have e := (Reads.unique (reads_keeps k rd) _ _ hr).1
  refine ⟨b.1, H, I.kept k, ry, q b bm fun b' hb' => ?_⟩
  rw [e]
  have m := minD_le (bt.map fun b => enc b.2) (enc b0.2)
  rcases List.mem_cons.mp hb' with rfl | hb'
  · exact m.1
  · exact m.2 _ (List.mem_map.mpr ⟨b', hb', rfl⟩)
end
end XL
namespace XL
open PySem PySem.Spec PyProof.Rows L2
/-! ### a row of statements parted: what holds behind the first few, and what follows from it -/
section
variable {A1 A2 A3 A4 A5 A6 R : TS} {D : Ends} {σ : L2.St} {H : Hp}
theorem seq1 (Mid : L2.St → Hp → Prop) (h1 : ∀ N : L2.St → Hp → Prop, (∀ σ G, Mid σ G → N σ G) → A1 { D with nx := N } σ H) (h2 : ∀ σ G, Mid σ G → R D σ G) : tSeq A1 R D σ H := h1 (R D) h2
theorem seq2 (Mid : L2.St → Hp → Prop) (h1 : ∀ N : L2.St → Hp → Prop, (∀ σ G, Mid σ G → N σ G) → tSeq A1 A2 { D with nx := N } σ H) (h2 : ∀ σ G, Mid σ G → R D σ G) : tSeq A1 (tSeq A2 R) D σ H := h1 (R D) h2
theorem seq3 (Mid : L2.St → Hp → Prop) (h1 : ∀ N : L2.St → Hp → Prop, (∀ σ G, Mid σ G → N σ G) → tSeq A1 (tSeq A2 A3) { D with nx := N } σ H) (h2 : ∀ σ G, Mid σ G → R D σ G) : tSeq A1 (tSeq A2 (tSeq A3 R)) D σ H := h1 (R D) h2
theorem seq4 (Mid : L2.St → Hp → Prop) (h1 : ∀ N : L2.St → Hp → Prop, (∀ σ G, Mid σ G → N σ G) → tSeq A1 (tSeq A2 (tSeq A3 A4)) { D with nx := N } σ H) (h2 : ∀ σ G, Mid σ G → R D σ G) : tSeq A1 (tSeq A2 (tSeq A3 (tSeq A4 R))) D σ H := h1 (R D) h2
theorem seq5 (Mid : L2.St → Hp → Prop) (h1 : ∀ N : L2.St → Hp → Prop, (∀ σ G, Mid σ G → N σ G) → tSeq A1 (tSeq A2 (tSeq A3 (tSeq A4 A5))) { D with nx := N } σ H) (h2 : ∀ σ G, Mid σ G → R D σ G) : tSeq A1 (tSeq A2 (tSeq A3 (tSeq A4 (tSeq A5 R)))) D σ H := h1 (R D) h2
theorem seq6 (Mid : L2.St → Hp → Prop) (h1 : ∀ N : L2.St → Hp → Prop, (∀ σ G, Mid σ G → N σ G) → tSeq A1 (tSeq A2 (tSeq A3 (tSeq A4 (tSeq A5 A6)))) { D with nx := N } σ H) (h2 : ∀ σ G, Mid σ G → R D σ G) : tSeq A1 (tSeq A2 (tSeq A3 (tSeq A4 (tSeq A5 (tSeq A6 R))))) D σ H := h1 (R D) h2
end
end XL
namespace XL
open PySem PySem.Spec PyProof.Rows L2
/-! ### standings as keys -/
def kyS (s : Sn) : NestedKey := .tup [.tup (s.rs.map .num), .tup (s.bs.map .num), .tup (s.ls.map .num)]
theorem datas_num : ∀ zs : List Int, NestedKey.datas (zs.map .num) = intsD zs
  | [] => rfl
  | z :: zs => by show PyData.int z :: NestedKey.datas (zs.map .num) = .int z :: intsD zs; rw [datas_num zs]
theorem depths_num : ∀ zs : List Int, NestedKey.depthAll (zs.map .num) = 0
  | [] => rfl
  | z :: zs => by show max 0 (NestedKey.depthAll (zs.map .num)) = 0; rw [depths_num zs]; rfl
theorem kyS_data (s : Sn) : (kyS s).data = snD s := by
  unfold kyS
  simp only [NestedKey.data, NestedKey.datas, datas_num]
  rfl
theorem kyS_depth (s : Sn) : (kyS s).depth ≤ 8 := by
  unfold kyS
  simp only [NestedKey.depth, NestedKey.depthAll, depths_num]
  decide
theorem ky_at {K : PySem.W.Frag} {H : Hp} {b : Addr} {s : Sn} (h : Dp K H (.ref b) (snD s)) : KyAt K H (kyS s) b := ⟨by rw [kyS_data]; exact h, kyS_depth s⟩
theorem ints_inj : ∀ {a b : List Int}, intsD a = intsD b → a = b
  | [], [], _ => rfl
  | [], y :: b, h => by cases h
  | x :: a, [], h => by cases h
  | x :: a, y :: b, h => by
    have h' : PyData.int x :: intsD a = .int y :: intsD b := h
    injection h' with h1 h2
    injection h1 with h1
    rw [h1, ints_inj h2]
theorem snD_inj {s t : Sn} (h : snD s = snD t) : s = t := by
  unfold snD at h
  injection h with h
  injection h with h1 h
  injection h with h2 h
  injection h with h3 h
  injection h1 with h1
  injection h2 with h2
  injection h3 with h3
  obtain ⟨a, b, c⟩ := s
  obtain ⟨a', b', c'⟩ := t
  have e1 : a = a' := ints_inj h1
  have e2 : b = b' := ints_inj h2
  have e3 : c = c' := ints_inj h3
  rw [e1, e2, e3]
theorem kyS_inj {s t : Sn} (h : kyS s = kyS t) : s = t := snD_inj (by rw [← kyS_data, ← kyS_data, h])
theorem dp_ref {K : PySem.W.Frag} {H : Hp} {v : V} {s : Sn} (h : Dp K H v (snD s)) : ∃ a : Addr, v = .ref a := by
  cases h with
  | tup _ _ => exact ⟨_, rfl⟩
theorem atN_mem : ∀ {es : List NE} {k : NestedKey} {v : V}, atN es k = some v → ∃ e ∈ es, e.1 = k ∧ e.2.2 = v
  | [], k, v, h => by cases h
  | e :: es, k, v, h => by
    unfold atN at h
    split at h
    · exact ⟨e, List.mem_cons_self .., by assumption, Option.some.inj h⟩
    · obtain ⟨x, hx, a⟩ := atN_mem h
      exact ⟨x, List.mem_cons_of_mem _ hx, a⟩
theorem atN_none : ∀ {es : List NE} {k : NestedKey}, atN es k = none ↔ ∀ e ∈ es, e.1 ≠ k
  | [], k => ⟨fun _ e he => (by cases he), fun _ => rfl⟩
  | e :: es, k => by
    unfold atN
    by_cases q : e.1 = k
    · rw [if_pos q]
      exact ⟨fun h => (by cases h), fun h => absurd q (h e (List.mem_cons_self ..))⟩
    · rw [if_neg q, atN_none (es := es)]
      exact ⟨fun h x hx => by rcases List.mem_cons.mp hx with rfl | hx; exact q; exact h x hx, fun h x hx => h x (List.mem_cons_of_mem _ hx)⟩
/-- the dict's entries are these standings, each with what R says -/
structure DE {α : Type} (K : PySem.W.Frag) (H : Hp) (R : α → V → Prop) (es : List NE) (xs : List (Sn × α)) : Prop where
  l : es.length = xs.length
  d : ∀ (i : Nat) (e : NE), es[i]? = some e → ∃ x, xs[i]? = some x ∧ e.1 = kyS x.1 ∧ Dp K H (.ref e.2.1) (snD x.1) ∧ R x.2 e.2.2
section
variable {α : Type} {K : PySem.W.Frag} {H H' : Hp} {R R' : α → V → Prop} {es : List NE} {xs : List (Sn × α)}
theorem DE.move (h : DE K H R es xs) (t : Tp H H') (r : ∀ a v, R a v → R' a v) : DE K H' R' es xs := ⟨h.l, fun i e he => by
  obtain ⟨x, a, b, c, d⟩ := h.d i e he
  exact ⟨x, a, b, Dp.tp t _ (noL_sn _) c, r _ _ d⟩⟩
theorem DE.ky (h : DE K H R es xs) : ∀ e ∈ es, KyAt K H e.1 e.2.1 := fun e he => by
  obtain ⟨i, hi⟩ := List.mem_iff_getElem?.mp he
  obtain ⟨x, _, b, c, _⟩ := h.d i e hi
  rw [b]; exact ky_at c
theorem DE.snoc (h : DE K H R es xs) {b : Addr} {s : Sn} {a : α} {v : V} (hb : Dp K H (.ref b) (snD s)) (hr : R a v) : DE K H R (es ++ [(kyS s, b, v)]) (xs ++ [(s, a)]) := ⟨by rw [List.length_append, List.length_append, h.l]; rfl, fun i e he => by
  by_cases q : i < es.length
  · rw [List.getElem?_append_left q] at he
    obtain ⟨x, a, z⟩ := h.d i e he
    exact ⟨x, by rw [List.getElem?_append_left (by rw [← h.l]; exact q)]; exact a, z⟩
  · rw [List.getElem?_append_right (by omega)] at he
    have i0 : i - es.length = 0 := by
      have := (List.getElem?_eq_some_iff.mp he).1
      simp at this; omega
    rw [i0] at he
    obtain rfl := Option.some.inj he
    exact ⟨(s, a), by rw [List.getElem?_append_right (by rw [← h.l]; omega), ← h.l, i0]; rfl, rfl, hb, hr⟩⟩
theorem DE.get (h : DE K H R es xs) (nd : (xs.map (·.1)).Nodup) {s : Sn} {a : α} (hm : (s, a) ∈ xs) : ∃ v, atN es (kyS s) = some v ∧ R a v := by
  cases q : atN es (kyS s) with
  | none =>
    obtain ⟨i, hi⟩ := List.mem_iff_getElem?.mp hm
    have il := (List.getElem?_eq_some_iff.mp hi).1
    have he : es[i]? = some (es[i]'(by rw [h.l]; exact il)) := List.getElem?_eq_getElem _
    obtain ⟨x, e1, b, _⟩ := h.d i _ he
    rw [hi] at e1
    obtain rfl := Option.some.inj e1
    exact absurd b (atN_none.mp q _ (List.mem_iff_getElem?.mpr ⟨i, he⟩))
  | some v =>
    obtain ⟨e, he, e1, e2⟩ := atN_mem q
    obtain ⟨i, hi⟩ := List.mem_iff_getElem?.mp he
    obtain ⟨x, e3, b, _, d⟩ := h.d i e hi
    have xs1 : x.1 = s := kyS_inj (b.symm.trans e1)
    have hx : (s, x.2) ∈ xs := by rw [← xs1]; exact List.mem_iff_getElem?.mpr ⟨i, e3⟩
    rw [nd_key nd hm hx, ← e2]
    exact ⟨_, rfl, d⟩
theorem DE.none (h : DE K H R es xs) {s : Sn} (no : ∀ a, (s, a) ∉ xs) : atN es (kyS s) = none := atN_none.mpr fun e he q => by
  obtain ⟨i, hi⟩ := List.mem_iff_getElem?.mp he
  obtain ⟨x, a, b, _⟩ := h.d i e hi
  have : x.1 = s := kyS_inj (b.symm.trans q)
  exact no x.2 (by rw [← this]; exact List.mem_iff_getElem?.mpr ⟨i, a⟩)
theorem in_dec (xs : List (Sn × α)) (s : Sn) : (∃ a, (s, a) ∈ xs) ∨ ∀ a, (s, a) ∉ xs := by
  by_cases h : ∃ a, (s, a) ∈ xs
  · exact .inl h
  · exact .inr fun n hn => h ⟨n, hn⟩
end
/-- the value of an entry: from where, by which going -/
def CmV (K : PySem.W.Frag) (H : Hp) (xs : Es) (r : List Mv) (v : V) : Prop := (r = [] ∧ v = .non) ∨ ∃ (t b1 b2 : Addr) (y : Sn) (ns : List Mv) (m : Mv), v = .ref t ∧ H t = some (.tup [.ref b1, .ref b2]) ∧ Dp K H (.ref b1) (snD y) ∧ H b2 = some (.tup (mvV m)) ∧ r = ns ++ [m] ∧ (y, ns) ∈ xs
theorem CmV.move {K : PySem.W.Frag} {H H' : Hp} {xs xs' : Es} (t : Tp H H') (sub : ∀ e ∈ xs, e ∈ xs') : ∀ r v, CmV K H xs r v → CmV K H' xs' r v := fun r v h => by
  rcases h with h | ⟨t1, b1, b2, y, ns, m, e1, e2, e3, e4, e5, e6⟩
  · exact .inl h
  · exact .inr ⟨t1, b1, b2, y, ns, m, e1, t.t _ _ e2, Dp.tp t _ (noL_sn _) e3, t.t _ _ e4, e5, sub _ e6⟩
abbrev CmE (K : PySem.W.Frag) (H : Hp) (es : List NE) (xs : Es) : Prop := DE K H (CmV K H xs) es xs
abbrev FaE (K : PySem.W.Frag) (H : Hp) (es : List NE) (xs : Ds) : Prop := DE K H (fun (n : Nat) v => v = .int (n : Int)) es xs
theorem CmE.mv {K : PySem.W.Frag} {H H' : Hp} {es : List NE} {xs : Es} (h : CmE K H es xs) (t : Tp H H') : CmE K H' es xs := DE.move h t (CmV.move t fun _ e => e)
theorem FaE.mv {K : PySem.W.Frag} {H H' : Hp} {es : List NE} {xs : Ds} (h : FaE K H es xs) (t : Tp H H') : FaE K H' es xs := DE.move h t fun _ _ e => e
theorem FaE.val {K : PySem.W.Frag} {H : Hp} {es : List NE} {xs : Ds} (h : FaE K H es xs) (nd : (xs.map (·.1)).Nodup) {s : Sn} {n : Nat} (hm : (s, n) ∈ xs) : atN es (kyS s) = some (.int (n : Nat)) := by
  obtain ⟨v, e, q⟩ := DE.get h nd hm
  rw [e, q]
theorem lt_line {x : Nat} (h : x ≤ 100000) : x < sizeLine := by rw [sizeLine_eq]; omega
theorem tp_dn {P : Program} {w : World} {H : Hp} {D : Addr} {es : List NE} {o : HO} (h : H D = some (DNo P w D es)) : Tp H (upd H D o) :=
  ⟨fun a xs e => by rw [upd_ne (fun z => by rw [z, h] at e; exact HO.noConfusion (Option.some.inj e))]; exact e, fun a o xs e => by rw [upd_ne (fun z => by rw [z, h] at e; exact HO.noConfusion (Option.some.inj e))]; exact e⟩
theorem tp_lst {H : Hp} {l : Addr} {xs : List V} {o : HO} (h : H l = some (.lst xs)) : Tp H (upd H l o) :=
  ⟨fun a xs e => by rw [upd_ne (fun z => by rw [z, h] at e; cases e)]; exact e, fun a o xs e => by rw [upd_ne (fun z => by rw [z, h] at e; cases e)]; exact e⟩
/-! ### goings, in their order -/
theorem blue_red : PySem.W.dataLt (.str (wS false)) (.str (wS true)) = true := by decide +kernel
theorem mv_alike (ms : List Mv) : PySem.W.AllAlike (ms.map mvD) := fun d hd d' hd' => by
  obtain ⟨m, _, rfl⟩ := List.mem_map.mp hd
  obtain ⟨m', _, rfl⟩ := List.mem_map.mp hd'
  rfl
theorem mv_sortable (ms : List Mv) : PySem.W.Sortable (ms.map mvD) := .inl fun d hd => by
  obtain ⟨m, _, rfl⟩ := List.mem_map.mp hd
  exact ⟨_, _, rfl⟩
theorem mv_lt (a b : Mv) : PySem.W.dataLt (mvD a) (mvD b) = decide (mkN a < mkN b) := by
  obtain ⟨i, p⟩ := a
  obtain ⟨j, q⟩ := b
  have tk : ∀ (i : Nat) (p : Bool), PySem.W.keyToks (mvD (i, p)) = [.inl 1] ++ (.inl (i : Int) :: ([.inl 1] ++ [.inr (wS p).cps.toList, .inl 0])) := fun i p => by simp [mvD, PySem.W.keyToks, PySem.W.keyToksAll]
  unfold PySem.W.dataLt
  rw [tk, tk, PySem.W.lex_pre]
  by_cases h : i = j
  · subst h
    rw [show (Sum.inl (i : Int) :: ([.inl 1] ++ [.inr (wS p).cps.toList, .inl 0]) : List (Int ⊕ List Nat)) = [.inl (i : Int), .inl 1] ++ [.inr (wS p).cps.toList, .inl 0] from rfl, show (Sum.inl (i : Int) :: ([.inl 1] ++ [.inr (wS q).cps.toList, .inl 0]) : List (Int ⊕ List Nat)) = [.inl (i : Int), .inl 1] ++ [.inr (wS q).cps.toList, .inl 0] from rfl, PySem.W.lex_pre]
    have e : (decide (mkN (i, p) < mkN (i, q))) = (!p && q) := by
      cases p <;> cases q <;> simp [mkN]
    rw [e]
    cases p <;> cases q <;> decide +kernel
  · rw [PySem.W.lex_atom (fun e => h (by have := Sum.inl.inj e; omega))]
    have : PyProof.Rows.lexLt itemOrd [Sum.inl (i : Int)] [Sum.inl (j : Int)] = decide ((i : Int) < (j : Int)) := by
      rw [PyProof.Rows.lex_diff (O := itemOrd) (fun e => h (by have := Sum.inl.inj e; omega))]; rfl
    rw [this]
    have e : mkN (i, p) < mkN (j, q) ↔ i < j := by
      unfold mkN
      cases p <;> cases q <;> simp <;> omega
    by_cases l : i < j
    · rw [decide_eq_true (by omega), decide_eq_true (e.mpr l)]
    · rw [decide_eq_false (by omega), decide_eq_false (fun z => l (e.mp z))]
theorem may_nodup (c : Cn) (s : Sn) : ∀ n : Nat, (may c s n).Nodup
  | 0 => by simp [may]
  | n + 1 => by
    rw [may_succ, List.nodup_append]
    refine ⟨may_nodup c s n, ?_, fun a ha b hb e => ?_⟩
    · rw [mayL_eq]
      split <;> split <;> simp
    · subst e
      have h1 := (mem_may.mp ha).1
      rw [mayL_eq] at hb
      have h2 : a.1 = n := by
        rcases List.mem_append.mp hb with h | h <;> split at h <;> simp at h <;> rw [h]
      omega
/-- sorted goings: each above the one ahead -/
theorem sorted_may {c : Cn} {s : Sn} {ms : List Mv} (hp : ms.Perm (may c s c.ls.length)) (ho : ms.Pairwise fun x y => PySem.W.dataLt (mvD y) (mvD x) = false) : ms.Pairwise (fun x y => mkN x < mkN y) ∧ ∀ m, m ∈ ms ↔ can c s m := by
  refine ⟨?_, fun m => by rw [hp.mem_iff, mem_may]; rfl⟩
  have nd : ms.Nodup := hp.nodup_iff.mpr (may_nodup c s _)
  refine (List.Pairwise.and ho nd).imp fun {x y} ⟨h1, h2⟩ => ?_
  rw [mv_lt] at h1
  have h1 := of_decide_eq_false h1
  have h3 : mkN x ≠ mkN y := fun e => h2 (mkN_inj e)
  omega
end XL
namespace XL
open PySem PySem.Spec PyProof.Rows L2
theorem map_ti (zs : List Int) : (intsD zs).map tupD = intsD zs := by
  unfold intsD
  rw [List.map_map]
  exact List.map_congr_left fun x _ => by simp [tupD]
theorem tup_snD (s : Sn) : tupD (snD s) = snD s := by
  have e : tupD (snD s) = .tuple [.tuple (tupDs (intsD s.rs)), .tuple (tupDs (intsD s.bs)), .tuple (tupDs (intsD s.ls))] := by simp [snD, tupD, tupDs]
  rw [e, tupDs_eq, tupDs_eq, tupDs_eq, map_ti, map_ti, map_ti]; rfl
theorem lst_snD (s : Sn) : lstD (snD s) = .list [.list (intsD s.rs), .list (intsD s.bs), .list (intsD s.ls)] := by
  have e : lstD (snD s) = .list [.list (lstDs (intsD s.rs)), .list (lstDs (intsD s.bs)), .list (lstDs (intsD s.ls))] := by simp [snD, lstD, lstDs]
  rw [e, lstDs_eq, lstDs_eq, lstDs_eq, map_li, map_li, map_li]
theorem tup_lst_snD (s : Sn) : tupD (lstD (snD s)) = snD s := by
  rw [lst_snD]
  have e : tupD (.list [.list (intsD s.rs), .list (intsD s.bs), .list (intsD s.ls)]) = .tuple [.tuple (tupDs (intsD s.rs)), .tuple (tupDs (intsD s.bs)), .tuple (tupDs (intsD s.ls))] := by simp [tupD, tupDs]
  rw [e, tupDs_eq, tupDs_eq, tupDs_eq, map_ti, map_ti, map_ti]; rfl
theorem okd_ints {n : Nat} (zs : List Int) : ∀ d ∈ intsD zs, okD (n + 1) d := fun d h => by
  obtain ⟨z, _, rfl⟩ := List.mem_map.mp h
  exact trivial
theorem okd_sn {n : Nat} {s : Sn} (h1 : s.rs.length ≤ 1000) (h2 : s.bs.length ≤ 1000) (h3 : s.ls.length ≤ 1000) : okD (n + 3) (snD s) := by
  have e : ∀ zs : List Int, zs.length ≤ 1000 → okD (n + 2) (.tuple (intsD zs)) := fun zs h => ⟨by unfold intsD; rw [List.length_map]; exact h, okd_ints zs⟩
  refine ⟨by show 3 ≤ 1000; decide, fun d hd => ?_⟩
  simp only [List.mem_cons, List.not_mem_nil, or_false] at hd
  rcases hd with rfl | rfl | rfl
  · exact e _ h1
  · exact e _ h2
  · exact e _ h3
theorem okd_lsn {n : Nat} {s : Sn} (h1 : s.rs.length ≤ 1000) (h2 : s.bs.length ≤ 1000) (h3 : s.ls.length ≤ 1000) : okD (n + 3) (lstD (snD s)) := by
  rw [lst_snD]
  have e : ∀ zs : List Int, zs.length ≤ 1000 → okD (n + 2) (.list (intsD zs)) := fun zs h => ⟨by unfold intsD; rw [List.length_map]; exact h, okd_ints zs⟩
  refine ⟨by show 3 ≤ 1000; decide, fun d hd => ?_⟩
  simp only [List.mem_cons, List.not_mem_nil, or_false] at hd
  rcases hd with rfl | rfl | rfl
  · exact e _ h1
  · exact e _ h2
  · exact e _ h3
theorem nil_go {σ : L2.St} {H : Hp} {Q : List V → Hp → Prop} (h : Q [] H) : tNil σ H Q := h
theorem cons_c {v : V} {t : TA} {σ : L2.St} {H : Hp} {Q : List V → Hp → Prop} (h : t σ H fun xs H2 => Q (v :: xs) H2) : tCons (tC v) t σ H Q := h
theorem seq_stay {K : PySem.W.Frag} {H1 H : Hp} {a : Addr} {xs : List V} (e : H1 a = some (.lst xs)) (h : H a = some (.lst xs)) : (¬ SqT K H1 a xs → SqL K H1 a xs → SqL K H a xs) ∧ (SqT K H1 a xs → SqT K H a xs) := by
  refine ⟨fun _ _ => SqL.of h, fun z => ?_⟩
  rcases z with (z | ⟨o, z⟩) | z
  · rw [e] at z; cases z
  · rw [e] at z; cases z
  · exact .inr z
/-- sorted(goings) -/
theorem zip_fst {α β : Type} : ∀ {xs : List α} {ys : List β}, xs.length = ys.length → (xs.zip ys).map (·.1) = xs
  | [], [], _ => rfl
  | [], _ :: _, h => by simp at h
  | _ :: _, [], h => by simp at h
  | x :: xs, y :: ys, h => by show x :: (xs.zip ys).map (·.1) = _; rw [zip_fst (by simpa using h)]
theorem zip_snd {α β : Type} : ∀ {xs : List α} {ys : List β}, xs.length = ys.length → (xs.zip ys).map (·.2) = ys
  | [], [], _ => rfl
  | [], _ :: _, h => by simp at h
  | _ :: _, [], h => by simp at h
  | x :: xs, y :: ys, h => by show y :: (xs.zip ys).map (·.2) = _; rw [zip_snd (by simpa using h)]
theorem zip_at {α β : Type} {xs : List α} {ys : List β} {b : α × β} (h : b ∈ xs.zip ys) : ∃ j : Nat, xs[j]? = some b.1 ∧ ys[j]? = some b.2 := by
  obtain ⟨j, hj⟩ := List.mem_iff_getElem?.mp h
  obtain ⟨h1, h2⟩ := List.getElem?_zip_eq_some.mp hj
  exact ⟨j, h1, h2⟩
theorem so_go {K : PySem.W.Frag} {H : Hp} {a : Addr} {ms : List Mv} {us : List V} {Q : VK} (M : MvAt H a ms us)
    (h : ∀ (p : Addr) (ms' : List Mv) (us' : List V), H p = none → ms'.Perm ms → ms'.Pairwise (fun x y => PySem.W.dataLt (mvD y) (mvD x) = false) → MvAt (upd H p (.lst us')) p ms' us' → Q (.ref p) (upd H p (.lst us'))) : rSortedDt K mvD [.ref a] H Q := by
  have at1 : ∀ b ∈ us.zip ms, ∃ t, b.1 = .ref t ∧ H t = some (.tup (mvV b.2)) := fun b hb => by
    obtain ⟨j, h1, h2⟩ := zip_at hb
    obtain ⟨t, m, e1, e2, e3⟩ := M.d j _ h1
    rw [h2] at e2
    obtain rfl := Option.some.inj e2
    exact ⟨t, e1, e3⟩
  have em : (us.zip ms).map (fun b => mvD b.2) = ms.map mvD := by
    have : (us.zip ms).map (fun b => mvD b.2) = ((us.zip ms).map (·.2)).map mvD := by rw [List.map_map]; rfl
    rw [this, zip_snd M.l]
  refine ⟨a, us.zip ms, rfl, by rw [zip_fst M.l]; exact SqL.of M.e, fun b hb => ?_, by rw [em]; exact mv_alike ms, by rw [em]; exact mv_sortable ms, fun b hb => by rw [mv_depth]; decide, fun p cs hp ho np => ?_⟩
  · obtain ⟨t, e1, e2⟩ := at1 b hb
    rw [e1]
    exact .tup (.inl (.inl e2)) (.cons (.int _) (.cons (.str _) .nil))
  · refine h p (cs.map (·.2)) (cs.map (·.1)) np ?_ (List.pairwise_map.mpr ho) ⟨upd_same, by rw [List.length_map, List.length_map], fun j u hu => ?_⟩
    · have := hp.map (·.2)
      rw [zip_snd M.l] at this
      exact this
    · rw [List.getElem?_map] at hu
      obtain ⟨b, hb, rfl⟩ := Option.map_eq_some_iff.mp hu
      obtain ⟨t, e1, e2⟩ := at1 b (hp.mem_iff.mp (List.mem_of_getElem? hb))
      exact ⟨t, b.2, e1, by rw [List.getElem?_map, hb]; rfl, (same_new np) _ _ e2⟩
end XL
namespace XL
open PySem PySem.Spec PyProof.Rows L2
abbrev sCT : Stmt := topS 17
theorem boot_sorted' : bootBuiltins "sorted" = some (.builtin "sorted") := by decide +kernel
theorem hu10 {A : Around} (h : A.units + 64 < cLine) : A.units + 10 < cLine := by omega
section
variable {P : Program} {w : World} {K : PySem.W.Frag} {mg : Str → Option Value} {base : Heap}
abbrev nCT : List Str := ["canal", "standing", "most", "layer", "came", "further", "now", "going", "then"]
theorem scCT : FnScope nCT ["canal", "standing", "most"] (defScope sCT) := ⟨rfl, rfl, rfl, by decide +kernel, rfl, by decide +kernel, by decide +kernel⟩
def spCT (P : Program) (w : World) (K : PySem.W.Frag) : Sp := fun vs H Q _ => ∃ (v u : V) (c : Cn) (s : Sn) (B : Int) (d : PyData) (most : Nat), vs = [v, u, .int most] ∧ CnAny K H v c ∧ Dp K H u d ∧ okD 4 d ∧ tupD d = snD s ∧ okCn 100 100 c ∧ okSn c B s ∧ most ≤ 10000 ∧
  (∀ (ys : List Sn) (H' : Hp), Same H H' → ys.Nodup → most < ys.length → (∀ y ∈ ys, ∃ ms, okRun c s ms ∧ runS c s ms = y) → Q .non H') ∧
  (∀ (D : Addr) (es : List NE) (xs : Es) (H' : Hp), Same H H' → H D = none → H' D = some (DNo P w D es) → CmE K H' es xs → Best c s xs → (xs.length ≤ most ∨ xs.length ≤ 1) → Q (.ref D) H')
theorem ok_ct {f fm fg ft CB : Addr} {fd fdm fdg fdt : FuncData} {k : Nat} (F : Fun K "come_to" "come_to" sCT f fd) (Ma : Fns P w K mg base (k + 4) "may_go" ["canal", "standing"] (spMay K) fm fdm) (Go : FnX P w K mg base (k + 4) "gone" ["canal", "standing", "going"] (spGone K CB) fg fdg) (Tu : Fns P w K mg base 4 "tupled" ["thing"] (spTupled K 4) ft fdt) (m_sorted : mg "sorted" = none) (m_len : mg "len" = none) : FnOk P w K mg base CX0 (k + 4 + 1) f fd ["canal", "standing", "most"] (spCT P w K) := by
  refine F.ok scCT (fun vs H Q E h => ?_) (fun cdv A outer s0 H vs Q E hr h => ?_)
  · obtain ⟨v, u, c, s, B, d, most, rfl, _⟩ := h
    rfl
  obtain ⟨v, u, c, s, B, d, most, rfl, hc, hu, okd, etd, okc, oks, hmost, qn, qy⟩ := h
  have hrT : Room 4 _ := hr.mono (by omega)
  have hrM := hr
  refine ⟨_, (pss_cons (ps_set (i := 3) scCT.nd rfl (.inl rfl) (pe_lst (pa_cons (pe_fn Tu hrT rfl (pa_cons (pv 1) pa_nil)) pa_nil)))
    (pss_cons (ps_setDcN (i := 4) (own := [("now", 6)]) (g := gName 6) rfl rfl (sw_trueD rfl rfl rfl (by decide +kernel)) ⟨(hu10 hr.units), rfl, scCT.nd, pi_seq (pv 3), blkOk_by (own := [("now", 6)]) (N := nCT) (sc := defScope sCT) (by decide +kernel), fun _ _ _ _ _ => pg_name (i := 6) scCT.nd rfl (.inl rfl), fun _ _ _ _ _ => pv 6, fun _ _ _ _ _ => pe_non, fun _ => rfl⟩)
    (pss_cons (ps_while PassesOwn.never (pt_truth (pv 3) (by intro _; rfl))
    (pss_cons (ps_set (i := 5) scCT.nd rfl (.inl rfl) (pe_lst pa_nil))
    (pss_cons (ps_for PassesOwn.never rfl (pi_seq (pv 3)) (pg_name (i := 6) scCT.nd rfl (.inl rfl))
    (pss_one (ps_for PassesOwn.never rfl (pi_seq (pe_callB (r := rSortedDt K mvD) (cr_sortedDt hr.units) rfl m_sorted boot_sorted' (pa_cons (pe_fn Ma hrM rfl (pa_cons (pv 0) (pa_cons (pv 6) pa_nil))) pa_nil))) (pg_name (i := 7) scCT.nd rfl (.inl rfl))
    (pss_cons (ps_set (i := 8) scCT.nd rfl (.inl rfl) (pe_call Go.ok hr rfl Go.g Go.k Go.b .nil passL (pa_cons (pv 0) (pa_cons (pv 6) (pa_cons (pv 7) pa_nil)))))
    (pss_cons (ps_if (pt_cmp (pc_nnotin (hu10 hr.units) (pv 8) (pv 4)) rfl) (pss_cons (ps_nput (hu10 hr.units) (pv 4) (pv 8) (pe_tup (pa_cons (pv 6) (pa_cons (pv 7) pa_nil))) rfl)
    (pss_one (ps_expr (pe_bm PySem.F.plainAttrs_list PySem.F.slot_list_append PySem.F.type_list_append mt_append (pv 5) (pa_cons (pv 8) pa_nil))))) pss_nil)
    (pss_one (ps_if (pt_cmpR op_gt (pe_callB (r := rLenN P w K) call_lenN rfl m_len PySem.boot_len (pa_cons (pv 4) pa_nil)) (pv 2) (nomark _)) (pss_one (ps_ret pe_non)) pss_nil)))))))
    (pss_one (ps_set (i := 3) scCT.nd rfl (.inl rfl) (pv 5))))))
    (pss_one (ps_ret (pv 4)))))), ?_⟩
  refine ⟨_, rfl, u, d, rfl, hu, okd, fun nw H1 s1 hnw => ?_⟩
  rw [etd] at hnw
  obtain ⟨u1, rfl⟩ := dp_ref hnw
  refine ⟨(by show 1 ≤ sizeLine; decide), fun L0 nL0 => ?_⟩
  have s2 := s1.trans (same_new nL0 (o := .lst [.ref u1]))
  have hn2 := Dp.same (same_new nL0 (o := .lst [.ref u1])) _ hnw
  have eL0 : (upd H1 L0 (.lst [.ref u1])) L0 = some (.lst [.ref u1]) := upd_same
  generalize upd H1 L0 (.lst [.ref u1]) = H2 at s2 hn2 eL0
  refine at_g (σ' := [some v, some u, some (.int (most : Int)), some (.ref L0), none, none, none, none, none]) rfl ?_
  refine ⟨_, rfl, L0, _, rfl, .inl (SqL.of eL0), fun J wk D nD => ?_⟩
  have eLD : ∀ o, (upd H2 D o) L0 = some (.lst [.ref u1]) := fun o => by rw [upd_ne (fun z => by rw [z, nD] at eL0; cases eL0)]; exact eL0
  refine ⟨fun i m G => (i = 0 ∧ m = 1 ∧ G = upd H2 D (DNo P w D [])) ∨ (i = 1 ∧ m = 0 ∧ G = upd H2 D (DNo P w D [(kyS s, u1, .non)])), ⟨1, .inl ⟨rfl, rfl, rfl⟩⟩, fun i m G hG => ?_⟩
  rcases hG with ⟨rfl, rfl, rfl⟩ | ⟨rfl, rfl, rfl⟩
  · refine .inr ⟨wk.goes 0 _ (by show 0 < 1; decide) (seq_stay eL0 (eLD _)), fun x G1 hy => ?_⟩
    obtain ⟨rfl, hx⟩ := wk.yields 0 _ _ _ (by show 0 < 1; decide) (seq_stay eL0 (eLD _)) hy
    obtain rfl : V.ref u1 = x := Option.some.inj hx
    refine ⟨rfl, _, rfl, _, _, ⟨[], kyS s, u1, upd_same, (fun x hx => nomatch hx), rfl, ky_at (Dp.same (same_new nD) _ hn2), rfl, by show 0 < sizeLine; decide, rfl⟩, (by show 0 < 1; decide), .inr ⟨rfl, rfl, ?_⟩⟩
    rw [upd_upd]; rfl
  refine .inl ⟨wk.stops _ (seq_stay eL0 (eLD _)), ?_⟩
  have sD := s2.trans (same_new nD (o := DNo P w D [(kyS s, u1, .non)]))
  have hnD := Dp.same (same_new nD (o := DNo P w D [(kyS s, u1, .non)])) _ hn2
  have eD0 : (upd H2 D (DNo P w D [(kyS s, u1, .non)])) D = some (DNo P w D [(kyS s, u1, .non)]) := upd_same
  have eL1 := eLD (DNo P w D [(kyS s, u1, .non)])
  have nDH : H D = none := s2.free nD
  clear eLD wk J
  generalize upd H2 D (DNo P w D [(kyS s, u1, .non)]) = H3 at sD hnD eD0 eL1
  refine at_g (σ' := [some v, some u, some (.int (most : Int)), some (.ref L0), some (.ref D), none, none, none, none]) rfl ?_
  clear s1 hnw nL0 s2 hn2 eL0 nD
  refine ⟨fun m σ G => ∃ (L : Addr) (p : Nat) (es : List NE) (xs : Es) (y5 y6 y7 y8 : Option V), σ = [some v, some u, some (.int (most : Int)), some (.ref L), some (.ref D), y5, y6, y7, y8] ∧ Same H G ∧ G D = some (DNo P w D es) ∧ G L = some (.lst ((es.drop p).map fun e => V.ref e.2.1)) ∧ CmE K G es xs ∧ Wd c s p [] xs ∧ (xs.length ≤ most ∨ xs.length ≤ 1) ∧ p ≤ xs.length ∧ m + p = 10002,
    ⟨10002, L0, 0, _, [(s, [])], none, none, none, none, rfl, sD, eD0, eL1, ⟨rfl, fun i e he => ?_⟩, Wd.zero, .inr (Nat.le_refl _), Nat.zero_le _, rfl⟩, fun m σ G h => ?_⟩
  · cases i with
    | zero => obtain rfl := Option.some.inj he; exact ⟨(s, []), rfl, rfl, hnD, .inl ⟨rfl, rfl⟩⟩
    | succ i => simp at he
  obtain ⟨L, p, es, xs, y5, y6, y7, y8, rfl, sG, eD, eL, ce, B, hfew, hp, hm⟩ := h
  refine ⟨_, rfl, (!((es.drop p).map fun e => V.ref e.2.1).isEmpty), .inl ⟨_, SqL.of eL, rfl⟩, ?_⟩
  have hxl : xs.length ≤ 10000 := by omega
  by_cases hlt : p < xs.length
  · have hne : ((es.drop p).map fun e => V.ref e.2.1).isEmpty = false := by
      rw [Bool.eq_false_iff]
      intro z
      have := congrArg List.length (List.isEmpty_iff.mp z)
      rw [List.length_map, List.length_drop, ce.l] at this
      simp at this; omega
    rw [hne]
    refine iteT ⟨fun σ' G' => ∃ (L : Addr) (p' : Nat) (es : List NE) (xs' : Es) (y5 y6 y7 y8 : Option V), σ' = [some v, some u, some (.int (most : Int)), some (.ref L), some (.ref D), y5, y6, y7, y8] ∧ Same H G' ∧ G' D = some (DNo P w D es) ∧ G' L = some (.lst ((es.drop p').map fun e => V.ref e.2.1)) ∧ CmE K G' es xs' ∧ Wd c s p' [] xs' ∧ (xs'.length ≤ most ∨ xs'.length ≤ 1) ∧ p' ≤ xs'.length ∧ p' = xs.length, fun σ' G' h => ?_, ?_⟩
    · obtain ⟨L', p', es', xs', z5, z6, z7, z8, a, b, c1, d1, e, f, g, h1, h2⟩ := h
      exact ⟨10002 - p', by omega, L', p', es', xs', z5, z6, z7, z8, a, b, c1, d1, e, f, g, h1, by omega⟩
    refine ⟨(by show 0 ≤ sizeLine; decide), fun Fu nFu => ?_⟩
    have s4 := sG.trans (same_new nFu (o := .lst []))
    have nFuH : H Fu = none := sG.free nFu
    have eD4 := (same_new nFu (o := .lst [])) _ _ eD
    have eL4 := (same_new nFu (o := .lst [])) _ _ eL
    have ce4 := ce.mv (Tp.of (same_new nFu (o := .lst [])))
    have eF4 : (upd G Fu (.lst [])) Fu = some (.lst []) := upd_same
    have hDF : D ≠ Fu := fun z => by rw [← z, eD] at nFu; cases nFu
    have hLF : L ≠ Fu := fun z => by rw [← z, eL] at nFu; cases nFu
    have hDL : D ≠ L := fun z => by rw [z, eL] at eD; exact HO.noConfusion (Option.some.inj eD)
    generalize upd G Fu (.lst []) = G4 at s4 eD4 eL4 ce4 eF4
    refine at_g (σ' := [some v, some u, some (.int (most : Int)), some (.ref L), some (.ref D), some (.ref Fu), y6, y7, y8]) rfl ?_
    have hlen : ((es.drop p).map fun e => V.ref e.2.1).length = xs.length - p := by rw [List.length_map, List.length_drop, ce.l]
    refine ⟨_, rfl, L, _, rfl, .inl (SqL.of eL4), fun J wk => for_it wk (fun j σ Z => ∃ (es' : List NE) (xs' : Es) (y6 y7 y8 : Option V), σ = [some v, some u, some (.int (most : Int)), some (.ref L), some (.ref D), some (.ref Fu), y6, y7, y8] ∧ Same H Z ∧ Z D = some (DNo P w D es') ∧ Z L = some (.lst ((es.drop p).map fun e => V.ref e.2.1)) ∧ Z Fu = some (.lst ((es'.drop xs.length).map fun e => V.ref e.2.1)) ∧ CmE K Z es' xs' ∧ Wd c s (p + j) [] xs' ∧ (xs'.length ≤ most ∨ xs'.length ≤ 1) ∧ es'.take xs.length = es) ⟨es, xs, y6, y7, y8, rfl, s4, eD4, eL4, ?_, ce4, B, hfew, ?_⟩ (fun j σ Z _ h => ?_) (fun j x σ Z Z' hj h hy => ?_) (fun σ Z h => ?_)⟩
    · rw [List.drop_of_length_le (by rw [ce.l]; exact Nat.le_refl _)]; exact eF4
    · exact List.take_of_length_le (by rw [ce.l]; exact Nat.le_refl _)
    · obtain ⟨es', xs', z6, z7, z8, rfl, _, _, eLZ, _⟩ := h
      exact seq_stay eL4 eLZ
    · obtain ⟨es', xs', z6, z7, z8, rfl, sZ, eDZ, eLZ, eFZ, ceZ, BZ, fewZ, tkZ⟩ := h
      obtain ⟨rfl, hx⟩ := hy
      rw [hlen] at hj
      rw [List.getElem?_map, List.getElem?_drop] at hx
      obtain ⟨e, he, rfl⟩ := Option.map_eq_some_iff.mp hx
      have he' : es'[p + j]? = some e := by
        rw [← tkZ, List.getElem?_take] at he
        split at he
        · exact he
        · cases he
      obtain ⟨x, hx', e1, e2, e3⟩ := ceZ.d _ e he'
      obtain ⟨ek, ea, ev⟩ := e
      dsimp only at e1 e2 e3
      subst e1
      obtain ⟨okx, runx⟩ := BZ.ok x (List.mem_iff_getElem?.mpr ⟨_, hx'⟩)
      have oksx := runS_ok okc oks okx
      rw [runx] at oksx
      refine at_g (σ' := [some v, some u, some (.int (most : Int)), some (.ref L), some (.ref D), some (.ref Fu), some (.ref ea), z7, z8]) rfl ?_
      refine ⟨_, rfl, _, rfl, nil_go ⟨v, .ref ea, c, x.1, _, rfl, hc.same sZ, snAny_t e2, okc, oksx, fun ma us G5 s5 nma MW => nil_go (so_go MW fun W ms' us' nW pm pw M2 => ?_)⟩⟩
      obtain ⟨srt, all⟩ := sorted_may pm pw
      have s6 := s5.trans (same_new nW (o := .lst us'))
      have eW6 := M2.e
      generalize upd G5 W (.lst us') = G6 at M2 s6 eW6
      have nWZ : Z' W = none := s5.free nW
      refine ⟨W, us', rfl, .inl (SqL.of eW6), fun J wk => ?_⟩
      refine for_it wk (fun n σ Y => ∃ (es2 : List NE) (xs2 : Es) (y7 y8 : Option V), σ = [some v, some u, some (.int (most : Int)), some (.ref L), some (.ref D), some (.ref Fu), some (.ref ea), y7, y8] ∧ Same H Y ∧ Y D = some (DNo P w D es2) ∧ Y L = some (.lst ((es.drop p).map fun e => V.ref e.2.1)) ∧ Y Fu = some (.lst ((es2.drop xs.length).map fun e => V.ref e.2.1)) ∧ CmE K Y es2 xs2 ∧ Wd c s (p + j) (ms'.take n) xs2 ∧ (xs2.length ≤ most ∨ xs2.length ≤ 1) ∧ es2.take xs.length = es ∧ xs2[p + j]? = some x ∧ Y W = some (.lst us') ∧ Tp G6 Y) ⟨es', xs', z7, z8, rfl, sZ.trans s6, s6 _ _ eDZ, s6 _ _ eLZ, s6 _ _ eFZ, ceZ.mv (Tp.of s6), by rw [List.take_zero]; exact BZ, fewZ, tkZ, hx', eW6, Tp.of (Same.refl _)⟩ (fun n σ Y _ h => ?_) (fun n x1 σ Y Y' hn h hy => ?_) (fun σ Y h => ?_)
      · obtain ⟨es2, xs2, z7, z8, rfl, _, _, _, _, _, _, _, _, _, eW, _⟩ := h
        exact seq_stay eW6 eW
      · obtain ⟨es2, xs2, z7, z8, rfl, sY, eDY, eLY, eFY, ceY, BY, fewY, tkY, hxY, eWY, tpY⟩ := h
        obtain ⟨rfl, hu1⟩ := hy
        obtain ⟨t, m, rfl, hm1, et⟩ := M2.d n x1 hu1
        have et' := tpY.t _ _ et
        have cm := (all m).mp (List.mem_of_getElem? hm1)
        have tks : ms'.take (n + 1) = ms'.take n ++ [m] := take_snoc hm1
        have ltm : ∀ m' ∈ ms'.take n, mkN m' < mkN m := fun m' hm' => by
          obtain ⟨q, hq⟩ := List.mem_iff_getElem?.mp hm'
          rw [List.getElem?_take] at hq
          split at hq
          · rename_i hqn
            obtain ⟨l1, g1⟩ := List.getElem?_eq_some_iff.mp hq
            obtain ⟨l2, g2⟩ := List.getElem?_eq_some_iff.mp hm1
            have := List.pairwise_iff_getElem.mp srt q n l1 l2 hqn
            rw [g1, g2] at this
            exact this
          · cases hq
        have eaY : Dp K Y' (.ref ea) (snD x.1) := Dp.tp tpY _ (noL_sn _) (Dp.same s6 _ e2)
        refine at_g (σ' := [some v, some u, some (.int (most : Int)), some (.ref L), some (.ref D), some (.ref Fu), some (.ref ea), some (.ref t), z8]) rfl ?_
        refine ⟨_, rfl, _, rfl, _, rfl, nil_go ⟨v, .ref ea, t, m.1, m.2, c, x.1, _, rfl, hc.same sY, snAny_t eaY, .inr (.inl (.inl et')), cm.1, okc, oksx, fun _ v2 Y2 s7 dv2 => ?_, fun hb => absurd cm.2 (by rw [hb]; decide)⟩⟩
        have dv2 : Dp K Y2 v2 (snD (goM c x.1 m)) := dv2
        obtain ⟨b2, rfl⟩ := dp_ref dv2
        refine at_g (σ' := [some v, some u, some (.int (most : Int)), some (.ref L), some (.ref D), some (.ref Fu), some (.ref ea), some (.ref t), some (.ref b2)]) rfl ?_
        replace sY := sY.trans s7
        replace eDY := s7 _ _ eDY
        replace eLY := s7 _ _ eLY
        replace eFY := s7 _ _ eFY
        replace ceY := ceY.mv (Tp.of s7)
        replace eWY := s7 _ _ eWY
        replace tpY := tpY.trans (Tp.of s7)
        replace eaY := Dp.same s7 _ eaY
        replace et' := s7 _ _ et'
        clear s7
        have xl2 : xs2.length ≤ 10000 := by omega
        dsimp only
        refine seq1 (fun σ Z => ∃ (es3 : List NE) (xs3 : Es), σ = [some v, some u, some (.int (most : Int)), some (.ref L), some (.ref D), some (.ref Fu), some (.ref ea), some (.ref t), some (.ref b2)] ∧ Same H Z ∧ Z D = some (DNo P w D es3) ∧ Z L = some (.lst ((es.drop p).map fun e => V.ref e.2.1)) ∧ Z Fu = some (.lst ((es3.drop xs.length).map fun e => V.ref e.2.1)) ∧ CmE K Z es3 xs3 ∧ Wd c s (p + j) (ms'.take (n + 1)) xs3 ∧ es3.take xs.length = es ∧ xs3[p + j]? = some x ∧ Z W = some (.lst us') ∧ Tp G6 Z) (fun N hN => ?_) (fun σ Z h => ?_)
        · rcases in_dec xs2 (goM c x.1 m) with ⟨r0, hr0⟩ | hno
          · obtain ⟨ov, ho, _⟩ := DE.get ceY BY.nd hr0
            refine ⟨_, rfl, _, rfl, D, some ov, rfl, ⟨es2, kyS (goM c x.1 m), b2, .inl eDY, DE.ky ceY, rfl, ky_at dv2, ho.symm⟩, _, rfl, iteF (hN _ _ ⟨es2, xs2, rfl, sY, eDY, eLY, eFY, ceY, ?_, tkY, hxY, eWY, tpY⟩)⟩
            rw [tks]
            exact BY.keep hxY ltm hr0
          · refine ⟨_, rfl, _, rfl, D, none, rfl, ⟨es2, kyS (goM c x.1 m), b2, .inl eDY, DE.ky ceY, rfl, ky_at dv2, (DE.none ceY hno).symm⟩, _, rfl, iteT ?_⟩
            have hwl : es2.length = xs2.length := ceY.l
            refine ⟨_, rfl, _, rfl, (by show 2 ≤ sizeLine; decide), fun T nT => ?_⟩
            have s8 := same_new nT (o := .tup [.ref ea, .ref t])
            have eT : (upd Y2 T (.tup [.ref ea, .ref t])) T = some (.tup [.ref ea, .ref t]) := upd_same
            generalize upd Y2 T (.tup [.ref ea, .ref t]) = Y3 at s8 eT
            replace sY := sY.trans s8
            replace eDY := s8 _ _ eDY
            replace eLY := s8 _ _ eLY
            replace eFY := s8 _ _ eFY
            replace ceY := ceY.mv (Tp.of s8)
            replace eWY := s8 _ _ eWY
            replace tpY := tpY.trans (Tp.of s8)
            replace eaY := Dp.same s8 _ eaY
            replace et' := s8 _ _ et'
            replace dv2 := Dp.same s8 _ dv2
            clear s8
            refine ⟨_, rfl, _, rfl, D, _, rfl, ⟨es2, kyS (goM c x.1 m), b2, eDY, DE.ky ceY, rfl, ky_at dv2, DE.none ceY hno, lt_line (by omega), rfl⟩, ?_⟩
            have wD : W ≠ D := fun z => by rw [z, eDY] at eWY; exact HO.noConfusion (Option.some.inj eWY)
            have tD := tp_dn (o := DNo P w D (es2 ++ [(kyS (goM c x.1 m), b2, .ref T)])) eDY
            have ce5 : CmE K (upd Y3 D (DNo P w D (es2 ++ [(kyS (goM c x.1 m), b2, .ref T)]))) (es2 ++ [(kyS (goM c x.1 m), b2, .ref T)]) (xs2 ++ [(goM c x.1 m, x.2 ++ [m])]) :=
              (DE.move ceY tD (CmV.move tD fun _ e => List.mem_append_left _ e)).snoc (Dp.tp tD _ (noL_sn _) dv2) (.inr ⟨T, ea, t, x.1, x.2, m, rfl, tD.t _ _ eT, Dp.tp tD _ (noL_sn _) eaY, tD.t _ _ et', rfl, List.mem_append_left _ (List.mem_iff_getElem?.mpr ⟨_, hxY⟩)⟩)
            obtain ⟨Pf, hPf⟩ : ∃ Pf : Hp → Prop, Pf = fun Z3 => Same H Z3 ∧ Z3 D = some (DNo P w D (es2 ++ [(kyS (goM c x.1 m), b2, .ref T)])) ∧ Z3 L = some (.lst ((es.drop p).map fun e => V.ref e.2.1)) ∧ Z3 Fu = some (.lst ((es2.drop xs.length).map fun e => V.ref e.2.1)) ∧ CmE K Z3 (es2 ++ [(kyS (goM c x.1 m), b2, .ref T)]) (xs2 ++ [(goM c x.1 m, x.2 ++ [m])]) ∧ Z3 W = some (.lst us') ∧ Tp G6 Z3 := ⟨_, rfl⟩
            have hP : Pf (upd Y3 D (DNo P w D (es2 ++ [(kyS (goM c x.1 m), b2, .ref T)]))) := by
              rw [hPf]
              exact ⟨fun a o ha => by rw [upd_ne (ne_of_none ha nDH)]; exact sY _ _ ha, upd_same, by rw [upd_ne hDL.symm]; exact eLY, by rw [upd_ne hDF.symm]; exact eFY, ce5, by rw [upd_ne wD]; exact eWY, tpY.trans tD⟩
            refine at_h Pf hP fun Z3 h3 => ?_
            rw [hPf] at h3
            obtain ⟨sZ3, eD3, eL3, eF3, ce3, eW3, tp3⟩ := h3
            have hl3 : ((es2.drop xs.length).map fun e => V.ref e.2.1).length < sizeLine := lt_line (by rw [List.length_map, List.length_drop]; omega)
            refine ⟨_, rfl, .inl ⟨rfl, _, SqL.of eF3⟩, _, rfl, nil_go ⟨Fu, _, _, rfl, rfl, eF3, hl3, ?_⟩⟩
            have tF := tp_lst (o := .lst (((es2.drop xs.length).map fun e => V.ref e.2.1) ++ [.ref b2])) eF3
            have wF : W ≠ Fu := fun z => by
              have q := s5.free nW
              rw [z, eFZ] at nWZ; cases nWZ
            have lx2 : xs.length ≤ es2.length := by
              have := congrArg List.length tkY
              rw [List.length_take, ce.l] at this; omega
            refine hN _ _ ⟨_, _, rfl, fun a o ha => by rw [upd_ne (ne_of_none ha nFuH)]; exact sZ3 _ _ ha, by rw [upd_ne hDF]; exact eD3, by rw [upd_ne hLF]; exact eL3, ?_, ce3.mv tF, ?_, ?_, by rw [List.getElem?_append_left (List.getElem?_eq_some_iff.mp hxY).1]; exact hxY, by rw [upd_ne wF]; exact eW3, tp3.trans tF⟩
            · rw [upd_same, List.drop_append_of_le_length lx2, List.map_append]; rfl
            · rw [tks]; exact BY.add hxY ltm cm hno
            · rw [List.take_append_of_le_length lx2]; exact tkY
        · obtain ⟨es3, xs3, rfl, sZ3, eD3, eL3, eF3, ce3, B3, tk3, hx3, eW3, tp3⟩ := h
          refine ⟨_, rfl, D, es3, rfl, .inl eD3, DE.ky ce3, _, rfl, _, _, rfl, rfl, _, rfl, ?_⟩
          rw [ce3.l]
          by_cases big : most < xs3.length
          · rw [decide_eq_true (show ((xs3.length : Nat) : Int) > (most : Int) by omega)]
            refine iteT (qn (xs3.map (·.1)) _ sZ3 B3.nd (by rw [List.length_map]; exact big) fun y hy => ?_)
            obtain ⟨e, he, rfl⟩ := List.mem_map.mp hy
            exact ⟨e.2, B3.ok e he⟩
          · rw [decide_eq_false (show ¬ ((xs3.length : Nat) : Int) > (most : Int) by omega)]
            exact iteF ⟨es3, xs3, _, _, rfl, sZ3, eD3, eL3, eF3, ce3, B3, .inl (by omega), tk3, hx3, eW3, tp3⟩
      · obtain ⟨es2, xs2, z7, z8, rfl, sY, eDY, eLY, eFY, ceY, BY, fewY, tkY, hxY, eWY, tpY⟩ := h
        refine ⟨es2, xs2, _, _, _, rfl, sY, eDY, eLY, eFY, ceY, ?_, fewY, tkY⟩
        rw [← Nat.add_assoc]
        refine BY.next hxY fun m hm => ?_
        rw [List.take_of_length_le (by rw [M2.l]; exact Nat.le_refl _)]
        exact (all m).mpr hm
    · obtain ⟨es', xs', z6, z7, z8, rfl, sZ, eDZ, eLZ, eFZ, ceZ, BZ, fewZ, tkZ⟩ := h
      rw [hlen, show p + (xs.length - p) = xs.length by omega] at BZ
      refine ⟨_, rfl, ?_⟩
      refine at_g (σ' := [some v, some u, some (.int (most : Int)), some (.ref Fu), some (.ref D), some (.ref Fu), z6, z7, z8]) rfl ?_
      have := congrArg List.length tkZ
      rw [List.length_take, ce.l, ceZ.l] at this
      exact ⟨Fu, xs.length, es', xs', _, _, _, _, rfl, sZ, eDZ, eFZ, ceZ, BZ, fewZ, by omega, rfl⟩
  · have hne : ((es.drop p).map fun e => V.ref e.2.1) = [] := by
      rw [List.drop_of_length_le (by rw [ce.l]; omega)]; rfl
    rw [hne]
    exact iteF ⟨_, rfl, qy D es xs _ sG nDH eD ce (B.best (by omega)) hfew⟩
end
end XL
namespace XL
open PySem PySem.Spec PyProof.Rows L2
abbrev sFw : Stmt := topS 18
abbrev sIM : Stmt := inClass (topS 10) 0
section
variable {P : Program} {w : World} {K : PySem.W.Frag} {mg : Str → Option Value} {base : Heap}
theorem scIM : FnScope ["self", "many"] ["self", "many"] (defScope sIM) := ⟨rfl, rfl, rfl, by decide +kernel, rfl, by decide +kernel, by decide +kernel⟩
theorem ok_IM {f c : Addr} {fd : FuncData} (F : Fun K "__init__" "TooMany.__init__" sIM f fd) (T : ExK K c 3) (no : PySem.W.findIn K (.ref c) "many" = some none) (mB : mg "OverflowError" = none) : FnOk P w K mg base CX0 1 f fd ["self", "many"] (spI c "many") := by
  refine F.ok scIM (fun vs H Q E h => ?_) (fun cdv A outer s H vs Q E hr h => ?_)
  · obtain ⟨a, y, rfl, _⟩ := h
    rfl
  obtain ⟨a, y, rfl, ea, q⟩ := h
  refine ⟨_, pss_cons (ps_expr (pe_binit (B := "OverflowError") (newId := bW 3) (initId := "OverflowError.__init__") (bm := bM 3) rfl mB boot_OverflowError tyf_OverflowError fnd_OverflowError (pa_cons (pv 0) (pa_cons pe_str pa_nil)) (by decide) (by decide) stb_OverflowError hnd_OverflowError))
    (pss_one (ps_os1 (B := "OverflowError") (newId := bW 3) (initId := "OverflowError.__init__") (bm := bM 3) (pv 0) (pv 1))), ?_⟩
  refine ⟨_, rfl, a, c, _, rfl, (by show 1 ≤ 1000; decide), T, ea, ?_⟩
  exact ⟨_, rfl, _, rfl, a, c, rfl, T, no, ea, fun dx n ne => q dx n ne⟩
/-! ### come_to_few -/
/-- there are more than so many -/
def Over (c : Cn) (s : Sn) (n : Nat) : Prop := ∃ ys : List Sn, ys.Nodup ∧ n < ys.length ∧ ∀ y ∈ ys, ∃ ms, okRun c s ms ∧ runS c s ms = y
abbrev nFw : List Str := ["canal", "standing", "came"]
theorem scFw : FnScope nFw ["canal", "standing"] (defScope sFw) := ⟨rfl, rfl, rfl, by decide +kernel, rfl, by decide +kernel, by decide +kernel⟩
def spFw (P : Program) (w : World) (K : PySem.W.Frag) (CM : Addr) : Sp := fun vs H Q E => ∃ (v u : V) (c : Cn) (s : Sn) (B : Int) (d : PyData), vs = [v, u] ∧ CnAny K H v c ∧ Dp K H u d ∧ okD 4 d ∧ tupD d = snD s ∧ okCn 100 100 c ∧ okSn c B s ∧
  (∀ (dd : Addr) (H' : Hp), Over c s 400 → Same H H' → H dd = none → H' dd = some (.xd [("many", .int 400)]) → E (.ref CM) (some dd) H') ∧
  (∀ (D : Addr) (es : List NE) (xs : Es) (H' : Hp), Same H H' → H D = none → H' D = some (DNo P w D es) → CmE K H' es xs → Best c s xs → xs.length ≤ 400 → Q (.ref D) H')
theorem ok_fw {f fc fM CM : Addr} {fd fdc fdM : FuncData} {k : Nat} {tM : Tok} (F : Fun K "come_to_few" "come_to_few" sFw f fd) (Co : Fns P w K mg base (k + 4) "come_to" ["canal", "standing", "most"] (spCT P w K) fc fdc) (TM : Er P w K mg base "TooMany" 3 CM fM fdM ["self", "many"] (spI CM "many")) (gMOST : mg "MOST" = some (.int 400 tM)) : FnOk P w K mg base (L2.CX P w) (k + 4 + 1) f fd ["canal", "standing"] (spFw P w K CM) := by
  refine F.okX scFw (fun vs H Q E h => ?_) (fun cdv A outer s0 H vs Q E hr h => ?_)
  · obtain ⟨v, u, c, s, B, d, rfl, _⟩ := h
    rfl
  obtain ⟨v, u, c, s, B, d, rfl, hc, hu, okd, etd, okc, oks, qn, qy⟩ := h
  have hrB : Room (1 + 1) _ := hr.mono (by omega)
  have FM := TM.ok
  have bM := TM.bi
  refine ⟨_, (pss_cons (ps_set (i := 2) scFw.nd rfl (.inl rfl) (pe_fn Co hr rfl (pa_cons (pv 0) (pa_cons (pv 1) (pa_cons (pe_glob (v := .int 400) rfl gMOST ⟨_, rfl⟩) pa_nil)))))
    (pss_cons (ps_if (pt_cmpR op_isN (pv 2) pe_non (nomark _)) (pss_one (ps_raise rfl (takes_of rfl rfl rfl rfl) (pmk_ex TM.ex TM.ty TM.ini TM.tI FM hrB bM rfl TM.g (pa_cons (pe_glob (v := .int 400) rfl gMOST ⟨_, rfl⟩) pa_nil)))) pss_nil)
    (pss_one (ps_ret (pv 2))))), ?_⟩
  refine ⟨_, rfl, _, rfl, cons_c (nil_go ⟨v, u, c, s, B, d, 400, rfl, hc, hu, okd, etd, okc, oks, by decide, fun ys H1 s1 nd big hy => ?_, fun D es xs H1 s1 nD eD ce best few => ?_⟩)⟩
  · refine at_g (σ' := [some v, some u, some .non]) rfl ?_
    refine ⟨_, rfl, rfl, _, rfl, iteT ?_⟩
    refine ⟨(by show 1 ≤ 1000; decide), fun a na => ?_⟩
    refine ⟨a, .int 400, rfl, upd_same, fun dx nx nxa => ⟨rfl, dx, [("many", .int 400)], upd_same, by rw [upd_ne nxa, upd_same], by rw [upd_ne nxa] at nx; exact nx, ?_⟩⟩
    have nx' : H1 dx = none := by rw [upd_ne nxa] at nx; exact nx
    rw [del_upd' na nxa]
    exact qn dx _ ⟨ys, nd, big, hy⟩ (s1.trans (same_new nx')) (s1.free nx') upd_same
  · refine at_g (σ' := [some v, some u, some (.ref D)]) rfl ?_
    refine ⟨_, rfl, rfl, _, rfl, iteF ?_⟩
    exact ⟨_, rfl, qy D es xs H1 s1 nD eD ce best (by omega)⟩
end
end XL
namespace XL
open PySem PySem.Spec PyProof.Rows L2
abbrev sWy : Stmt := topS 20
abbrev sFar : Stmt := topS 21
section
variable {P : Program} {w : World} {K : PySem.W.Frag} {mg : Str → Option Value} {base : Heap}
/-! ### way -/
abbrev nWy : List Str := ["canal", "one", "other", "came", "now", "row", "going"]
theorem scWy : FnScope nWy ["canal", "one", "other"] (defScope sWy) := ⟨rfl, rfl, rfl, by decide +kernel, rfl, by decide +kernel, by decide +kernel⟩
def spWy (K : PySem.W.Frag) (CM : Addr) : Sp := fun vs H Q E => ∃ (v u1 u2 : V) (c : Cn) (s t : Sn) (B : Int) (d1 d2 : PyData), vs = [v, u1, u2] ∧ CnAny K H v c ∧ Dp K H u1 d1 ∧ okD 4 d1 ∧ tupD d1 = snD s ∧ Dp K H u2 d2 ∧ okD 4 d2 ∧ tupD d2 = snD t ∧ okCn 100 100 c ∧ okSn c B s ∧
  (∀ (dd : Addr) (H' : Hp), Over c s 400 → Same H H' → H dd = none → H' dd = some (.xd [("many", .int 400)]) → E (.ref CM) (some dd) H') ∧
  (∀ (xs : Es) (H' : Hp), Same H H' → Best c s xs → xs.length ≤ 400 → (∀ r, (t, r) ∉ xs) → Q .non H') ∧
  (∀ (xs : Es) (r : List Mv) (p : Addr) (us : List V) (H' : Hp), Same H H' → H p = none → Best c s xs → xs.length ≤ 400 → (t, r) ∈ xs → r.length ≤ 400 → MvAt H' p r us → Q (.ref p) H')
/-- the rows are no longer than there are standings -/
theorem best_len {c : Cn} {s : Sn} {xs : Es} (h : Best c s xs) {t : Sn} {r : List Mv} (hr : (t, r) ∈ xs) : r.length < xs.length := by
  have key : ∀ (n : Nat) (r : List Mv) (t : Sn), r.length = n → (t, r) ∈ xs → ∃ ys : List Sn, ys.Nodup ∧ ys.length = n + 1 ∧ ∀ y ∈ ys, ∃ r', (y, r') ∈ xs ∧ r'.length ≤ n := by
    intro n
    induction n with
    | zero => intro r t l hr; exact ⟨[t], by simp, rfl, fun y hy => by rw [List.mem_singleton.mp hy]; exact ⟨r, hr, by omega⟩⟩
    | succ n ih =>
      intro r t l hr
      rcases h.fr _ hr with z | ⟨e', m, he', e1⟩
      · have z : r = [] := z
        rw [z] at l; simp at l
      · have e1 : r = e'.2 ++ [m] := e1
        have l' : e'.2.length = n := by rw [e1] at l; simp at l; exact l
        obtain ⟨ys, nd, ly, hy⟩ := ih e'.2 e'.1 l' he'
        refine ⟨t :: ys, List.nodup_cons.mpr ⟨fun ht => ?_, nd⟩, by rw [List.length_cons, ly], fun y hy' => ?_⟩
        · obtain ⟨r', hr', lr⟩ := hy t ht
          rw [← nd_key h.nd hr hr'] at lr; omega
        · rcases List.mem_cons.mp hy' with rfl | hy'
          · exact ⟨r, hr, by omega⟩
          · obtain ⟨r', h1, h2⟩ := hy y hy'
            exact ⟨r', h1, by omega⟩
  obtain ⟨ys, nd, ly, hy⟩ := key _ r t rfl hr
  have := nd.length_le_of_subset (l₂ := xs.map (·.1)) fun y hy' => by
    obtain ⟨r', h1, _⟩ := hy y hy'
    exact List.mem_map.mpr ⟨_, h1, rfl⟩
  rw [List.length_map] at this
  omega
theorem ok_wy {f fw ft CM : Addr} {fd fdw fdt : FuncData} {k : Nat} (F : Fun K "way" "way" sWy f fd) (Fw : FnX P w K mg base (k + 4) "come_to_few" ["canal", "standing"] (spFw P w K CM) fw fdw) (Tu : Fns P w K mg base 4 "tupled" ["thing"] (spTupled K 4) ft fdt) : FnOk P w K mg base (L2.CX P w) (k + 4 + 1) f fd ["canal", "one", "other"] (spWy K CM) := by
  refine F.okX scWy (fun vs H Q E h => ?_) (fun cdv A outer s0 H vs Q E hr h => ?_)
  · obtain ⟨v, u1, u2, c, s, t, B, d1, d2, rfl, _⟩ := h
    rfl
  obtain ⟨v, u1, u2, c, s, t, B, d1, d2, rfl, hc, hu1, okd1, etd1, hu2, okd2, etd2, okc, oks, qe, qn, qy⟩ := h
  have hrT : Room 4 _ := hr.mono (by omega)
  refine ⟨_, (pss_cons (ps_set (i := 3) scWy.nd rfl (.inl rfl) (pe_callS Fw.ok hr rfl Fw.g Fw.k Fw.b (fun σ => passAt (takes_of rfl rfl rfl rfl) σ) (pa_cons (pv 0) (pa_cons (pv 1) pa_nil))))
    (pss_cons (ps_set (i := 4) scWy.nd rfl (.inl rfl) (pe_fn Tu hrT rfl (pa_cons (pv 2) pa_nil)))
    (pss_cons (ps_if (pt_cmp (pc_nnotin (hu10 hr.units) (pv 4) (pv 3)) rfl) (pss_one (ps_ret pe_non)) pss_nil)
    (pss_cons (ps_set (i := 5) scWy.nd rfl (.inl rfl) (pe_lst pa_nil))
    (pss_cons (ps_while (passes_of rfl) (pt_cmpR op_notN (pe_nget (hu10 hr.units) (pv 3) (pv 4) (fun _ _ => rfl)) pe_non (nomark _))
    (pss_cons (ps_asg (pe_nget (hu10 hr.units) (pv 3) (pv 4) (fun _ _ => rfl)) (pg_any rfl (pgs_cons (pg_name (i := 4) scWy.nd rfl (.inl rfl)) (pgs_cons (pg_name (i := 6) scWy.nd rfl (.inl rfl)) pgs_nil))))
    (pss_one (ps_expr (pe_bm PySem.F.plainAttrs_list PySem.F.slot_list_append PySem.F.type_list_append mt_append (pv 5) (pa_cons (pv 6) pa_nil))))))
    (pss_one (ps_ret (pe_revL (pv 5))))))))), ?_⟩
  refine ⟨_, rfl, _, rfl, nil_go ⟨v, u1, c, s, B, d1, rfl, hc, hu1, okd1, etd1, okc, oks, fun dd H1 ov s1 nd ed => qe dd H1 ov s1 nd ed, fun D es xs H1 s1 nD eD ce best few => ?_⟩⟩
  refine at_g (σ' := [some v, some u1, some u2, some (.ref D), none, none, none]) rfl ?_
  refine ⟨_, rfl, u2, d2, rfl, Dp.same s1 _ hu2, okd2, fun nw H2 s2 hnw => ?_⟩
  rw [etd2] at hnw
  obtain ⟨a0, rfl⟩ := dp_ref hnw
  refine at_g (σ' := [some v, some u1, some u2, some (.ref D), some (.ref a0), none, none]) rfl ?_
  have s12 := s1.trans s2
  replace eD := s2 _ _ eD
  replace ce := ce.mv (Tp.of s2)
  rcases in_dec xs t with ⟨r, hr0⟩ | hno
  · obtain ⟨ov, ho, _⟩ := DE.get ce best.nd hr0
    refine ⟨_, rfl, _, rfl, D, some ov, rfl, ⟨es, kyS t, a0, .inl eD, DE.ky ce, rfl, ky_at hnw, ho.symm⟩, _, rfl, iteF ?_⟩
    have rl := best_len best hr0
    refine ⟨(by show 0 ≤ sizeLine; decide), fun R nR => ?_⟩
    have s3 := s12.trans (same_new nR (o := .lst []))
    have nRH : H R = none := s12.free nR
    have eR : (upd H2 R (.lst [])) R = some (.lst []) := upd_same
    have hDR : D ≠ R := fun z => by rw [← z, eD] at nR; cases nR
    replace eD := (same_new nR (o := .lst [])) _ _ eD
    replace ce := ce.mv (Tp.of (same_new nR (o := .lst [])))
    replace hnw := Dp.same (same_new nR (o := .lst [])) _ hnw
    generalize upd H2 R (.lst []) = H3 at s3 eR eD ce hnw
    refine at_g (σ' := [some v, some u1, some u2, some (.ref D), some (.ref a0), some (.ref R), none]) rfl ?_
    refine ⟨fun m σ G => ∃ (a : Addr) (y : Sn) (ns sf : List Mv) (us : List V) (y6 : Option V), σ = [some v, some u1, some u2, some (.ref D), some (.ref a), some (.ref R), y6] ∧ Same H G ∧ G D = some (DNo P w D es) ∧ CmE K G es xs ∧ Dp K G (.ref a) (snD y) ∧ (y, ns) ∈ xs ∧ r = ns ++ sf ∧ MvAt G R sf.reverse us ∧ m = ns.length, ⟨r.length, a0, t, r, [], [], none, rfl, s3, eD, ce, hnw, hr0, (List.append_nil r).symm, ⟨eR, rfl, fun j u h => by simp at h⟩, rfl⟩, fun m σ G h => ?_⟩
    obtain ⟨a, y, ns, sf, us, y6, rfl, sG, eDG, ceG, ha, hy, er, MG, rfl⟩ := h
    obtain ⟨ov, ho, cv⟩ := DE.get ceG best.nd hy
    refine ⟨_, rfl, _, rfl, D, ov, rfl, ⟨es, kyS y, a, .inl eDG, DE.ky ceG, rfl, ky_at ha, ho.symm⟩, rfl, _, rfl, ?_⟩
    rcases cv with ⟨e1, rfl⟩ | ⟨t1, b1, b2, y2, ns2, m, rfl, et1, hb1, eb2, e5, hy2⟩
    · refine iteF ?_
      refine ⟨_, rfl, R, us, rfl, SqL.of MG.e, fun p np => ?_⟩
      rw [e1, List.nil_append] at er
      refine qy xs r p us.reverse _ (sG.trans (same_new np)) (sG.free np) best few hr0 (by omega) ⟨upd_same, by rw [List.length_reverse, MG.l, List.length_reverse, er], fun j u hu => ?_⟩
      have hj := (List.getElem?_eq_some_iff.mp hu).1
      rw [List.length_reverse] at hj
      rw [List.getElem?_reverse hj] at hu
      obtain ⟨t2, m2, q1, q2, q3⟩ := MG.d _ u hu
      have hl := MG.l
      rw [List.length_reverse] at hl
      rw [List.getElem?_reverse (by omega)] at q2
      refine ⟨t2, m2, q1, ?_, (same_new np) _ _ q3⟩
      rw [er, ← q2]
      congr 1
      omega
    · refine iteT ⟨fun σ' G' => ∃ (a : Addr) (y : Sn) (ns' sf : List Mv) (us : List V) (y6 : Option V), σ' = [some v, some u1, some u2, some (.ref D), some (.ref a), some (.ref R), y6] ∧ Same H G' ∧ G' D = some (DNo P w D es) ∧ CmE K G' es xs ∧ Dp K G' (.ref a) (snD y) ∧ (y, ns') ∈ xs ∧ r = ns' ++ sf ∧ MvAt G' R sf.reverse us ∧ ns'.length < ns.length, fun σ' G' h => ?_, ?_⟩
      · obtain ⟨a', y', ns', sf', us', z6, q1, q2, q3, q4, q5, q6, q7, q8, q9⟩ := h
        exact ⟨ns'.length, q9, a', y', ns', sf', us', z6, q1, q2, q3, q4, q5, q6, q7, q8, rfl⟩
      refine ⟨_, rfl, _, rfl, D, .ref t1, rfl, ⟨es, kyS y, a, .inl eDG, DE.ky ceG, rfl, ky_at ha, ho.symm⟩, t1, _, rfl, .inr (.inl (.inl et1)), rfl, _, _, rfl, _, _, rfl, rfl, ?_⟩
      refine at_g (σ' := [some v, some u1, some u2, some (.ref D), some (.ref b1), some (.ref R), some (.ref b2)]) rfl ?_
      have hul : us.length < sizeLine := lt_line (by rw [MG.l, List.length_reverse]; have := congrArg List.length er; rw [List.length_append] at this; omega)
      refine ⟨_, rfl, .inl ⟨rfl, _, SqL.of MG.e⟩, _, rfl, nil_go ⟨R, _, _, rfl, rfl, MG.e, hul, ?_⟩⟩
      have tR := tp_lst (o := .lst (us ++ [.ref b2])) MG.e
      refine ⟨b1, y2, ns2, m :: sf, us ++ [.ref b2], _, rfl, fun a o hh => by rw [upd_ne (ne_of_none hh nRH)]; exact sG _ _ hh, by rw [upd_ne hDR]; exact eDG, ceG.mv tR, Dp.tp tR _ (noL_sn _) hb1, hy2, ?_, ?_, by rw [e5, List.length_append]; exact Nat.lt_succ_self _⟩
      · rw [er, e5, List.append_assoc]; rfl
      · rw [List.reverse_cons]
        exact MG.snoc (fun b xs e => tR.t _ _ e) (tR.t _ _ eb2) upd_same
  · refine ⟨_, rfl, _, rfl, D, none, rfl, ⟨es, kyS t, a0, .inl eD, DE.ky ce, rfl, ky_at hnw, (DE.none ce hno).symm⟩, _, rfl, iteT ?_⟩
    exact qn xs H2 s12 best few hno
/-! ### far -/
abbrev nFar : List Str := ["canal", "one", "other", "row"]
theorem scFar : FnScope nFar ["canal", "one", "other"] (defScope sFar) := ⟨rfl, rfl, rfl, by decide +kernel, rfl, by decide +kernel, by decide +kernel⟩
def spFar (K : PySem.W.Frag) (CM : Addr) : Sp := fun vs H Q E => ∃ (v u1 u2 : V) (c : Cn) (s t : Sn) (B : Int) (d1 d2 : PyData), vs = [v, u1, u2] ∧ CnAny K H v c ∧ Dp K H u1 d1 ∧ okD 4 d1 ∧ tupD d1 = snD s ∧ Dp K H u2 d2 ∧ okD 4 d2 ∧ tupD d2 = snD t ∧ okCn 100 100 c ∧ okSn c B s ∧
  (∀ (dd : Addr) (H' : Hp), Over c s 400 → Same H H' → H dd = none → H' dd = some (.xd [("many", .int 400)]) → E (.ref CM) (some dd) H') ∧
  (∀ (xs : Es) (H' : Hp), Same H H' → Best c s xs → xs.length ≤ 400 → (∀ r, (t, r) ∉ xs) → Q .non H') ∧
  (∀ (xs : Es) (r : List Mv) (H' : Hp), Same H H' → Best c s xs → xs.length ≤ 400 → (t, r) ∈ xs → Q (.int (r.length : Nat)) H')
theorem ok_far {f fw CM : Addr} {fd fdw : FuncData} {k : Nat} (F : Fun K "far" "far" sFar f fd) (Wy : FnX P w K mg base (k + 1) "way" ["canal", "one", "other"] (spWy K CM) fw fdw) (m_len : mg "len" = none) : FnOk P w K mg base (L2.CX P w) (k + 1 + 1) f fd ["canal", "one", "other"] (spFar K CM) := by
  refine F.okX scFar (fun vs H Q E h => ?_) (fun cdv A outer s0 H vs Q E hr h => ?_)
  · obtain ⟨v, u1, u2, c, s, t, B, d1, d2, rfl, _⟩ := h
    rfl
  obtain ⟨v, u1, u2, c, s, t, B, d1, d2, rfl, hc, hu1, okd1, etd1, hu2, okd2, etd2, okc, oks, qe, qn, qy⟩ := h
  refine ⟨_, (pss_cons (ps_set (i := 3) scFar.nd rfl (.inl rfl) (pe_callS Wy.ok hr rfl Wy.g Wy.k Wy.b (fun σ => passAt (takes_of rfl rfl rfl rfl) σ) (pa_cons (pv 0) (pa_cons (pv 1) (pa_cons (pv 2) pa_nil)))))
    (pss_one (ps_ret (pe_ifExp (pt_cmpR op_isN (pv 3) pe_non (nomark _)) pe_non (pe_callB (r := rLenA K) call_lenA rfl m_len PySem.boot_len (pa_cons (pv 3) pa_nil)))))), ?_⟩
  refine ⟨_, rfl, _, rfl, _, rfl, nil_go ⟨v, u1, u2, c, s, t, B, d1, d2, rfl, hc, hu1, okd1, etd1, hu2, okd2, etd2, okc, oks, fun dd H1 ov s1 nd ed => qe dd H1 ov s1 nd ed, fun xs H1 s1 best few no => ?_, fun xs r p us H1 s1 np best few hr hl M => ?_⟩⟩
  · refine at_g (σ' := [some v, some u1, some u2, some .non]) rfl ?_
    exact ⟨_, rfl, rfl, _, rfl, iteT (qn xs H1 s1 best few no)⟩
  · refine at_g (σ' := [some v, some u1, some u2, some (.ref p)]) rfl ?_
    refine ⟨_, rfl, rfl, _, rfl, iteF ⟨_, rfl, p, us, rfl, .inl (SqL.of M.e), ?_⟩⟩
    rw [M.l]; exact qy xs r H1 s1 best few hr
end
end XL
namespace XL
open PySem PySem.Spec PyProof.Rows L2
abbrev sLy : Stmt := topS 35
theorem ints_lay : ∀ zs : List Int, PyData.canLayAll0 (intsD zs) = true
  | [] => rfl
  | z :: zs => by show (PyData.canLay0 (.int z) && PyData.canLayAll0 (intsD zs)) = true; rw [ints_lay zs]; rfl
theorem ints_deep : ∀ zs : List Int, PyData.depthAll (intsD zs) = 0
  | [] => rfl
  | z :: zs => by show max (PyData.depth (.int z)) (PyData.depthAll (intsD zs)) = 0; rw [ints_deep zs]; rfl
theorem sn_lay (s : Sn) : (snD s).canLay0 = true := by
  simp [snD, PyData.canLay0, PyData.canLayAll0, ints_lay]
theorem sn_deep (s : Sn) : (snD s).depth = 2 := by
  simp [snD, PyData.depth, PyData.depthAll, ints_deep]
theorem sns_lay {α : Type} : ∀ xs : List (Sn × α), PyData.canLayAll0 (xs.map fun x => snD x.1) = true
  | [] => rfl
  | x :: xs => by show ((snD x.1).canLay0 && PyData.canLayAll0 (xs.map fun x => snD x.1)) = true; rw [sn_lay, sns_lay xs]; rfl
theorem sns_deep {α : Type} : ∀ xs : List (Sn × α), PyData.depthAll (xs.map fun x => snD x.1) ≤ 2
  | [] => by simp [PyData.depthAll]
  | x :: xs => by
    have h1 := sns_deep xs
    have h2 := sn_deep x.1
    simp only [List.map_cons, PyData.depthAll]; omega
theorem sns_shaped {α : Type} (xs : List (Sn × α)) : SeqAt.shaped (.list (xs.map fun x => snD x.1)) = true := by
  have h := sns_deep xs
  have e : PyData.depth (.list (xs.map fun x => snD x.1)) ≤ 64 := by simp only [PyData.depth]; omega
  show (PyData.canLay0 (.list (xs.map fun x => snD x.1)) && decide (PyData.depth (.list (xs.map fun x => snD x.1)) ≤ 64)) = true
  rw [Bool.and_eq_true]; exact ⟨by simp only [PyData.canLay0]; exact sns_lay xs, decide_eq_true e⟩
theorem sns_nil {α : Type} (xs : List (Sn × α)) : PyData.eqv (.list (xs.map fun x => snD x.1)) (.list []) = xs.isEmpty := by
  cases xs with
  | nil => rfl
  | cons x xs => simp [PyData.eqv, PyData.eqvAll]
section
variable {P : Program} {w : World} {K : PySem.W.Frag} {mg : Str → Option Value} {base : Heap}
theorem DE.items {α : Type} {H : Hp} {R : α → V → Prop} {es : List NE} {xs : List (Sn × α)} (h : DE K H R es xs) (n : Nat) : DpAll K H ((es.drop n).map fun e => V.ref e.2.1) ((xs.drop n).map fun x => snD x.1) := by
  have key : ∀ (es : List NE) (xs : List (Sn × α)), es.length = xs.length → (∀ (i : Nat) (e : NE), es[i]? = some e → ∃ x, xs[i]? = some x ∧ Dp K H (.ref e.2.1) (snD x.1)) → DpAll K H (es.map fun e => V.ref e.2.1) (xs.map fun x => snD x.1) := by
    intro es
    induction es with
    | nil => intro xs l _; cases xs with
      | nil => exact .nil
      | cons _ _ => simp at l
    | cons e es ih => intro xs l hh; cases xs with
      | nil => simp at l
      | cons x xs =>
        obtain ⟨x', e1, e2⟩ := hh 0 e rfl
        obtain rfl : x = x' := Option.some.inj e1
        exact .cons e2 (ih xs (by simpa using l) fun i e' he => by simpa using hh (i + 1) e' (by simpa using he))
  refine key _ _ (by rw [List.length_drop, List.length_drop, h.l]) fun i e he => ?_
  rw [List.getElem?_drop] at he
  obtain ⟨x, e1, _, e2, _⟩ := h.d _ e he
  exact ⟨x, by rw [List.getElem?_drop]; exact e1, e2⟩
/-! ### layers -/
abbrev nLy : List Str := ["_law_ship_way", "_law_lying_here", "_law_found", "_law_layer", "_law_turn", "_law_later", "_law_here", "_law_move", "_law_there"]
theorem scLy : FnScope nLy ["_law_ship_way", "_law_lying_here"] (defScope sLy) := ⟨rfl, rfl, rfl, by decide +kernel, rfl, by decide +kernel, by decide +kernel⟩
def spLy (P : Program) (w : World) (K : PySem.W.Frag) : Sp := fun vs H Q _ => ∃ (v u : V) (c : Cn) (s : Sn) (B : Int), vs = [v, u] ∧ Dp K H v (cnD c) ∧ Dp K H u (snD s) ∧ okCn 100 100 c ∧ okSn c B s ∧
  (∀ H' : Hp, Over c s 400 → Same H H' → Q .non H') ∧
  (∀ (D : Addr) (es : List NE) (xs : Ds) (H' : Hp), Same H H' → H D = none → H' D = some (DNo P w D es) → FaE K H' es xs → Far c s xs → xs.length ≤ 400 → (∀ e ∈ xs, e.2 ≤ 400) → Q (.ref D) H')
theorem ok_ly {f fs fb : Addr} {fd fds fdb : FuncData} {k : Nat} (F : Fun K "_law_layers" "_law_layers" sLy f fd) (St : Fns P w K mg base k "_law_steps" ["_law_ship_way", "_law_lying_here"] (spSt K) fs fds) (Be : Fns P w K mg base k "_law_behind" ["_law_ship_way", "_law_lying_here", "_law_move"] (spBe K) fb fdb) (m_len : mg "len" = none) (m_range : mg "range" = none) : FnOk P w K mg base CX0 (k + 1) f fd ["_law_ship_way", "_law_lying_here"] (spLy P w K) := by
  refine F.ok scLy (fun vs H Q E h => ?_) (fun cdv A outer s0 H vs Q E hr h => ?_)
  · obtain ⟨v, u, c, s, B, rfl, _⟩ := h
    rfl
  obtain ⟨v, u, c, s, B, rfl, hc, hu, okc, oks, qn, qy⟩ := h
  refine ⟨_, (pss_cons (ps_par (i := 2) (j := 3) rfl scLy.nd rfl rfl (by decide) rfl rfl (pa_cons (pe_ndisp (hu10 hr.units) (pps_cons (pv 1) pe_int pps_nil)) (pa_cons (pe_lst (pa_cons (pv 1) pa_nil)) pa_nil)) rfl)
    (pss_cons (ps_for PassesOwn.never rfl (pi_range1 rfl m_range (pa_cons pe_int pa_nil)) (pg_name (i := 4) scLy.nd rfl (.inl rfl))
    (pss_cons (ps_set (i := 5) scLy.nd rfl (.inl rfl) (pe_lst pa_nil))
    (pss_cons (ps_for PassesOwn.never rfl (pi_seq (pv 3)) (pg_name (i := 6) scLy.nd rfl (.inl rfl))
    (pss_one (ps_for PassesOwn.never rfl (pi_seq (pe_fn St hr rfl (pa_cons (pv 0) (pa_cons (pv 6) pa_nil)))) (pg_name (i := 7) scLy.nd rfl (.inl rfl))
    (pss_cons (ps_set (i := 8) scLy.nd rfl (.inl rfl) (pe_fn Be hr rfl (pa_cons (pv 0) (pa_cons (pv 6) (pa_cons (pv 7) pa_nil)))))
    (pss_one (ps_if (pt_cmp (pc_nnotin (hu10 hr.units) (pv 8) (pv 2)) rfl) (pss_cons (ps_nput (hu10 hr.units) (pv 2) (pv 8) (pe_op op_add (pv 4) pe_int) rfl)
    (pss_one (ps_expr (pe_bm PySem.F.plainAttrs_list PySem.F.slot_list_append PySem.F.type_list_append mt_append (pv 5) (pa_cons (pv 8) pa_nil))))) pss_nil))))))
    (pss_cons (ps_if (pt_cmpR op_gt (pe_callB (r := rLenN P w K) call_lenN rfl m_len PySem.boot_len (pa_cons (pv 2) pa_nil)) pe_int (nomark _)) (pss_one (ps_ret pe_non)) pss_nil)
    (pss_cons (ps_if (pt_cmpR (op_eqD hr.units) (pv 5) (pe_lst pa_nil) (nomark _)) (pss_one (ps_ret (pv 2))) pss_nil)
    (pss_one (ps_set (i := 3) scLy.nd rfl (.inl rfl) (pv 5))))))))
    (pss_one (ps_ret pe_non)))), ?_⟩
  obtain ⟨u, rfl⟩ := dp_ref hu
  refine fun D nD => ⟨_, rfl, upd_same, kyS s, u, _, rfl, ky_at (Dp.same (same_new nD) _ hu), ?_⟩
  rw [upd_upd]
  have sD := same_new nD (o := DNo P w D [(kyS s, u, .int 0)])
  have eD0 : (upd H D (DNo P w D [(kyS s, u, .int 0)])) D = some (DNo P w D [(kyS s, u, .int 0)]) := upd_same
  refine ⟨_, rfl, (by show 1 ≤ sizeLine; decide), fun L0 nL0 => ⟨_, _, rfl, ?_⟩⟩
  have s2 := sD.trans (same_new nL0 (o := .lst [.ref u]))
  replace eD0 := (same_new nL0 (o := .lst [.ref u])) _ _ eD0
  have eL0 : (upd (upd H D (DNo P w D [(kyS s, u, .int 0)])) L0 (.lst [.ref u])) L0 = some (.lst [.ref u]) := upd_same
  refine at_s (σ' := [some v, some (.ref u), some (.ref D), some (.ref L0), none, none, none, none, none]) rfl ?_
  refine at_h (fun G => Same H G ∧ G D = some (DNo P w D [(kyS s, u, .int 0)]) ∧ G L0 = some (.lst [.ref u])) ⟨s2, eD0, eL0⟩ fun H3 hH3 => ?_
  clear s2 eD0 eL0 sD nL0
  obtain ⟨s2, eD0, eL0⟩ := hH3
  refine ⟨_, rfl, by decide, by decide, for_it walk_range (fun i σ Z => ∃ (L : Addr) (p : Nat) (es : List NE) (xs : Ds) (y4 y5 y6 y7 y8 : Option V), σ = [some v, some (.ref u), some (.ref D), some (.ref L), y4, y5, y6, y7, y8] ∧ Same H Z ∧ Z D = some (DNo P w D es) ∧ Z L = some (.lst ((es.drop p).map fun e => V.ref e.2.1)) ∧ FaE K Z es xs ∧ Bf c s p [] xs ∧ (∀ q e, p ≤ q → xs[q]? = some e → e.2 = i) ∧ p < xs.length ∧ xs.length ≤ 400 ∧ i < xs.length) ⟨L0, 0, _, [(s, 0)], none, none, none, none, none, rfl, s2, eD0, eL0, ⟨rfl, fun i e he => ?_⟩, Bf.zero, fun q e _ he => ?_, (by show 0 < 1; decide), (by show 1 ≤ 400; decide), (by show 0 < 1; decide)⟩ (fun _ _ _ _ _ => trivial) (fun i x σ Z Z' hi h hy => ?_) (fun σ Z h => ?_)⟩
  · cases i with
    | zero => obtain rfl := Option.some.inj he; exact ⟨(s, 0), rfl, rfl, Dp.same s2 _ hu, rfl⟩
    | succ i => simp at he
  · cases q with
    | zero => obtain rfl := Option.some.inj he; rfl
    | succ q => simp at he
  · obtain ⟨L, p, es, xs, y4, y5, y6, y7, y8, rfl, sZ, eD, eL, fe, B0, hd, hp, hx4, hix⟩ := h
    obtain ⟨rfl, rfl⟩ := hy
    have h0i : (0 : Int) + (i : Int) = (i : Int) := Int.zero_add _
    refine at_g (σ' := [some v, some (.ref u), some (.ref D), some (.ref L), some (.int (i : Int)), y5, y6, y7, y8]) (by show [some v, some (V.ref u), some (.ref D), some (.ref L), some (.int (0 + (i : Int))), y5, y6, y7, y8] = _; rw [h0i]) ?_
    refine ⟨(by show 0 ≤ sizeLine; decide), fun Fu nFu => ?_⟩
    have s4 := sZ.trans (same_new nFu (o := .lst []))
    have nFuH : H Fu = none := sZ.free nFu
    have eD4 := (same_new nFu (o := .lst [])) _ _ eD
    have eL4 := (same_new nFu (o := .lst [])) _ _ eL
    have fe4 := fe.mv (Tp.of (same_new nFu (o := .lst [])))
    have eF4 : (upd Z' Fu (.lst [])) Fu = some (.lst []) := upd_same
    have hDF : D ≠ Fu := fun z => by rw [← z, eD] at nFu; cases nFu
    have hLF : L ≠ Fu := fun z => by rw [← z, eL] at nFu; cases nFu
    have hDL : D ≠ L := fun z => by rw [z, eL] at eD; exact HO.noConfusion (Option.some.inj eD)
    generalize upd Z' Fu (.lst []) = G4 at s4 eD4 eL4 fe4 eF4
    refine at_g (σ' := [some v, some (.ref u), some (.ref D), some (.ref L), some (.int (i : Int)), some (.ref Fu), y6, y7, y8]) rfl ?_
    have hlen : ((es.drop p).map fun e => V.ref e.2.1).length = xs.length - p := by rw [List.length_map, List.length_drop, fe.l]
    refine ⟨_, rfl, L, _, rfl, .inl (SqL.of eL4), fun J wk => for_it wk (fun j σ Y => ∃ (es' : List NE) (xs' : Ds) (y6 y7 y8 : Option V), σ = [some v, some (.ref u), some (.ref D), some (.ref L), some (.int (i : Int)), some (.ref Fu), y6, y7, y8] ∧ Same H Y ∧ Y D = some (DNo P w D es') ∧ Y L = some (.lst ((es.drop p).map fun e => V.ref e.2.1)) ∧ Y Fu = some (.lst ((es'.drop xs.length).map fun e => V.ref e.2.1)) ∧ FaE K Y es' xs' ∧ Bf c s (p + j) [] xs' ∧ (∀ q e, p ≤ q → q < xs.length → xs'[q]? = some e → e.2 = i) ∧ (∀ q e, xs.length ≤ q → xs'[q]? = some e → e.2 = i + 1) ∧ xs'.length ≤ xs.length + 200 * j ∧ es'.take xs.length = es) ⟨es, xs, y6, y7, y8, rfl, s4, eD4, eL4, ?_, fe4, B0, fun q e h1 _ h2 => hd q e h1 h2, fun q e h1 h2 => ?_, Nat.le_refl _, ?_⟩ (fun j σ Y _ h => ?_) (fun j x σ Y Y' hj h hy => ?_) (fun σ Y h => ?_)⟩
    · rw [List.drop_of_length_le (by rw [fe.l]; exact Nat.le_refl _)]; exact eF4
    · have := (List.getElem?_eq_some_iff.mp h2).1; omega
    · exact List.take_of_length_le (by rw [fe.l]; exact Nat.le_refl _)
    · obtain ⟨es', xs', z6, z7, z8, rfl, _, _, eLZ, _⟩ := h
      exact seq_stay eL4 eLZ
    · obtain ⟨es', xs', z6, z7, z8, rfl, sY, eDZ, eLZ, eFZ, feZ, BZ, d1, d2, xl, tkZ⟩ := h
      obtain ⟨rfl, hx⟩ := hy
      rw [hlen] at hj
      rw [List.getElem?_map, List.getElem?_drop] at hx
      obtain ⟨e, he, rfl⟩ := Option.map_eq_some_iff.mp hx
      have he' : es'[p + j]? = some e := by
        rw [← tkZ, List.getElem?_take] at he
        split at he
        · exact he
        · cases he
      obtain ⟨x, hx', e1, e2, e3⟩ := feZ.d _ e he'
      obtain ⟨ek, ea, ev⟩ := e
      dsimp only at e1 e2 e3
      subst e1
      have xi : x.2 = i := d1 (p + j) x (by omega) (by omega) hx'
      obtain ⟨msx, okx, _, runx⟩ := BZ.d x (List.mem_iff_getElem?.mpr ⟨_, hx'⟩)
      have oksx := runS_ok okc oks okx
      rw [runx] at oksx
      refine at_g (σ' := [some v, some (.ref u), some (.ref D), some (.ref L), some (.int (i : Int)), some (.ref Fu), some (.ref ea), z7, z8]) rfl ?_
      refine ⟨_, rfl, _, rfl, nil_go ⟨v, .ref ea, c, x.1, _, rfl, Dp.same sY _ hc, snAny_t e2, okc, oksx, fun W us G5 s5 nW MW => ?_⟩⟩
      have mlen : (may c x.1 c.ls.length).length ≤ 200 := by have := may_len c x.1 c.ls.length; have := okc.n; omega
      refine ⟨W, us, rfl, .inl (SqL.of MW.e), fun J wk => ?_⟩
      refine for_it wk (fun n σ Y => ∃ (es2 : List NE) (xs2 : Ds) (y7 y8 : Option V), σ = [some v, some (.ref u), some (.ref D), some (.ref L), some (.int (i : Int)), some (.ref Fu), some (.ref ea), y7, y8] ∧ Same H Y ∧ Y D = some (DNo P w D es2) ∧ Y L = some (.lst ((es.drop p).map fun e => V.ref e.2.1)) ∧ Y Fu = some (.lst ((es2.drop xs.length).map fun e => V.ref e.2.1)) ∧ FaE K Y es2 xs2 ∧ Bf c s (p + j) ((may c x.1 c.ls.length).take n) xs2 ∧ (∀ q e, p ≤ q → q < xs.length → xs2[q]? = some e → e.2 = i) ∧ (∀ q e, xs.length ≤ q → xs2[q]? = some e → e.2 = i + 1) ∧ xs2.length ≤ xs.length + 200 * j + n ∧ es2.take xs.length = es ∧ xs2[p + j]? = some x ∧ Y W = some (.lst us) ∧ Tp G5 Y) ⟨es', xs', z7, z8, rfl, sY.trans s5, s5 _ _ eDZ, s5 _ _ eLZ, s5 _ _ eFZ, feZ.mv (Tp.of s5), by rw [List.take_zero]; exact BZ, d1, d2, xl, tkZ, hx', MW.e, Tp.of (Same.refl _)⟩ (fun n σ Y _ h => ?_) (fun n x1 σ Y Y' hn h hy => ?_) (fun σ Y h => ?_)
      · obtain ⟨es2, xs2, z7, z8, rfl, _, _, _, _, _, _, _, _, _, _, _, eW, _⟩ := h
        exact seq_stay MW.e eW
      · obtain ⟨es2, xs2, z7, z8, rfl, sY, eDY, eLY, eFY, feY, BY, d1Y, d2Y, xlY, tkY, hxY, eWY, tpY⟩ := h
        obtain ⟨rfl, hu1⟩ := hy
        obtain ⟨t, m, rfl, hm1, et⟩ := MW.d n x1 hu1
        have et' := tpY.t _ _ et
        have cm : can c x.1 m := mem_may.mp (List.mem_of_getElem? hm1)
        have tks : (may c x.1 c.ls.length).take (n + 1) = (may c x.1 c.ls.length).take n ++ [m] := take_snoc hm1
        have eaY : Dp K Y' (.ref ea) (snD x.1) := Dp.tp tpY _ (noL_sn _) (Dp.same s5 _ e2)
        have hnm := (List.getElem?_eq_some_iff.mp hm1).1
        refine at_g (σ' := [some v, some (.ref u), some (.ref D), some (.ref L), some (.int (i : Int)), some (.ref Fu), some (.ref ea), some (.ref t), z8]) rfl ?_
        refine ⟨_, rfl, _, rfl, _, rfl, nil_go ⟨v, .ref ea, t, m.1, m.2, c, x.1, _, rfl, Dp.same sY _ hc, snAny_t eaY, .inr (.inl (.inl et')), cm.1, okc, oksx, fun v2 Y2 s7 dv2 => ?_⟩⟩
        have dv2 : Dp K Y2 v2 (snD (goM c x.1 m)) := dv2
        obtain ⟨b2, rfl⟩ := dp_ref dv2
        refine at_g (σ' := [some v, some (.ref u), some (.ref D), some (.ref L), some (.int (i : Int)), some (.ref Fu), some (.ref ea), some (.ref t), some (.ref b2)]) rfl ?_
        replace sY := sY.trans s7
        replace eDY := s7 _ _ eDY
        replace eLY := s7 _ _ eLY
        replace eFY := s7 _ _ eFY
        replace feY := feY.mv (Tp.of s7)
        replace eWY := s7 _ _ eWY
        replace tpY := tpY.trans (Tp.of s7)
        clear s7
        rcases in_dec xs2 (goM c x.1 m) with ⟨n0, hn0⟩ | hno
        · refine ⟨_, rfl, _, rfl, D, some (.int (n0 : Nat)), rfl, ⟨es2, kyS (goM c x.1 m), b2, .inl eDY, DE.ky feY, rfl, ky_at dv2, (feY.val BY.nd hn0).symm⟩, _, rfl, iteF ⟨es2, xs2, _, _, rfl, sY, eDY, eLY, eFY, feY, ?_, d1Y, d2Y, by omega, tkY, hxY, eWY, tpY⟩⟩
          rw [tks]
          exact BY.keep hxY hn0
        · refine ⟨_, rfl, _, rfl, D, none, rfl, ⟨es2, kyS (goM c x.1 m), b2, .inl eDY, DE.ky feY, rfl, ky_at dv2, (DE.none feY hno).symm⟩, _, rfl, iteT ?_⟩
          have hwl : es2.length = xs2.length := feY.l
          have hj2 : j < 400 := by omega
          refine ⟨_, rfl, _, _, rfl, rfl, _, rfl, _, rfl, D, _, rfl, ⟨es2, kyS (goM c x.1 m), b2, eDY, DE.ky feY, rfl, ky_at dv2, DE.none feY hno, lt_line (by omega), rfl⟩, ?_⟩
          have wD : W ≠ D := fun z => by rw [z, eDY] at eWY; exact HO.noConfusion (Option.some.inj eWY)
          have wF : W ≠ Fu := fun z => by rw [z, eFZ] at nW; cases nW
          have tD := tp_dn (o := DNo P w D (es2 ++ [(kyS (goM c x.1 m), b2, .int ((i : Int) + 1))])) eDY
          have fe5 : FaE K (upd Y2 D (DNo P w D (es2 ++ [(kyS (goM c x.1 m), b2, .int ((i : Int) + 1))]))) (es2 ++ [(kyS (goM c x.1 m), b2, .int ((i : Int) + 1))]) (xs2 ++ [(goM c x.1 m, x.2 + 1)]) :=
            (feY.mv tD).snoc (Dp.tp tD _ (noL_sn _) dv2) (by rw [xi]; rfl)
          obtain ⟨Pf, hPf⟩ : ∃ Pf : Hp → Prop, Pf = fun Z3 => Same H Z3 ∧ Z3 D = some (DNo P w D (es2 ++ [(kyS (goM c x.1 m), b2, .int ((i : Int) + 1))])) ∧ Z3 L = some (.lst ((es.drop p).map fun e => V.ref e.2.1)) ∧ Z3 Fu = some (.lst ((es2.drop xs.length).map fun e => V.ref e.2.1)) ∧ FaE K Z3 (es2 ++ [(kyS (goM c x.1 m), b2, .int ((i : Int) + 1))]) (xs2 ++ [(goM c x.1 m, x.2 + 1)]) ∧ Z3 W = some (.lst us) ∧ Tp G5 Z3 := ⟨_, rfl⟩
          have hP : Pf (upd Y2 D (DNo P w D (es2 ++ [(kyS (goM c x.1 m), b2, .int ((i : Int) + 1))]))) := by
            rw [hPf]
            exact ⟨fun a o ha => by rw [upd_ne (ne_of_none ha nD)]; exact sY _ _ ha, upd_same, by rw [upd_ne hDL.symm]; exact eLY, by rw [upd_ne hDF.symm]; exact eFY, fe5, by rw [upd_ne wD]; exact eWY, tpY.trans tD⟩
          refine at_h Pf hP fun Z3 h3 => ?_
          rw [hPf] at h3
          obtain ⟨sZ3, eD3, eL3, eF3, fe3, eW3, tp3⟩ := h3
          have hl3 : ((es2.drop xs.length).map fun e => V.ref e.2.1).length < sizeLine := lt_line (by rw [List.length_map, List.length_drop]; omega)
          refine ⟨_, rfl, .inl ⟨rfl, _, SqL.of eF3⟩, _, rfl, nil_go ⟨Fu, _, _, rfl, rfl, eF3, hl3, ?_⟩⟩
          have tF := tp_lst (o := .lst (((es2.drop xs.length).map fun e => V.ref e.2.1) ++ [.ref b2])) eF3
          have lx2 : xs.length ≤ es2.length := by
            have := congrArg List.length tkY
            rw [List.length_take, fe.l] at this; omega
          have oldq : ∀ {q : Nat} {e}, (xs2 ++ [(goM c x.1 m, x.2 + 1)])[q]? = some e → q < xs2.length → xs2[q]? = some e := fun {q e} h1 h2 => by rw [List.getElem?_append_left h2] at h1; exact h1
          refine ⟨_, _, _, _, rfl, fun a o ha => by rw [upd_ne (ne_of_none ha nFuH)]; exact sZ3 _ _ ha, by rw [upd_ne hDF]; exact eD3, by rw [upd_ne hLF]; exact eL3, ?_, fe3.mv tF, ?_, fun q e h1 h2 h3 => d1Y q e h1 h2 (oldq h3 (by omega)), fun q e h1 h2 => ?_, by rw [List.length_append, List.length_singleton]; omega, ?_, by rw [List.getElem?_append_left (List.getElem?_eq_some_iff.mp hxY).1]; exact hxY, by rw [upd_ne wF]; exact eW3, tp3.trans tF⟩
          · rw [upd_same, List.drop_append_of_le_length lx2, List.map_append]; rfl
          · rw [tks]; exact BY.add hxY cm hno
          · by_cases hq : q < xs2.length
            · exact d2Y q e h1 (oldq h2 hq)
            · have ql := (List.getElem?_eq_some_iff.mp h2).1
              rw [List.length_append, List.length_singleton] at ql
              rw [List.getElem?_append_right (by omega), show q - xs2.length = 0 by omega] at h2
              rw [← Option.some.inj h2, xi]
          · rw [List.take_append_of_le_length lx2]; exact tkY
      · obtain ⟨es2, xs2, z7, z8, rfl, sY, eDY, eLY, eFY, feY, BY, d1Y, d2Y, xlY, tkY, hxY, eWY, tpY⟩ := h
        have usl : us.length ≤ 200 := by rw [MW.l]; exact mlen
        refine ⟨es2, xs2, _, _, _, rfl, sY, eDY, eLY, eFY, feY, ?_, d1Y, d2Y, by omega, tkY⟩
        rw [← Nat.add_assoc]
        refine BY.next hxY fun m hm => ?_
        rw [List.take_of_length_le (by rw [MW.l]; exact Nat.le_refl _)]
        exact mem_may.mpr hm
    · obtain ⟨es', xs', z6, z7, z8, rfl, sY, eDY, eLY, eFY, feY, BY, d1Y, d2Y, xlY, tkY⟩ := h
      rw [hlen, show p + (xs.length - p) = xs.length by omega] at BY
      have lx2 : xs.length ≤ xs'.length := by
        have := congrArg List.length tkY
        rw [List.length_take, fe.l, feY.l] at this; omega
      refine ⟨_, rfl, D, es', rfl, .inl eDY, DE.ky feY, _, _, rfl, rfl, _, rfl, ?_⟩
      rw [feY.l]
      by_cases big : 400 < xs'.length
      · rw [decide_eq_true (show ((xs'.length : Nat) : Int) > 400 by omega)]
        refine iteT (qn _ ⟨xs'.map (·.1), BY.nd, by rw [List.length_map]; exact big, fun y hy => ?_⟩ sY)
        obtain ⟨e, he, rfl⟩ := List.mem_map.mp hy
        obtain ⟨ms, m1, _, m3⟩ := BY.d e he
        exact ⟨ms, m1, m3⟩
      · rw [decide_eq_false (show ¬ ((xs'.length : Nat) : Int) > 400 by omega)]
        refine iteF ⟨_, rfl, (by show 0 ≤ sizeLine; decide), fun em nem => ?_⟩
        have s9 := same_new nem (o := .lst [])
        have it : DpAll K (upd Y em (.lst [])) ((es'.drop xs.length).map fun e => V.ref e.2.1) ((xs'.drop xs.length).map fun x : Sn × Nat => snD x.1) := DpAll.same s9 _ (DE.items feY xs.length)
        refine ⟨.list ((xs'.drop xs.length).map fun x : Sn × Nat => snD x.1), .list [], .lst (SqL.of (s9 _ _ eFY)) it, .lst (SqL.of upd_same) .nil, sns_shaped _, rfl, _, rfl, ?_⟩
        rw [sns_nil]
        generalize upd Y em (.lst []) = Y9 at s9
        have sY9 := sY.trans s9
        have eDY9 := s9 _ _ eDY
        have eFY9 := s9 _ _ eFY
        have feY9 := feY.mv (Tp.of s9)
        by_cases z : xs'.drop xs.length = []
        · rw [z]
          have zl := congrArg List.length z
          rw [List.length_drop, List.length_nil] at zl
          refine iteT ⟨_, rfl, qy D es' xs' Y9 sY9 nD eDY9 feY9 (BY.done (by omega)) (by omega) fun e he => ?_⟩
          obtain ⟨q, hq⟩ := List.mem_iff_getElem?.mp he
          have ql := (List.getElem?_eq_some_iff.mp hq).1
          have hi4 : i < 401 := hi
          by_cases qp : p ≤ q
          · rw [d1Y q e qp (by omega) hq]; omega
          · have pl : p < xs'.length := by omega
            have hpx := d1Y p _ (Nat.le_refl _) hp (List.getElem?_eq_getElem pl)
            obtain ⟨l1, g1⟩ := List.getElem?_eq_some_iff.mp hq
            have := List.pairwise_iff_getElem.mp BY.so q p l1 pl (by omega)
            rw [g1, hpx] at this
            omega
        · rw [show (xs'.drop xs.length).isEmpty = false by rw [Bool.eq_false_iff]; exact fun q => z (List.isEmpty_iff.mp q)]
          have zl : xs.length < xs'.length := by
            by_cases q : xs.length < xs'.length
            · exact q
            · exact absurd (List.drop_of_length_le (by omega)) z
          refine iteF ⟨_, rfl, ?_⟩
          refine at_g (σ' := [some v, some (.ref u), some (.ref D), some (.ref Fu), some (.int (i : Int)), some (.ref Fu), z6, z7, z8]) rfl ?_
          exact ⟨Fu, xs.length, es', xs', _, _, _, _, _, rfl, sY9, eDY9, eFY9, feY9, BY, fun q e h1 h2 => d2Y q e h1 h2, zl, by omega, by omega⟩
  · obtain ⟨L, p, es, xs, y4, y5, y6, y7, y8, rfl, sZ, eD, eL, fe, B0, hd, hp, hx4, hix⟩ := h
    have : ((401 : Int)).toNat = 401 := rfl
    omega
end
end XL
namespace XL
open PySem PySem.Spec PyProof.Rows L2 LamX
/-! ### a law's call where lambdas are made (tables of code grow) and reprs are asked -/
/-- what is tracked at first: the tables, and the script unless it is written -/
structure First (K : PySem.W.Frag) (H : Hp) (tb : List Addr) (a : Addr) (u : HO) : Prop where
  t : ∀ b ∈ tb, H b = some (.tbl #[])
  o : ∀ b v, H b = some v → (b ∈ tb ∧ v = .tbl #[]) ∨ (b = a ∧ v = u ∧ K.lookup a = none)
theorem law_callTG {P : Program} {w : World} {K : PySem.W.Frag} {mg mb : Str → Option Value} {k : Nat} {fa a : Addr} {cs : List (Addr × Addr)} {fd : FuncData} {x : Str} {sp : Sp} {s₁ : Shared} {vs : List Value} {ns : List Int}
    (KX : K.In s₁.heap) (hns : s₁.heap.Ns mainGlobals mg) (hb : s₁.heap.Ns builtinsNs mb) (hbb : ∀ x : Str, x ≠ "__name__" → mb x = bootBuiltins x) (hlim : s₁.heap.NoLimit) (hg : s₁.gens = #[])
    (bmain : ∃ bm ob, mg "__builtins__" = some (.ref bm) ∧ bm ≠ builtinsNs ∧ s₁.heap.get? bm = some ob ∧ ob.cls = .type "module" ∧ ob.dict = some builtinsNs ∧ ob.data = .plain)
    (hT : ∀ p ∈ cs, PySem.W.CodeHd s₁.heap p.1 p.2 ∧ s₁.heap.get? p.2 = some (PySem.W.tabObj #[])) (nT : ∀ p ∈ cs, K.lookup p.2 = none)
    (ha : s₁.heap.get? a = some { cls := .type "list", data := .seq vs.toArray }) (hi : IntsAre vs ns) (hl : ns.length ≤ sizeLine) (hr : Room k callerA)
    (F : ∀ base : Heap, K.In base → base.Ns mainGlobals mg → (∀ p ∈ cs, TabB base mg p.1 p.2) → FnG P w K mg base k fa fd [x] sp) (hbind : ∀ (s : Shared) (u : Value), BindsTo s fd ⟨[u], []⟩ [(x, u)])
    (hsp : ∀ H : Hp, (∀ p ∈ cs, H p.2 = some (.tbl #[])) → SqL K H a (ns.map V.int) → sp [.ref a] H (fun v _ => v = .bl true) fun _ _ _ => False) :
    codeAny (model P w) callerA (.call (.ref fa) ⟨[.ref a], []⟩) (fun r s' => r = .ok (.ret (.bool true)) ∧ OldK s₁.heap s'.heap ∧ s'.os = s₁.os ∧ AllBare s'.gens) s₁ := by
  have rv := vals_ints hi
  have lenV := hi.length
  obtain ⟨u, hu⟩ : ∃ u : HO, u = .frz { cls := .type "list", data := .seq vs.toArray } (.lst (ns.map V.int)) := ⟨_, rfl⟩
  obtain ⟨tb, htb⟩ : ∃ tb, tb = cs.map (·.2) := ⟨_, rfl⟩
  have tab : ∀ b ∈ tb, s₁.heap.get? b = some (PySem.W.tabObj #[]) := fun b h => by
    rw [htb] at h
    obtain ⟨p, hp, rfl⟩ := List.mem_map.mp h
    exact (hT p hp).2
  have noK : ∀ b ∈ tb, K.lookup b = none := fun b h => by
    rw [htb] at h
    obtain ⟨p, hp, rfl⟩ := List.mem_map.mp h
    exact nT p hp
  have into : ∀ p ∈ cs, p.2 ∈ tb := fun p hp => by rw [htb]; exact List.mem_map.mpr ⟨p, hp, rfl⟩
  have naT : a ∉ tb := fun h => by
    have e := tab a h
    rw [ha] at e
    have := congrArg Obj.data (Option.some.inj e)
    exact absurd this (by simp [PySem.W.tabObj])
  have core : ∀ H : Hp, First K H tb a u → SqL K H a (ns.map V.int) → codeAny (model P w) callerA (.call (.ref fa) ⟨[.ref a], []⟩)
      (fun r s' => r = .ok (.ret (.bool true)) ∧ OldK s₁.heap s'.heap ∧ s'.os = s₁.os ∧ AllBare s'.gens) s₁ := by
    intro H I hS
    have hok : HOk P w H s₁.heap := fun b v e => by
      rcases I.o b v e with ⟨h1, rfl⟩ | ⟨rfl, rfl, _⟩
      · exact tab b h1
      · rw [hu]; exact ⟨ha, by rw [List.length_map]; exact hl, vs, _, rv, ha⟩
    have plain : ∀ {b : Addr} {o : Obj}, s₁.heap.get? b = some o → (∀ vs n, o.data ≠ .seq vs n) → o.data ≠ .fields #[] → H b = none := by
      intro b o e n1 n2
      cases q : H b with
      | none => rfl
      | some v =>
        rcases I.o b v q with ⟨h1, _⟩ | ⟨rfl, _⟩
        · rw [tab b h1] at e; cases e; exact absurd rfl n2
        · rw [ha] at e; cases e; exact absurd rfl (n1 _ _)
    have nsK : ∀ {b : Addr} {m : Str → Option Value}, s₁.heap.Ns b m → (hidT s₁.heap H).Ns b m := by
      intro b m hm
      obtain ⟨o, es, ep, e, d, r⟩ := hm
      exact ⟨o, es, ep, hidT_get e (plain e (by rw [d]; intro _ _ z; cases z) (by rw [d]; intro z; cases z)), d, r⟩
    have hKb : K.In (hidT s₁.heap H) := by
      intro b o e
      refine hidT_get (KX b o e) ?_
      cases q : H b with
      | none => rfl
      | some v =>
        rcases I.o b v q with ⟨h1, _⟩ | ⟨rfl, _, h2⟩
        · rw [noK b h1] at e; cases e
        · rw [h2] at e; cases e
    have hM : Mod K mg (hidT s₁.heap H) := by
      obtain ⟨mc, c1, c2⟩ := hlim
      exact ⟨hKb, nsK hns, ⟨mb, nsK hb, hbb⟩, ⟨mc, nsK c1, c2⟩⟩
    have TB : ∀ p ∈ cs, TabB (hidT s₁.heap H) mg p.1 p.2 := fun p hp => by
      obtain ⟨C, eT⟩ := hT p hp
      have gne : mainGlobals ≠ p.2 := fun z => by
        obtain ⟨o, es, ep, e, d, _⟩ := hns
        rw [z, eT] at e; cases e; cases d
      refine ⟨?_, ?_, gne⟩
      · obtain ⟨o, us, file, tf, flags, tg, inF, text, tt, e1, r1, r2, r3, r⟩ := C
        refine ⟨o, us, file, tf, flags, tg, inF, text, tt, hidT_get e1 (plain e1 (by rw [r2]; intro _ _ z; cases z) (by rw [r2]; intro z; cases z; simp at r3)), r1, r2, r3, r⟩
      · obtain ⟨bm, ob, b1, b2, b3, b4, b5, b6⟩ := bmain
        refine ⟨bm, ob, b1, b2, fun z => ?_, fun z => ?_, hidT_get b3 (plain b3 (by rw [b6]; intro _ _ z; cases z) (by rw [b6]; intro z; cases z)), b4, b5, b6⟩
        · obtain ⟨o, es, ep, e, d, _⟩ := hns
          rw [z, e] at b3; cases b3; rw [d] at b6; cases b6
        · rw [z, eT] at b3; cases b3; cases b6
    have e0 : Env0 P w K mg (hidT s₁.heap H) callerA [] s₁ H := by
      refine ⟨rfl, hM, fun b o e => of_hidT e, Nat.le_of_eq (hidT_size _ _), trivial, fun b hb => ?_, hok, .of_eq hg⟩
      exact absurd (show b ∈ ([] : List Addr) from hb) (by simp)
    refine codeAny_mono ((F _ hKb (nsK hns) TB).run callerA [] s₁ H ⟨[.ref a], []⟩ [.ref a] [.ref a] _ _ rfl hr e0 (hbind s₁ (.ref a)) (.cons rfl .nil) (hsp H (fun p hp => I.t _ (into p hp)) hS)) fun r s' h => ?_
    cases r with
    | error e => exact False.elim h
    | ok fl =>
      cases fl with
      | next => exact False.elim h
      | brk => exact False.elim h
      | cont => exact False.elim h
      | ret v' =>
        obtain ⟨v, H', os, bare, un, hok', r', q⟩ := h
        have q' : v = .bl true := q
        subst q'
        obtain rfl : v' = Value.bool true := r'
        have stay : ∀ b o, b ∉ tb → s₁.heap.get? b = some o → s'.heap.get? b = some o := fun b o nb e => by
          cases q : H b with
          | none => exact un.keep b o e q (by intro z; exact absurd (show b ∈ ([] : List Addr) from z) (by simp)) (by simp)
          | some z =>
            rcases I.o b z q with ⟨h1, _⟩ | ⟨_, rfl, _⟩
            · exact absurd h1 nb
            · rw [hu] at q
              have z2 := un.frzs b _ _ q
              obtain ⟨e1, _⟩ := hok b _ q
              obtain ⟨e2, _⟩ := hok' b _ z2
              rw [e] at e1; cases e1; exact e2
        have grow : ∀ b ∈ tb, ∃ more : Array Value, s'.heap.get? b = some (PySem.W.tabObj more) := fun b hb => by
          obtain ⟨more, z⟩ := un.tbls b #[] (I.t b hb)
          exact ⟨_, hok' b _ z⟩
        refine ⟨rfl, ⟨fun b o e => ?_, fun b o e => ?_⟩, os, bare⟩
        · by_cases hb : b ∈ tb
          · obtain ⟨more, hm⟩ := grow b hb
            rw [tab b hb] at e
            obtain rfl := Option.some.inj e
            rw [htb] at hb
            obtain ⟨p, hp, rfl⟩ := List.mem_map.mp hb
            exact .inr (.inl ⟨((hT p hp).1.tab (hT p hp).2).isCodeTable, rfl, #[], more, rfl, by rw [Array.empty_append]; exact hm⟩)
          · exact .inl (stay b o hb e)
        · by_cases hb : b ∈ tb
          · obtain ⟨more, hm⟩ := grow b hb
            exact ⟨_, hm⟩
          · exact ⟨o, stay b o hb e⟩
  cases hk : K.lookup a with
  | some o =>
    have e := KX a o hk
    rw [ha] at e; cases e
    refine core (fun b => if b ∈ tb then some (.tbl #[]) else none) ⟨fun b hb => if_pos hb, fun b v e => ?_⟩ (.inr ⟨_, vs.toArray, _, hk, rfl, rfl, rfl, by rw [List.size_toArray, lenV]; exact hl, by simpa using rv⟩)
    by_cases hb : b ∈ tb
    · rw [if_pos hb] at e
      exact .inl ⟨hb, (Option.some.inj e).symm⟩
    · rw [if_neg hb] at e; cases e
  | none =>
    refine core (fun b => if b = a then some u else if b ∈ tb then some (.tbl #[]) else none) ⟨fun b hb => ?_, fun b v e => ?_⟩ (.inl (.inr ⟨_, (by show (if a = a then some u else _) = _; rw [if_pos rfl, hu])⟩))
    · rw [if_neg (fun z => naT (by rw [← z]; exact hb)), if_pos hb]
    · by_cases q : b = a
      · rw [if_pos q] at e
        exact .inr ⟨q, (Option.some.inj e).symm, hk⟩
      · rw [if_neg q] at e
        by_cases hb : b ∈ tb
        · rw [if_pos hb] at e
          exact .inl ⟨hb, (Option.some.inj e).symm⟩
        · rw [if_neg hb] at e; cases e
/-- the same by what a walk tells: sp may speak of the tables -/
def LawT (P : Program) (w : World) (K : PySem.W.Frag) (k n : Nat) (x : Str) (mg : Str → Option Value) (fa : Addr) (h : Heap) : Prop :=
  ∃ (fd : FuncData) (cs : List (Addr × Addr)) (sp : Sp), (∀ p ∈ cs, PySem.W.CodeHd h p.1 p.2 ∧ h.get? p.2 = some (PySem.W.tabObj #[])) ∧ (∀ p ∈ cs, K.lookup p.2 = none) ∧ (∀ (s : Shared) (u : Value), BindsTo s fd ⟨[u], []⟩ [(x, u)]) ∧
    (∀ (H : Hp) (a : Addr) (ns : List Int), ns.length ≤ n → (∀ p ∈ cs, H p.2 = some (.tbl #[])) → SqL K H a (ns.map V.int) → sp [.ref a] H (fun v _ => v = .bl true) fun _ _ _ => False) ∧
    ∀ base : Heap, K.In base → base.Ns mainGlobals mg → (∀ p ∈ cs, TabB base mg p.1 p.2) → FnG P w K mg base k fa fd [x] sp
theorem walkTG {l : PySem.W.OpenLaw} {n k : Nat} {q : Program} {loose : List Str} {XP : (Str → Option Value) → Heap → Prop} {YP : World → Heap → Prop} {d : DefRec} {K : Params → PySem.W.Frag} {x : Str}
    (hn : l.most = some n) (hn2 : n ≤ sizeLine) (hdf : d.params.defaults = []) (hr : Room k callerA) (hY : ∀ (w : World) (h : Heap), YP w h → (K w.params).In h)
    (F : ∀ (w : World) (mean : ExcName → Option Value) (mg mb : Str → Option Value) (fa : Addr) (h : Heap), (K w.params).In h → Top q (PySem.W.looseW q loose) mean mg mb h → mg d.name = some (.ref fa) → LawT l.prog w (K w.params) k n x mg fa h) :
    PySem.W.WalkO q loose XP YP l.row.toRowW d [] (fun f vs => PySem.call f vs) := by
  refine Att.attach_call hn hdf fun w s₀ s₁ mg mb fa o pm cd doc a vs ns G Y ho hd hcd hmg hobj hints hlen hg => ?_
  have KX := hY w _ Y
  obtain ⟨fd, cs, sp, h1, h2, hb, hsp, hF⟩ := F w _ mg mb fa _ KX G.T hmg
  exact law_callTG KX G.T.g G.T.b G.T.builtins G.T.nolimit hg G.T.bmain h1 h2 hobj hints (Nat.le_trans hlen hn2) hr hF hb fun H hT hS => hsp H a ns hlen hT hS
end XL
namespace XL
open PySem PySem.Spec PyProof.Rows L2 LamX
section
variable {X : Cx} {pins : List (Addr × Obj)} {σ : L2.St} {H : Hp} {s : Shared} {W : WX}
/-- of the names nothing is said any more -/
theorem Inv.blank {n : Nat} (hn : X.N.length = n) (I : Inv X pins σ H s) : Inv X pins (List.replicate n none) H s := by
  obtain ⟨ok, os, bare, base, ⟨m, hm, _⟩, cell, free, freeC, pin, hok, len⟩ := I
  refine ⟨ok, os, bare, base, ⟨m, hm, fun i x v _ e _ => ?_⟩, cell, free, freeC, pin, hok, by rw [List.length_replicate, hn]⟩
  rw [List.getElem?_replicate] at e
  split at e
  · cases e
  · cases e
theorem Takes.blank {n : Nat} (t : Takes X W) (hn : X.N.length = n) : Takes X (fun cls d _ H => W cls d (List.replicate n none) H) := fun u s' ⟨a, B, sI, pins, σ, H, cls, d, e, I, nb, up, sky, na, os, ag, hw⟩ =>
  t u s' ⟨a, B, sI, pins, _, H, cls, d, e, Inv.blank hn I, nb, up, sky, na, os, ag, hw⟩
/-- what is asked of the answer may be less -/
theorem PE.less {e : Expr} {t : TE} (h : PE X e t) : PE X e (fun σ H Q => ∃ Q0 : VK, (∀ v H', Q0 v H' → Q v H') ∧ t σ H Q0) := ⟨fun pins s σ H Q I ⟨Q0, m, q⟩ => thn (h.run pins s σ H Q0 I q) fun _ _ ⟨v, H', I', r, z⟩ => ⟨v, H', I', r, m v H' z⟩⟩
theorem PE.some {α : Sort _} {e : Expr} {t : α → TE} (h : ∀ a, PE X e (t a)) : PE X e (fun σ H Q => ∃ a, t a σ H Q) := ⟨fun pins s σ H Q I ⟨a, q⟩ => (h a).run pins s σ H Q I q⟩
theorem PE.if {p : Prop} {e : Expr} {t : TE} (h : p → PE X e t) : PE X e (fun σ H Q => p ∧ t σ H Q) := ⟨fun pins s σ H Q I ⟨a, q⟩ => (h a).run pins s σ H Q I q⟩
end
/-! ### heaps where the box is drawn from and the tables grow -/
theorem codeO_lst {c : Addr} {q : Str} (xs : List V) : CodeO c q ≠ .lst xs := fun z => by
  unfold CodeO at z
  cases z
end XL
namespace XL
open PySem PySem.Spec PyProof.Rows L2 LamX
abbrev sTd : Stmt := topS 36
section
variable {P : Program} {w : World} {K : PySem.W.Frag} {mg : Str → Option Value} {base : Heap}
/-- what tells TooMany from the two others -/
structure Tell (K : PySem.W.Frag) (mg : Str → Option Value) (CM CB CN : Addr) : Prop where
  b : mg "NoBoat" = some (.ref CB)
  n : mg "NoCounts" = some (.ref CN)
  m : mg "TooMany" = some (.ref CM)
  ex : ExK K CM 3
  xm : PySem.W.exmAny K (.ref CM) [.ref CB, .ref CN, .ref CM] = some true
  k1 : PySem.W.kitOne K (.ref CM) (.ref CM) = some true
  k2 : PySem.W.kitAny K (.ref CM) [.ref CB, .ref CN] = some false
  k3 : PySem.W.kitOne K (.ref CM) (.type "OverflowError") = some true
  no : PySem.W.findIn K (.ref CM) "many" = some none
abbrev nTd : List Str := ["_law_ask", "_law_found", "_law_caught", "error", "_law_fine"]
theorem scTd : FnScope nTd ["_law_ask"] (defScope sTd) := ⟨rfl, rfl, rfl, by decide +kernel, rfl, by decide +kernel, by decide +kernel⟩
abbrev manyV : List V := [.str (Str.ofString "many"), .int 400]
/-- what is told of what was asked -/
def TTm (CM : Addr) : (XK → Hp → VK → Prop) → Hp → VK → Prop := fun tl H Q => ∀ H1, Same H H1 → tl (fun cls d H2 => cls = .ref CM ∧ ∃ dd, d = some dd ∧ H2 dd = some (.xd [("many", .int 400)]) ∧ ∀ (p : Addr) (H3 : Hp), Same H2 H3 → H3 p = some (.tup manyV) → Q (.ref p) H3) H1 Q
theorem told_gv {X : Cx} {CM CB CN g : Addr} {cdg : Value} {q : Str} (TT : Tell X.K X.mg CM CB CN) (m_isinstance : X.mg "isinstance" = none) (m_OverflowError : X.mg "OverflowError" = none) : GivesTo X nTd "_law_told" (defScope sTd) g cdg (defBody sTd) "_law_ask" q (TTm CM) := by
  intro f c' s H Q tl act hc h
  have gB := TT.b
  have gN := TT.n
  have gM := TT.m
  have TX := TT.ex
  have noM := TT.no
  refine ⟨_, (pss_cons (ps_asg (pe_tup (pa_cons pe_non (pa_cons pe_non pa_nil))) (pg_any rfl (pgs_cons (pg_name (i := 1) scTd.nd rfl (.inl rfl)) (pgs_cons (pg_name (i := 2) scTd.nd rfl (.inl rfl)) pgs_nil))))
    (pss_cons (ps_try_ct (i := 3) (cs := [.ref CB, .ref CN, .ref CM]) (tb := fun W => tAsg (fun σZ HZ Q => ∃ Q0 : VK, (∀ v H', Q0 v H' → Q v H') ∧ ∃ Ech : XK, (∀ cls d H', Ech cls d H' → W cls d [none, none, none, none, none] H') ∧ σZ[0]? = some (some (.ref f)) ∧ HZ c' = some (CodeO c' q) ∧ tl Ech HZ Q0) (gName 1)) (ts := fun _ _ _ => tAsg (tVar 3) (gName 2)) rfl rfl scTd.nd rfl rfl (ev_cons rfl gB (ev_cons rfl gN (ev_cons rfl gM ev_nil))) (ext3 _ _ _) rfl (by show 3 ≤ 1000; decide)
      (fun W pn xe tk _ => pss_one (ps_set (i := 1) scTd.nd rfl (.inl rfl) (PE.less (PE.some fun Ech => PE.if fun hE => act (fun cls d _ H' => W cls d [none, none, none, none, none] H') pn xe Ech _ _ (Takes.blank (n := 5) tk rfl) (fun cls d _ H' h => hE cls d H' h)))))
      (fun a oe cls d pn hz hf => pss_one (ps_set (i := 2) scTd.nd rfl (.inl rfl) (pv 3))))
    (pss_cons (ps_if (pt_cmpR op_isN (pv 2) pe_non (nomark _)) (pss_one (ps_ret (pv 1))) pss_nil)
    (pss_cons (ps_set (i := 4) scTd.nd rfl (.inl rfl) (pe_and (pe_callB call_isK rfl m_isinstance boot_isinstance (pa_cons (pv 2) (pa_cons (pe_glob (v := .ref CM) rfl gM rfl) pa_nil))) (pe_one (pe_callB call_isK rfl m_isinstance boot_isinstance (pa_cons (pv 2) (pa_cons (pe_bltn (v := .ty "OverflowError") rfl m_OverflowError boot_OverflowError rfl) pa_nil))))))
    (pss_one (ps_ret (pe_ifExp (PW.pt (pw_and (pt_val (pv 4)) (pw_and1 (pt_not (pt_val (pe_callB call_isKT rfl m_isinstance boot_isinstance (pa_cons (pv 2) (pa_cons (pe_tup (pa_cons (pe_glob (v := .ref CB) rfl gB rfl) (pa_cons (pe_glob (v := .ref CN) rfl gN rfl) pa_nil))) pa_nil)))))))) (pe_tup (pa_cons pe_str (pa_cons (pe_kget TX noM (pv 2)) pa_nil))) pe_str))))))), ?_⟩
  refine ⟨(by show 2 ≤ sizeLine; decide), fun tp ntp => ?_⟩
  have t0 := same_new ntp (o := .tup [.non, .non])
  have e0 : (upd H tp (.tup [.non, .non])) tp = some (.tup [.non, .non]) := upd_same
  generalize upd H tp (.tup [.non, .non]) = H1 at t0 e0
  refine ⟨tp, _, rfl, .inr (.inl (.inl e0)), rfl, _, _, rfl, _, _, rfl, rfl, ?_⟩
  refine at_g (σ' := [some (.ref f), some .non, some .non, none, none]) rfl ?_
  refine ⟨Q, fun v H2 qv => ?_, _, ?_, rfl, t0 _ _ hc, h H1 t0⟩
  · refine at_g (σ' := [some (.ref f), some v, some .non, none, none]) rfl ?_
    exact ⟨_, rfl, rfl, _, rfl, iteT ⟨_, rfl, qv⟩⟩
  · rintro cls d H2 ⟨rfl, dd, rfl, ed, qe⟩
    refine ⟨TT.xm, fun a na => ?_⟩
    have sa : Same H2 (upd H2 a (exk a (.ref CM) (some dd))) := same_new na
    refine ⟨_, rfl, ?_⟩
    have ed' := sa _ _ ed
    have ea : (upd H2 a (exk a (.ref CM) (some dd))) a = some (exk a (.ref CM) (some dd)) := upd_same
    refine at_g (σ' := [none, none, some (.ref a), some (.ref a), none]) rfl ?_
    dsimp only
    refine at_s (σ' := [none, none, some (.ref a), none, none]) rfl ?_
    generalize upd H2 a (exk a (.ref CM) (some dd)) = H3 at ed' ea sa
    refine ⟨_, rfl, rfl, _, rfl, iteF ?_⟩
    have hx : ∀ {G : Hp}, Same H3 G → ∀ d', (some dd : Option Addr) = some d' → ∃ fs, G d' = some (.xd fs) := fun {G} sG d' e => by cases e; exact ⟨_, sG _ _ ed'⟩
    refine ⟨_, rfl, a, CM, some dd, .ref CM, .ref CM, true, _, _, _, _, rfl, TX, ea, hx (Same.refl _), .own _, TT.k1, ?_⟩
    refine ⟨true, rfl, iteT ?_⟩
    refine ⟨_, rfl, a, CM, some dd, _, _, true, _, _, _, _, rfl, TX, ea, hx (Same.refl _), .ty _, TT.k3, ?_⟩
    refine at_g (σ' := [none, none, some (.ref a), none, some (.bl true)]) rfl ?_
    refine ⟨_, rfl, true, rfl, iteT ?_⟩
    refine ⟨_, rfl, (by show 2 ≤ sizeLine; decide), fun cp ncp => ?_⟩
    have sc := same_new ncp (o := .tup [.ref CB, .ref CN])
    have ec : (upd H3 cp (.tup [.ref CB, .ref CN])) cp = some (.tup [.ref CB, .ref CN]) := upd_same
    have ea4 := sc _ _ ea
    have ed4 := sc _ _ ed'
    generalize upd H3 cp (.tup [.ref CB, .ref CN]) = H4 at sc ec ea4 ed4
    refine nil_go ⟨a, CM, cp, some dd, _, _, false, _, _, _, _, rfl, TX, ea4, hx sc, ec, .cons (.own _) (.cons (.own _) .nil), TT.k2, ?_⟩
    refine ⟨false, rfl, iteT ?_⟩
    refine ⟨_, rfl, a, dd, _, _, rfl, ea4, ed4, rfl, (by show 2 ≤ sizeLine; decide), fun p np => ?_⟩
    exact qe p _ (sa.trans (sc.trans (same_new np))) upd_same
end
end XL
namespace XL
open PySem PySem.Spec PyProof.Rows L2
theorem okD_lk (n : Nat) (l : Lk) : okD (n + 2) (lkD l) := ⟨by show 4 ≤ 1000; decide, fun d h => by
  simp only [List.mem_cons, List.not_mem_nil, or_false] at h
  rcases h with rfl | rfl | rfl | rfl <;> exact trivial⟩
theorem okD_cn (n : Nat) {c : Cn} (h : c.ls.length ≤ 1000) : okD (n + 4) (cnD c) := ⟨by show 3 ≤ 1000; decide, fun d hd => by
  simp only [List.mem_cons, List.not_mem_nil, or_false] at hd
  rcases hd with rfl | rfl | rfl
  · exact trivial
  · exact trivial
  · refine ⟨by rw [List.length_map]; exact h, fun e he => ?_⟩
    obtain ⟨l, _, rfl⟩ := List.mem_map.mp he
    exact okD_lk n l⟩
theorem okD_ints (n : Nat) {zs : List Int} (h : zs.length ≤ 1000) : okD (n + 2) (.tuple (intsD zs)) := ⟨by rw [intsD, List.length_map]; exact h, fun e he => by
  obtain ⟨z, _, rfl⟩ := List.mem_map.mp he
  exact trivial⟩
theorem okD_sn (n : Nat) {s : Sn} (h1 : s.rs.length ≤ 1000) (h2 : s.bs.length ≤ 1000) (h3 : s.ls.length ≤ 1000) : okD (n + 3) (snD s) := ⟨by show 3 ≤ 1000; decide, fun d hd => by
  simp only [List.mem_cons, List.not_mem_nil, or_false] at hd
  rcases hd with rfl | rfl | rfl
  · exact okD_ints n h1
  · exact okD_ints n h2
  · exact okD_ints n h3⟩
theorem okD_mv (n : Nat) (m : Mv) : okD (n + 2) (mvD m) := ⟨by show 2 ≤ 1000; decide, fun d hd => by
  simp only [List.mem_cons, List.not_mem_nil, or_false] at hd
  rcases hd with rfl | rfl <;> exact trivial⟩
theorem okD_mvs (n : Nat) {ms : List Mv} (h : ms.length ≤ 1000) : okD (n + 3) (.list (ms.map mvD)) := ⟨by rw [List.length_map]; exact h, fun d hd => by
  obtain ⟨m, _, rfl⟩ := List.mem_map.mp hd
  exact okD_mv n m⟩
theorem okD_two (n : Nat) {d : PyData} (h : okD n d) : okD (n + 1) (.list [d, d]) := ⟨by show 2 ≤ 1000; decide, fun e he => by
  simp only [List.mem_cons, List.not_mem_nil, or_false] at he
  rcases he with rfl | rfl <;> exact h⟩
theorem sn_len {c : Cn} {B : Int} {s : Sn} (oc : okCn 100 100 c) (os : okSn c B s) : s.rs.length ≤ 100 ∧ s.bs.length ≤ 100 ∧ s.ls.length ≤ 100 := by
  have h1 := os.r; have h2 := os.b; have h3 := os.n; have h4 := oc.r2; have h5 := oc.b2; have h6 := oc.n
  omega
theorem okD_nil (n : Nat) : okD (n + 1) (.list []) := ⟨by show 0 ≤ 1000; decide, fun e he => (by cases he)⟩
/-! ### what is told of few, of many -/
theorem Far.cap {c : Cn} {s : Sn} {xs : Ds} (h : Far c s xs) {ys : List Sn} (nd : ys.Nodup) (hy : ∀ y ∈ ys, ∃ ms, okRun c s ms ∧ runS c s ms = y) : ys.length ≤ xs.length := by
  have := nd.length_le_of_subset (l₂ := xs.map (·.1)) fun y hy' => by
    obtain ⟨ms, a, b⟩ := hy y hy'
    obtain ⟨d, hd, _⟩ := h.le ms.length y ⟨ms, a, rfl, b⟩
    exact List.mem_map.mpr ⟨_, hd, rfl⟩
  rw [List.length_map] at this
  exact this
theorem Far.few {c : Cn} {s : Sn} {xs : Ds} (h : Far c s xs) (l : xs.length ≤ 400) : ¬ Over c s 400 := fun ⟨ys, nd, big, hy⟩ => by
  have := h.cap nd hy
  omega
theorem Best.few {c : Cn} {s : Sn} {xs : Es} (h : Best c s xs) (l : xs.length ≤ 400) : ¬ Over c s 400 := fun ⟨ys, nd, big, hy⟩ => by
  have := h.cap nd hy
  omega
theorem Over.from {c : Cn} {s t : Sn} {n : Nat} {ms : List Mv} (a : okRun c s ms) (b : runS c s ms = t) (h : Over c t n) : Over c s n := by
  obtain ⟨ys, nd, big, hy⟩ := h
  refine ⟨ys, nd, big, fun y hy' => ?_⟩
  obtain ⟨ns, a', b'⟩ := hy y hy'
  exact ⟨ms ++ ns, okRun_app.mpr ⟨a, by rw [b]; exact a'⟩, by rw [runS_app, b, b']⟩
def Come (c : Cn) (s t : Sn) : Prop := ∃ ms, okRun c s ms ∧ runS c s ms = t
theorem Far.mem {c : Cn} {s t : Sn} {xs : Ds} (h : Far c s xs) : (∃ d, (t, d) ∈ xs) ↔ Come c s t := by
  constructor
  · rintro ⟨d, hd⟩
    obtain ⟨ms, a, _, b⟩ := h.d _ hd
    exact ⟨ms, a, b⟩
  · rintro ⟨ms, a, b⟩
    obtain ⟨d, hd, _⟩ := h.le _ _ ⟨ms, a, rfl, b⟩
    exact ⟨d, hd⟩
theorem Far.lst {c : Cn} {s t : Sn} {xs : Ds} (h : Far c s xs) {r : List Mv} (L : Lst c s t r) (hd : ∀ e ∈ xs, e.2 ≤ 400) : r.length ≤ 400 := by
  obtain ⟨d, h1, h2⟩ := h.le _ _ ⟨r, L.ok, rfl, L.run⟩
  obtain ⟨ms, a, l, b⟩ := h.d _ h1
  have := sle_len (L.le ms a b)
  have := hd _ h1
  simp only at this l
  omega
section
variable {K : PySem.W.Frag} {H : Hp} {Q : VK} {E : XK} {v u1 u2 : V} {c : Cn} {s t : Sn} {B : Int} {d1 d2 : PyData} {CM : Addr}
theorem fa_row {r : List Mv} (hc : CnAny K H v c) (h1 : Dp K H u1 d1) (k1 : okD 4 d1) (e1 : tupD d1 = snD s) (h2 : Dp K H u2 d2) (k2 : okD 4 d2) (e2 : tupD d2 = snD t) (okc : okCn 100 100 c) (oks : okSn c B s) (ov : ¬ Over c s 400) (L : Lst c s t r)
    (q : ∀ H' : Hp, Same H H' → Q (.int (r.length : Nat)) H') : spFar K CM [v, u1, u2] H Q E :=
  ⟨v, u1, u2, c, s, t, B, d1, d2, rfl, hc, h1, k1, e1, h2, k2, e2, okc, oks, fun p H' o => absurd o ov, fun xs H' _ best _ no => (by
    obtain ⟨r', hr', _⟩ := best.le r L.ok
    rw [L.run] at hr'
    exact absurd hr' (no r')), fun xs r' H' s1 best _ hr => (by rw [← L.uq (best.lst hr)]; exact q H' s1)⟩
end
theorem lst_self (c : Cn) (s : Sn) : Lst c s s [] := ⟨trivial, rfl, fun ms _ _ => by
  cases ms with
  | nil => exact .inl rfl
  | cons m ms => exact .inr (.inl (by simp))⟩
theorem ints_alike : ∀ a b : List Int, PySem.W.alikeAll (intsD a) (intsD b) = true
  | [], _ => rfl
  | _ :: _, [] => rfl
  | x :: a, y :: b => by
    show (PySem.W.alike (.int x) (.int y) && PySem.W.alikeAll (intsD a) (intsD b)) = true
    rw [ints_alike a b]; rfl
theorem sn_alike (s t : Sn) : PySem.W.alike (snD s) (snD t) = true := by
  simp [snD, PySem.W.alike, PySem.W.alikeAll, ints_alike]
theorem DE.alike {α : Type} {K : PySem.W.Frag} {H : Hp} {R : α → V → Prop} {es : List NE} {xs : List (Sn × α)} (h : DE K H R es xs) : PySem.W.AllAlike (es.map fun e => e.1.data) ∧ PySem.W.Sortable (es.map fun e => e.1.data) ∧ ∀ e ∈ es, e.1.data.depth ≤ 40 := by
  have key : ∀ e ∈ es, ∃ x : Sn, e.1.data = snD x := fun e he => by
    obtain ⟨i, hi⟩ := List.mem_iff_getElem?.mp he
    obtain ⟨x, _, b, _⟩ := h.d i e hi
    exact ⟨x.1, by rw [b, kyS_data]⟩
  refine ⟨fun d hd d' hd' => ?_, .inl fun d hd => ?_, fun e he => ?_⟩
  · obtain ⟨e, he, rfl⟩ := List.mem_map.mp hd
    obtain ⟨e', he', rfl⟩ := List.mem_map.mp hd'
    obtain ⟨x, ex⟩ := key e he
    obtain ⟨y, ey⟩ := key e' he'
    rw [ex, ey]; exact sn_alike x y
  · obtain ⟨e, he, rfl⟩ := List.mem_map.mp hd
    obtain ⟨x, ex⟩ := key e he
    exact ⟨_, _, ex⟩
  · obtain ⟨x, ex⟩ := key e he
    rw [ex, sn_deep]; decide
theorem dn_ne {P : Program} {w : World} {H : Hp} {b D : Addr} {es : List NE} (hb : Bx H b) (h : H D = some (DNo P w D es)) : D ≠ b := fun z => by
  obtain ⟨x, y, z', e⟩ := hb
  rw [z, e] at h
  exact HO.noConfusion (Option.some.inj h)
end XL
namespace XL
open PySem PySem.Spec PyProof.Rows L2 PySem.W
/-! ### two sorted rows of the same standings are one row -/
theorem ints_eqv : ∀ a b : List Int, PyData.eqvAll (intsD a) (intsD b) = decide (a = b)
  | [], [] => by simp [intsD, PyData.eqvAll]
  | [], y :: b => by simp [intsD, PyData.eqvAll]
  | x :: a, [] => by simp [intsD, PyData.eqvAll]
  | x :: a, y :: b => by
    show PyData.eqvAll (.int x :: intsD a) (.int y :: intsD b) = _
    rw [eqv_all_cons, ints_eqv a b]
    by_cases h1 : x = y <;> by_cases h2 : a = b <;> simp [PyData.eqv, h1, h2]
theorem tints_eqv (a b : List Int) : PyData.eqv (.tuple (intsD a)) (.tuple (intsD b)) = decide (a = b) := by
  rw [← ints_eqv]; simp [PyData.eqv]
theorem tints_lt (a b : List Int) : dataLt (.tuple (intsD a)) (.tuple (intsD b)) = decide (a < b) := by
  rw [dataLt_tuple, ← dataLt_ints]; rfl
theorem tints_alike (a b : List Int) : alike (.tuple (intsD a)) (.tuple (intsD b)) = true := by
  simp [alike, ints_alike]
theorem sn_lt (s t : Sn) : dataLt (snD s) (snD t) = if s.rs = t.rs then (if s.bs = t.bs then decide (s.ls < t.ls) else decide (s.bs < t.bs)) else decide (s.rs < t.rs) := by
  have e : PyProof.Rows.lexLt itemOrd (keyToksAll []) (keyToksAll []) = false := lex_irrefl _
  unfold snD
  rw [dataLt_tuple, dataLt_cons (tints_alike _ _), dataLt_cons (tints_alike _ _), dataLt_cons (tints_alike _ _), e, tints_eqv, tints_eqv, tints_eqv, tints_lt, tints_lt, tints_lt]
  by_cases h1 : s.rs = t.rs <;> by_cases h2 : s.bs = t.bs <;> by_cases h3 : s.ls = t.ls <;> simp [h1, h2, h3, List.lt_irrefl]
theorem ilt_anti {a b : List Int} (h1 : ¬ a < b) (h2 : ¬ b < a) : a = b := List.le_antisymm (List.not_lt.mp h2) (List.not_lt.mp h1)
theorem sn_anti {s t : Sn} (h1 : dataLt (snD s) (snD t) = false) (h2 : dataLt (snD t) (snD s) = false) : s = t := by
  rw [sn_lt] at h1 h2
  by_cases q1 : s.rs = t.rs
  · rw [if_pos q1] at h1
    rw [if_pos q1.symm] at h2
    by_cases q2 : s.bs = t.bs
    · rw [if_pos q2] at h1
      rw [if_pos q2.symm] at h2
      have q3 := ilt_anti (of_decide_eq_false h1) (of_decide_eq_false h2)
      obtain ⟨a, b, c⟩ := s
      obtain ⟨a', b', c'⟩ := t
      simp only at q1 q2 q3
      rw [q1, q2, q3]
    · rw [if_neg q2] at h1
      rw [if_neg fun z => q2 z.symm] at h2
      exact absurd (ilt_anti (of_decide_eq_false h1) (of_decide_eq_false h2)) q2
  · rw [if_neg q1] at h1
    rw [if_neg fun z => q1 z.symm] at h2
    exact absurd (ilt_anti (of_decide_eq_false h1) (of_decide_eq_false h2)) q1
abbrev SoS (ys : List Sn) : Prop := ys.Pairwise fun x y => dataLt (snD y) (snD x) = false
theorem sos_uq {ys zs : List Sn} (h1 : SoS ys) (h2 : SoS zs) (p : ys.Perm zs) : ys = zs :=
  p.eq_of_pairwise (fun a b _ _ x y => sn_anti y x) h1 h2
end XL
namespace XL
open PySem PySem.Spec PyProof.Rows L2 LamX
abbrev sLo : Stmt := topS 19
abbrev sIk : Stmt := topS 22
/-- the standing that a key tells -/
noncomputable def gS (e : NE) : Sn := by
  classical exact if h : ∃ s, e.1 = kyS s then h.choose else ⟨[], [], []⟩
theorem gS_eq {e : NE} {s : Sn} (h : e.1 = kyS s) : gS e = s := by
  classical
  have hx : ∃ s, e.1 = kyS s := ⟨s, h⟩
  have : gS e = hx.choose := by unfold gS; exact dif_pos hx
  rw [this]
  exact kyS_inj (hx.choose_spec.symm.trans h)
theorem DE.gs {α : Type} {K : PySem.W.Frag} {H : Hp} {R : α → V → Prop} {es : List NE} {xs : List (Sn × α)} (h : DE K H R es xs) : es.map gS = xs.map (·.1) := by
  refine List.ext_getElem? fun i => ?_
  rw [List.getElem?_map, List.getElem?_map]
  cases q : es[i]? with
  | none =>
    have : xs[i]? = Option.none := by
      rw [List.getElem?_eq_none_iff] at q ⊢
      rw [← h.l]; exact q
    rw [this]; rfl
  | some e =>
    obtain ⟨x, e1, e2, _⟩ := h.d i e q
    rw [e1]
    show some (gS e) = some x.1
    rw [gS_eq e2]
theorem DE.dp {α : Type} {K : PySem.W.Frag} {H : Hp} {R : α → V → Prop} {es : List NE} {xs : List (Sn × α)} (h : DE K H R es xs) {e : NE} (he : e ∈ es) : Dp K H (.ref e.2.1) (snD (gS e)) ∧ e.1.data = snD (gS e) := by
  obtain ⟨i, hi⟩ := List.mem_iff_getElem?.mp he
  obtain ⟨x, _, e2, e3, _⟩ := h.d i e hi
  rw [gS_eq e2, e2, kyS_data]
  exact ⟨e3, rfl⟩
/-- a list of standings -/
def SoL (K : PySem.W.Frag) (H : Hp) (A : Addr) (zs : List Sn) : Prop := ∃ ys : List (V × Sn), H A = some (.lst (ys.map (·.1))) ∧ ys.map (·.2) = zs ∧ ∀ b ∈ ys, Dp K H b.1 (snD b.2)
theorem rows_dp {K : PySem.W.Frag} {H : Hp} : ∀ {ys : List (V × Sn)}, (∀ b ∈ ys, Dp K H b.1 (snD b.2)) → DpAll K H (ys.map (·.1)) ((ys.map (·.2)).map snD)
  | [], _ => .nil
  | b :: ys, h => .cons (h b (List.mem_cons_self ..)) (rows_dp fun x hx => h x (List.mem_cons_of_mem _ hx))
theorem SoL.dp {K : PySem.W.Frag} {H : Hp} {A : Addr} {zs : List Sn} (h : SoL K H A zs) : Dp K H (.ref A) (.list (zs.map snD)) := by
  obtain ⟨ys, e, rfl, d⟩ := h
  exact .lst (SqL.of e) (rows_dp d)
/-- all that there are, in their order -/
structure Lot (c : Cn) (s : Sn) (zs : List Sn) : Prop where
  so : SoS zs
  nd : zs.Nodup
  m : ∀ t, t ∈ zs ↔ Come c s t
  l : zs.length ≤ 400
theorem Lot.uq {c : Cn} {s : Sn} {ys zs : List Sn} (h : Lot c s ys) (k : Lot c s zs) : ys = zs := sos_uq h.so k.so ((List.perm_ext_iff_of_nodup h.nd k.nd).mpr fun t => (h.m t).trans (k.m t).symm)
theorem Best.lot {c : Cn} {s : Sn} {xs : Es} {zs : List Sn} (h : Best c s xs) (few : xs.length ≤ 400) (so : SoS zs) (p : zs.Perm (xs.map (·.1))) : Lot c s zs := by
  refine ⟨so, p.nodup_iff.mpr h.nd, fun t => p.mem_iff.trans ⟨fun ht => ?_, fun ⟨ms, a, b⟩ => ?_⟩, by rw [p.length_eq, List.length_map]; exact few⟩
  · obtain ⟨e, he, rfl⟩ := List.mem_map.mp ht
    exact ⟨e.2, h.ok e he⟩
  · obtain ⟨r, hr, _⟩ := h.le ms a
    rw [b] at hr
    exact List.mem_map.mpr ⟨_, hr, rfl⟩
theorem Far.lot {c : Cn} {s : Sn} {xs : Ds} {zs : List Sn} (h : Far c s xs) (few : xs.length ≤ 400) (so : SoS zs) (p : zs.Perm (xs.map (·.1))) : Lot c s zs := by
  refine ⟨so, p.nodup_iff.mpr h.nd, fun t => p.mem_iff.trans ⟨fun ht => ?_, fun ht => ?_⟩, by rw [p.length_eq, List.length_map]; exact few⟩
  · obtain ⟨e, he, rfl⟩ := List.mem_map.mp ht
    exact h.mem.mp ⟨e.2, he⟩
  · obtain ⟨d, hd⟩ := h.mem.mpr ht
    exact List.mem_map.mpr ⟨_, hd, rfl⟩
theorem sns_alike (ys : List (V × Sn)) : PySem.W.AllAlike (ys.map fun b => snD b.2) ∧ PySem.W.Sortable (ys.map fun b => snD b.2) := by
  refine ⟨fun d hd d' hd' => ?_, .inl fun d hd => ?_⟩
  · obtain ⟨e, he, rfl⟩ := List.mem_map.mp hd
    obtain ⟨e', he', rfl⟩ := List.mem_map.mp hd'
    exact sn_alike _ _
  · obtain ⟨e, he, rfl⟩ := List.mem_map.mp hd
    exact ⟨_, _, rfl⟩
section
variable {P : Program} {w : World} {K : PySem.W.Frag} {mg : Str → Option Value} {base : Heap}
abbrev nLo : List Str := ["canal", "standing"]
theorem scLo : FnScope nLo ["canal", "standing"] (defScope sLo) := ⟨rfl, rfl, rfl, by decide +kernel, rfl, by decide +kernel, by decide +kernel⟩
def spLo (K : PySem.W.Frag) (CM : Addr) : Sp := fun vs H Q E => ∃ (v u : V) (c : Cn) (s : Sn) (B : Int) (d : PyData), vs = [v, u] ∧ CnAny K H v c ∧ Dp K H u d ∧ okD 4 d ∧ tupD d = snD s ∧ okCn 100 100 c ∧ okSn c B s ∧
  (∀ (dd : Addr) (H' : Hp), Over c s 400 → Same H H' → H dd = none → H' dd = some (.xd [("many", .int 400)]) → E (.ref CM) (some dd) H') ∧
  (∀ (A : Addr) (zs : List Sn) (H' : Hp), Same H H' → H A = none → SoL K H' A zs → Lot c s zs → Q (.ref A) H')
theorem ok_lo {f fw CM : Addr} {fd fdw : FuncData} {k : Nat} (F : Fun K "lot_of" "lot_of" sLo f fd) (Fw : FnX P w K mg base k "come_to_few" ["canal", "standing"] (spFw P w K CM) fw fdw) (m_sorted : mg "sorted" = none) (m_list : mg "list" = none) : FnOk P w K mg base (L2.CX P w) (k + 1) f fd ["canal", "standing"] (spLo K CM) := by
  refine F.okX scLo (fun vs H Q E h => ?_) (fun cdv A outer s0 H vs Q E hr h => ?_)
  · obtain ⟨v, u, c, s, B, d, rfl, _⟩ := h
    rfl
  obtain ⟨v, u, c, s, B, d, rfl, hc, hu, okd, etd, okc, oks, qn, qy⟩ := h
  refine ⟨_, (pss_one (ps_ret (pe_callB (r := rSortedDt K snD) (cr_sortedDt hr.units) rfl m_sorted boot_sorted' (pa_cons (pe_callTy (r := rLstN P w) (call_listN rfl) rfl m_list boot_list (pa_cons (pe_callS Fw.ok hr rfl Fw.g Fw.k Fw.b (fun σ => passAt (takes_of rfl rfl rfl rfl) σ) (pa_cons (pv 0) (pa_cons (pv 1) pa_nil))) pa_nil)) pa_nil)))), ?_⟩
  refine ⟨_, rfl, _, rfl, nil_go ⟨v, u, c, s, B, d, rfl, hc, hu, okd, etd, okc, oks, fun dd H1 ov s1 nd ed => qn dd H1 ov s1 nd ed, fun D es xs H1 s1 nD eD ce best few => ?_⟩⟩
  refine nil_go ⟨D, es, rfl, .inl eD, fun p np => ?_⟩
  have s2 := same_new np (o := .lst (es.map fun e => V.ref e.2.1))
  have e2 : (upd H1 p (.lst (es.map fun e => V.ref e.2.1))) p = some (.lst (es.map fun e => V.ref e.2.1)) := upd_same
  have dp2 : ∀ b ∈ es.map (fun e => (V.ref e.2.1, gS e)), Dp K (upd H1 p (.lst (es.map fun e => V.ref e.2.1))) b.1 (snD b.2) := fun b hb => by
    obtain ⟨e, he, rfl⟩ := List.mem_map.mp hb
    exact Dp.same s2 _ (DE.dp ce he).1
  generalize upd H1 p (.lst (es.map fun e => V.ref e.2.1)) = H2 at s2 e2 dp2
  obtain ⟨al, so⟩ := sns_alike (es.map fun e => (V.ref e.2.1, gS e))
  refine nil_go ⟨p, es.map (fun e => (V.ref e.2.1, gS e)), rfl, SqL.of (by rw [List.map_map]; exact e2), dp2, al, so, fun b _ => by rw [sn_deep]; decide, fun p' cs hp ho np' => ?_⟩
  have s3 := same_new np' (o := .lst (cs.map (·.1)))
  refine qy p' (cs.map (·.2)) _ (s1.trans (s2.trans s3)) ((s1.trans s2).free np') ⟨cs, upd_same, rfl, fun b hb => Dp.same s3 _ (dp2 b (hp.mem_iff.mp hb))⟩ (best.lot few ?_ ?_)
  · exact List.pairwise_map.mpr ho
  · have := hp.map (·.2)
    rw [List.map_map] at this
    rw [← DE.gs ce]; exact this
abbrev nIk : List Str := ["canal", "standing"]
theorem scIk : FnScope nIk ["canal", "standing"] (defScope sIk) := ⟨rfl, rfl, rfl, by decide +kernel, rfl, by decide +kernel, by decide +kernel⟩
def spIk (K : PySem.W.Frag) : Sp := fun vs H Q _ => ∃ (v u : V) (c : Cn) (s : Sn) (B : Int), vs = [v, u] ∧ CnAny K H v c ∧ SnAny K H u s ∧ okCn 100 100 c ∧ okSn c B s ∧ ∀ H' : Hp, Same H H' → Q (.bl (may c s c.ls.length).isEmpty) H'
theorem ok_ik {f fm : Addr} {fd fdm : FuncData} {k : Nat} (F : Fun K "is_stuck" "is_stuck" sIk f fd) (Ma : Fns P w K mg base k "may_go" ["canal", "standing"] (spMay K) fm fdm) : FnOk P w K mg base CX0 (k + 1) f fd ["canal", "standing"] (spIk K) := by
  refine F.ok scIk (fun vs H Q E h => ?_) (fun cdv A outer s0 H vs Q E hr h => ?_)
  · obtain ⟨v, u, c, s, B, rfl, _⟩ := h
    rfl
  obtain ⟨v, u, c, s, B, rfl, hc, hs, okc, oks, q⟩ := h
  refine ⟨_, (pss_one (ps_ret (pe_cmpR (op_eqD hr.units) (pe_fn Ma hr rfl (pa_cons (pv 0) (pa_cons (pv 1) pa_nil))) (pe_lst pa_nil) (nomark _)))), ?_⟩
  refine ⟨_, rfl, _, rfl, nil_go ⟨v, u, c, s, B, rfl, hc, hs, okc, oks, fun p us H1 s1 np M => ?_⟩⟩
  refine ⟨(by show 0 ≤ sizeLine; decide), fun e ne => ?_⟩
  have s2 := same_new ne (o := .lst [])
  refine ⟨.list ((may c s c.ls.length).map mvD), .list [], .lst (SqL.of (s2 _ _ M.e)) (DpAll.same s2 _ (MvAt.dp (a := p) M.l M.d)), .lst (SqL.of upd_same) .nil, mvs_shaped _, rfl, ?_⟩
  rw [mvs_nil]
  exact q _ (s1.trans s2)
end
end XL
namespace XL
open PySem PySem.Spec PyProof.Rows L2 LamX
/-- a def whose code's cell is known -/
structure FunC (K : PySem.W.Frag) (x qual : Str) (st : Stmt) (f : Addr) (fd : FuncData) (c : Addr) : Prop where
  ex : ∃ (oc : Value) (od : Option Addr) (kV doc pm : Value) (an : Option Addr) (ct : Value) (osl : Array (Option Value)),
    fd = PySem.W.fnOf x qual (defArgs st) (defBody st) (defScope st) .none kV doc pm an (.ref c) ct ∧ K.lookup f = some ⟨oc, od, .func fd, osl⟩ ∧ PySem.W.codeIn K (.ref c) qual = true
section
variable {P : Program} {w : World} {K : PySem.W.Frag} {mg : Str → Option Value} {base : Heap}
theorem okGC {x qual : Str} {st : Stmt} {f c : Addr} {fd : FuncData} {N ps : List Str} {k : Nat} {sp : Sp} (F : FunC K x qual st f fd c) (S : FnScope N ps (defScope st)) (len : ∀ vs H Q E, sp vs H Q E → vs.length = ps.length)
    (hbody : ∀ (A : Around) (outer : List Env) (s : Shared) (H : Hp) (vs : List V) (Q : VK) (E : XK),
      (A.deeper (envOfC qual (defScope st) s.heap.objs.size f (.ref c))).guards = some [] → Room k (A.deeper (envOfC qual (defScope st) s.heap.objs.size f (.ref c))) → sp vs H Q E →
      ∃ t, PSs (cxOf CX0 P w K mg base N qual (defScope st) f (.ref c) A outer s H E).nox (defBody st) t ∧ t { nx := fun _ H' => Q .non H', rt := Q } (start N vs) H) : FnG P w K mg base (k + 1) f fd ps sp := by
  obtain ⟨oc, od, kV, doc, pm, an, ct, osl, rfl, lk, hcd⟩ := F.ex
  refine ⟨len, fun A outer s H args us vs Q E hgd hr e0 hb r hsp => ?_⟩
  have hl := len _ _ _ _ hsp; have KX : K.In s.heap := e0.mod.kin.keeps fun b o e => (e0.bs b o e).1
  have lim : s.heap.NoLimit := e0.mod.nolimit.keeps fun b o e => (e0.bs b o e).1
  have hkind : ∀ y ∈ ps.zip us, (defScope st).names.lookup y.1 = some .local ∨ ((defScope st).names.lookup y.1 = some .cell ∧ ((cellsFrom (s.heap.objs.size + 1) (defScope st).names []).lookup y.1).isSome = true) := fun ⟨n, v⟩ hy => by
    rcases S.par n (List.of_mem_zip hy).1 with q | q
    · exact .inl q
    · exact .inr ⟨q, PySem.W.cellsFrom_some _ _ _ (.inl q)⟩
  refine codeAny_call_function hr.depth (KX _ _ lk) rfl S.co S.gen rfl (PySem.W.codeRec_of KX hcd) (hb _ _ _ _ (wpAny_newFunctionEnv_cells S.kind hkind fun env he s1 x => ?_))
  subst he
  refine ⟨lim.keeps x.toInCall.keep, codeAny_func ?_⟩
  obtain ⟨t, ht, hq⟩ := hbody A outer s H vs Q E hgd (hr.deeper _) hsp
  have I : Inv (cxOf CX0 P w K mg base N qual (defScope st) f (.ref c) A outer s H E) [] (start N vs) H s1 := inv_start S hr.hd e0 hl r x
  refine wpAny_mono (ht.nox.run [] s1 (start N vs) H _ I hq) (fun fl s' hs => ?_) fun e s' hs => hs
  have fin : ∀ {σ' : L2.St} {H' : Hp} {v : V} {u : Value}, Inv (cxOf CX0 P w K mg base N qual (defScope st) f (.ref c) A outer s H E) [] σ' H' s' → RelV v u → Q v H' → CE outer P w H s Q u s' := fun {σ' H' v u} J rv q =>
    ⟨v, H', J.os, J.bare, J.base, J.hok, rv, q⟩
  cases fl with
  | ret u => obtain ⟨v, σ', H', J, rv, q⟩ := hs; exact fin J rv q
  | next => obtain ⟨σ', H', J, q⟩ := hs; exact fin (v := V.non) (u := Value.none) J rfl q
  | brk => obtain ⟨_, _, _, q⟩ := hs; exact False.elim q
  | cont => obtain ⟨_, _, _, q⟩ := hs; exact False.elim q
end
end XL
namespace XL
open PySem PySem.Spec PyProof.Rows L2 LamX
/-! ### the box is drawn from, the tables grow, all else stays -/
structure Dt (T : List (Addr × Str)) (b : Addr) (H H' : Hp) : Prop where
  box : Bx H' b
  ext : ∀ a o, a ≠ b → H a = some o → (∀ ps, o ≠ .tbl ps) → H' a = some o
  tab : Tabs T H'
theorem Tabs.stay {T : List (Addr × Str)} {b : Addr} {H H' : Hp} (hb : Bx H b) (t : Tabs T H) (e : ∀ a o, a ≠ b → H a = some o → H' a = some o) : Tabs T H' := by
  obtain ⟨x, y, z, eb⟩ := hb
  intro p hp
  obtain ⟨ps, h1, h2, h3⟩ := t p hp
  refine ⟨ps, e _ _ (fun q => by rw [q, eb] at h1; cases h1) h1, h2, fun pos cv hc => ?_⟩
  obtain ⟨c, e1, e2⟩ := h3 pos cv hc
  exact ⟨c, e1, e _ _ (fun q => by rw [q, eb] at e2; exact codeO_lst _ (Option.some.inj e2).symm) e2⟩
theorem Dt.refl {T : List (Addr × Str)} {b : Addr} {H : Hp} (hb : Bx H b) (t : Tabs T H) : Dt T b H H := ⟨hb, fun _ _ _ e _ => e, t⟩
theorem Dt.trans {T : List (Addr × Str)} {b : Addr} {H H1 H2 : Hp} (p : Dt T b H H1) (q : Dt T b H1 H2) : Dt T b H H2 := ⟨q.box, fun a o n e m => q.ext a o n (p.ext a o n e m) m, q.tab⟩
theorem Dt.dr {T : List (Addr × Str)} {b : Addr} {H H' : Hp} (hb : Bx H b) (t : Tabs T H) (d : Dr b H H') : Dt T b H H' := ⟨d.box, fun a o n e _ => d.same a o n e, Tabs.stay hb t d.same⟩
theorem Dt.sm {T : List (Addr × Str)} {b : Addr} {H H' : Hp} (hb : Bx H b) (t : Tabs T H) (s : Same H H') : Dt T b H H' := Dt.dr hb t (Dr.of hb s)
theorem Dt.ex {T : List (Addr × Str)} {b : Addr} {H H' : Hp} (hb : Bx H b) (e : ExtN H H') (t : Tabs T H') : Dt T b H H' := by
  obtain ⟨x, y, z, eb⟩ := hb
  exact ⟨⟨x, y, z, e _ _ eb fun ps q => by cases q⟩, fun a o _ h m => e a o h m, t⟩
theorem Dt.tp {T : List (Addr × Str)} {b : Addr} {H H' : Hp} (hb : Bx H b) (d : Dt T b H H') : Tp H H' := by
  obtain ⟨x, y, z, e⟩ := hb
  exact ⟨fun a xs q => d.ext a _ (fun c => by rw [c, e] at q; cases q) q (fun ps z => by cases z), fun a o xs q => d.ext a _ (fun c => by rw [c, e] at q; cases q) q (fun ps z => by cases z)⟩
theorem dno_tbl {P : Program} {w : World} {D : Addr} {es : List NE} (ps : Array Value) : DNo P w D es ≠ .tbl ps := fun z => by
  unfold DNo at z
  cases z
/-! ### what is told of a lambda -/
structure ToldK (K : PySem.W.Frag) (mg : Str → Option Value) (CM CB CN ft : Addr) (fdt : FuncData) : Prop where
  F : Fun K "_law_told" "_law_told" sTd ft fdt
  b : Binds K fdt ["_law_ask"] []
  g : mg "_law_told" = some (.ref ft)
  tt : Tell K mg CM CB CN
  mi : mg "isinstance" = none
  mo : mg "OverflowError" = none
theorem pe_told {X : Cx} {T : List (Addr × Str)} {CM CB CN ft c tb : Addr} {fdt : FuncData} {k : Nat} {params : Arguments} {body : Expr} {scope : Scope} {t : XK → TE} {p lpos pos : Pos} (W : ToldK X.K X.mg CM CB CN ft fdt) (TB : TabB X.base X.mg c tb) (hcode : X.env.code = .ref c)
    (hmT : (tb, X.env.qual ++ "<lambda>") ∈ T) (hu : ∀ p ∈ T, p.1 = tb → p.2 = X.env.qual ++ "<lambda>") (hr : Room (k + 2) X.A) (hg : Gl X "_law_told") (L : LamS X.env.scope scope)
    (hbody : ∀ (A : Around) (outer : List Env) (s : Shared) (H : Hp) (E : XK) (f c' : Addr), Room k (A.deeper (lamEnv X scope s.heap.objs.size f c')) → PE (lamCx X A outer s H E scope f c') body (t E))
    (hdef : defaultsOf params X.env = ([], []) := by rfl) (hbind : ∀ (q : Str) (cl : List (Str × Addr)) (pm cv ctv : Value), bindArgs (PySem.W.kla_fn "<lambda>" q params body scope cl pm cv ctv) ⟨[], []⟩ = pure [] := by exact fun _ _ _ _ _ => rfl) :
    PE X (.Call (.Name "_law_told" p) [.Lambda params body scope lpos] [] pos) (tLam T (TTm CM) t) := by
  obtain ⟨oc, od, kV, doc, pm, an, cdv, ct, osl, rfl, lk, hcd⟩ := W.F.ex
  exact pe_lamcall hg W.g W.F.kp lk hcd W.b scTd rfl (.inl rfl) (told_gv W.tt W.mi W.mo) TB hcode hmT hu hr L hdef hbind hbody
theorem told_go {T : List (Addr × Str)} {CM b : Addr} {t : XK → TE} {σ : L2.St} {H : Hp} {Q : VK} (hb : Bx H b) (tab : Tabs T H)
    (h : ∀ G, Dt T b H G → t (fun cls d H2 => cls = .ref CM ∧ ∃ dd, d = some dd ∧ H2 dd = some (.xd [("many", .int 400)]) ∧ ∀ (p : Addr) (H3 : Hp), Same H2 H3 → H3 p = some (.tup manyV) → Q (.ref p) H3) σ G Q) : tLam T (TTm CM) t σ H Q :=
  ⟨tab, fun G1 eN tG G2 s2 => h G2 (have d1 := Dt.ex hb eN tG; d1.trans (Dt.sm d1.box tG s2))⟩
abbrev manyD : PyData := .tuple [.str (Str.ofString "many"), .int 400]
theorem dp_many {K : PySem.W.Frag} {H : Hp} {p : Addr} (h : H p = some (.tup manyV)) : Dp K H (.ref p) manyD := .tup (.inl (.inl h)) (.cons (.str _) (.cons (.int _) .nil))
theorem okD_many (n : Nat) : okD (n + 2) manyD := ⟨by show 2 ≤ 1000; decide, fun d hd => by
  simp only [List.mem_cons, List.not_mem_nil, or_false] at hd
  rcases hd with rfl | rfl <;> exact trivial⟩
/-! ### far, told -/
section
variable {K : PySem.W.Frag} {H : Hp} {Q : VK} {E : XK} {v u1 u2 : V} {c : Cn} {s t : Sn} {B : Int} {d1 d2 : PyData} {CM : Addr}
theorem fa_over (hc : CnAny K H v c) (h1 : Dp K H u1 d1) (k1 : okD 4 d1) (e1 : tupD d1 = snD s) (h2 : Dp K H u2 d2) (k2 : okD 4 d2) (e2 : tupD d2 = snD t) (okc : okCn 100 100 c) (oks : okSn c B s) (ov : Over c s 400)
    (q : ∀ (dd : Addr) (H' : Hp), Same H H' → H' dd = some (.xd [("many", .int 400)]) → E (.ref CM) (some dd) H') : spFar K CM [v, u1, u2] H Q E :=
  ⟨v, u1, u2, c, s, t, B, d1, d2, rfl, hc, h1, k1, e1, h2, k2, e2, okc, oks, fun dd H' _ s1 _ e => q dd H' s1 e, fun xs H' _ best few _ => absurd ov (best.few few), fun xs r H' _ best few _ => absurd ov (best.few few)⟩
theorem fa_none (hc : CnAny K H v c) (h1 : Dp K H u1 d1) (k1 : okD 4 d1) (e1 : tupD d1 = snD s) (h2 : Dp K H u2 d2) (k2 : okD 4 d2) (e2 : tupD d2 = snD t) (okc : okCn 100 100 c) (oks : okSn c B s) (ov : ¬ Over c s 400) (no : ¬ Come c s t)
    (q : ∀ H' : Hp, Same H H' → Q .non H') : spFar K CM [v, u1, u2] H Q E :=
  ⟨v, u1, u2, c, s, t, B, d1, d2, rfl, hc, h1, k1, e1, h2, k2, e2, okc, oks, fun dd H' o => absurd o ov, fun xs H' s1 _ _ _ => q H' s1, fun xs r H' _ best _ hr => absurd ⟨r, (best.ok _ hr).1, (best.ok _ hr).2⟩ no⟩
theorem fa_int {n : Nat} {xs : Ds} (hc : CnAny K H v c) (h1 : Dp K H u1 d1) (k1 : okD 4 d1) (e1 : tupD d1 = snD s) (h2 : Dp K H u2 d2) (k2 : okD 4 d2) (e2 : tupD d2 = snD t) (okc : okCn 100 100 c) (oks : okSn c B s) (ov : ¬ Over c s 400) (far : Far c s xs) (hn : (t, n) ∈ xs)
    (q : ∀ H' : Hp, Same H H' → Q (.int (n : Nat)) H') : spFar K CM [v, u1, u2] H Q E := by
  obtain ⟨ms, a, l, b⟩ := far.d _ hn
  obtain ⟨r, L⟩ := lst_ex ⟨ms, a, b⟩
  have e : r.length = n := by
    obtain ⟨d, h1', h2'⟩ := far.le _ _ ⟨r, L.ok, rfl, L.run⟩
    have e' : d = n := nd_key far.nd h1' hn
    have := sle_len (L.le ms a b)
    simp only at l
    omega
  exact fa_row hc h1 k1 e1 h2 k2 e2 okc oks ov L (by rw [e]; exact q)
end
end XL
namespace XL
open PySem PySem.Spec PyProof.Rows L2
section
variable {X : Cx} {pins : List (Addr × Obj)} {σ : L2.St} {H : Hp} {s : Shared} {a : Addr} {y : V} {u : Value} {o : Option V} {E : Value → Shared → Prop}
theorem n_noDict (I : Inv X pins σ H s) (g : NGet X.prog X.w X.K H a y o) : ∀ b, Value.ref a = .ref b → ∃ ob, s.heap.get? b = some ob ∧ ob.dict = none := by
  obtain ⟨es, k, b, e, hk, _⟩ := g
  obtain ⟨_, _, ys, _, dd⟩ := dn_of I e hk
  obtain ⟨ob, _, _, h1, h2, _⟩ := dd
  exact fun c z => by cases z; exact ⟨ob, h1, h2.2.1⟩
/-- d.get(y) -/
theorem n_get1 {A : Around} {Q : Value → Shared → Prop} (hu : A.units + 10 < cLine) (I : Inv X pins σ H s) (g : NGet X.prog X.w X.K H a y o) (ry : RelV y u) (h : ∀ w' s', Inv X pins σ H s' → RelV (o.getD .non) w' → Q w' s') :
    wpAny (model X.prog X.w) A (call (.builtin "dict.get") [.ref a, u]) Q E s := by
  obtain ⟨es, k, b, e, hk, rfl, kb, l⟩ := g
  cases (show u = Value.ref b from ry)
  obtain ⟨z, hd, ys, rel, dd⟩ := dn_of I e hk
  refine call_meetsIn PySem.F.slot_dict_get dd.typeIs PySem.F.entry_dict_get (PySem.F.args_dict_get_2 _ _) (meetsH_dict_get (nestedKind X.prog X.w) a b hd) ⟨nroom hu, k, ys, ky_is I kb, dd, h _ _ (I.tok _) ?_⟩
  rw [l]
  exact (rel.val k).getD rfl
def tNGet1 (P : Program) (w : World) (K : PySem.W.Frag) (td ty : TE) : TE := fun σ H Q => td σ H fun x H1 => ∃ (a : Addr) (es : List NE), x = .ref a ∧ Rd H1 a (DNo P w a es) ∧ (∀ e ∈ es, KyAt K H1 e.1 e.2.1) ∧ ty σ H1 fun y H2 => ∃ o, NGet P w K H2 a y o ∧ Q (o.getD .non) H2
theorem pe_nget1 {e d : Expr} {apos cpos : Pos} {td ty : TE} (hu : X.A.units + 10 < cLine) (hd : PE X d td) (he : PE X e ty) (m : M1 X d "get" apos e cpos) : PE X (.Call (.Attribute d "get" apos) [e] [] cpos) (tNGet1 X.prog X.w X.K td ty) := by
  constructor
  intro pins s0 σ H0 Q I0 h0
  refine wpAny_Call_method m.base m.few m.line PySem.F.plainAttrs_dict PySem.F.slot_dict_get PySem.F.type_dict_get (thn (hd.run pins s0 σ H0 _ I0 h0) fun u s1 h1 => ?_)
  obtain ⟨x, H1, I1, rx, a, es, rfl, ea, ka, q1⟩ := h1
  cases (show u = Value.ref a from rx)
  obtain ⟨_, _, ys, _, dd⟩ := dn_of I1 ea ka
  refine ⟨dd.typeIs, fun b z => ?_, ?_⟩
  · obtain ⟨ob, _, _, k1, k2, _⟩ := dd
    cases z
    exact ⟨ob, k1, k2.2.1⟩
  · rw [m.trees]
    refine Calls.callWith_builtin rfl (Calls.evalArgs_plain (Calls.spliced_cons (thn (he.run pins s1 σ H1 _ I1 q1) fun iv s2 h2 => Calls.spliced_nil ?_)))
    obtain ⟨y, H2, I2, ry, ov, g, q2⟩ := h2
    exact n_get1 hu I2 g ry fun w' s3 J r => ⟨_, H2, J, r, q2⟩
end
end XL
namespace XL
open PySem PySem.Spec PyProof.Rows L2 LamX
abbrev sFr : Stmt := topS 37
section
variable {P : Program} {w : World} {K : PySem.W.Frag} {mg : Str → Option Value} {base : Heap}
abbrev nFr : List Str := ["_law_box_here", "_law_ship_way", "_law_lying_here", "_law_found", "_law_some", "_law_there", "_law_due", "_law_told_here", "_law_turn"]
theorem scFr : FnScope nFr ["_law_box_here", "_law_ship_way", "_law_lying_here", "_law_found"] (defScope sFr) := ⟨rfl, rfl, rfl, by decide +kernel, rfl, by decide +kernel, by decide +kernel⟩
/-- what was found: nothing, for they are too many; or the dict of all, each with how far it lies -/
def Fnd (P : Program) (w : World) (K : PySem.W.Frag) (H : Hp) (f : V) (c : Cn) (s : Sn) : Prop := (f = .non ∧ Over c s 400) ∨ ∃ (D : Addr) (es : List NE) (xs : Ds), f = .ref D ∧ H D = some (DNo P w D es) ∧ FaE K H es xs ∧ Far c s xs ∧ xs.length ≤ 400 ∧ ¬ Over c s 400
def spFr (P : Program) (w : World) (K : PySem.W.Frag) (T : List (Addr × Str)) : Sp := fun vs H Q _ => ∃ (b : Addr) (v u f : V) (c : Cn) (s : Sn), vs = [.ref b, v, u, f] ∧ Bx H b ∧ Tabs T H ∧ Dp K H v (cnD c) ∧ Dp K H u (snD s) ∧ okCn 100 100 c ∧ okSn c 4 s ∧ Fnd P w K H f c s ∧ ∀ H' : Hp, Dt T b H H' → Q (.bl true) H'
/-- what stands while it is asked -/
structure Rt (P : Program) (w : World) (K : PySem.W.Frag) (T : List (Addr × Str)) (b : Addr) (H0 H : Hp) (c : Cn) (s : Sn) (v u f : V) : Prop where
  dr : Dt T b H0 H
  dv : Dp K H v (cnD c)
  du : Dp K H u (snD s)
  fd : Fnd P w K H f c s
theorem Rt.step {T : List (Addr × Str)} {b : Addr} {H0 H H' : Hp} {c : Cn} {s : Sn} {v u f : V} (r : Rt P w K T b H0 H c s v u f) (d : Dt T b H H') : Rt P w K T b H0 H' c s v u f :=
  have t := d.tp r.dr.box
  ⟨r.dr.trans d, Dp.tp t _ (noL_cn c) r.dv, Dp.tp t _ (noL_sn s) r.du, by
    rcases r.fd with h | ⟨D, es, xs, h1, h2, h3, h4⟩
    · exact .inl h
    · exact .inr ⟨D, es, xs, h1, d.ext _ _ (dn_ne r.dr.box h2) h2 dno_tbl, h3.mv t, h4⟩⟩
theorem Rt.sm {T : List (Addr × Str)} {b : Addr} {H0 H H' : Hp} {c : Cn} {s : Sn} {v u f : V} (r : Rt P w K T b H0 H c s v u f) (d : Same H H') : Rt P w K T b H0 H' c s v u f := r.step (Dt.sm r.dr.box r.dr.tab d)
abbrev qFr : Str := (envOfC "_law_far_right" (defScope sFr) 0 0 .none).qual ++ "<lambda>"
theorem ok_fr {f fy fo fs fl ffa ft cF tb CM CB CN : Addr} {fd fdy fdo fds fdl fdfa fdt : FuncData} {T : List (Addr × Str)} (F : FunC K "_law_far_right" "_law_far_right" sFr f fd cF)
    (Y : Fns P w K mg base 11 "_law_lying" ["_law_box_here", "_law_ship_way", "_law_most"] (spLying K) fy fdy) (Of : Fns P w K mg base 11 "_law_of" ["_law_box_here", "_law_some"] (spOf K) fo fdo)
    (S : Fns P w K mg base 11 "_law_same" ["_law_found", "_law_due"] (spSame K 11) fs fds) (L : Fns P w K mg base 9 "_law_lists" ["_law_what"] (spLists K 9) fl fdl)
    (Fa : FnX P w K mg base 9 "far" ["canal", "one", "other"] (spFar K CM) ffa fdfa) (kb_far : KBinds K fdfa ["canal", "one", "other"] ["other", "one", "canal"] g3r g3r)
    (W : ToldK K mg CM CB CN ft fdt) (TB : TabB base mg cF tb) (hmT : (tb, qFr) ∈ T) (huT : ∀ p ∈ T, p.1 = tb → p.2 = qFr)
    (m_range : mg "range" = none) (m_sorted : mg "sorted" = none) : FnG P w K mg base 12 f fd ["_law_box_here", "_law_ship_way", "_law_lying_here", "_law_found"] (spFr P w K T) := by
  refine okGC F scFr (fun vs H Q E h => ?_) (fun A outer s0 H vs Q E hG hr h => ?_)
  · obtain ⟨b, v, u, f, c, s, rfl, _⟩ := h
    rfl
  obtain ⟨b, v, u, fo, c, s, rfl, hb, tab, dv, du, okc, oks, fnd, q⟩ := h
  refine ⟨_, (pss_cons (ps_set (i := 4) scFr.nd rfl (.inl rfl) (pe_lst (pa_cons (pe_fn Y hr rfl (pa_cons (pv 0) (pa_cons (pv 1) (pa_cons pe_int pa_nil)))) pa_nil)))
    (pss_cons (ps_if (pt_cmpR op_notN (pv 3) pe_non (nomark _)) (pss_one (ps_set (i := 4) scFr.nd rfl (.inl rfl) (pe_op op_cat (pv 4) (pe_lc (own := [("_law_turn", 8)]) (g := gName 8) (tt := tYes) rfl scFr.nd (pi_range1 rfl m_range (pa_cons pe_int pa_nil)) (blkOk_by (own := [("_law_turn", 8)]) (N := nFr) (sc := defScope sFr) (by decide +kernel)) (fun _ _ _ _ _ => (pg_name (i := 8) scFr.nd rfl (.inl rfl))) (fun _ _ _ _ _ => pts_nil) (fun _ _ _ _ _ => pe_hide (pe_fn Of hr rfl (pa_cons (pv 0) (pa_cons (pe_callB (r := rSortedN P w K) (cr_sortedN rfl hr.units) rfl m_sorted boot_sorted' (pa_cons (pv 3) pa_nil)) pa_nil)))))))) pss_nil)
    (pss_cons (ps_for PassesOwn.never rfl (pi_seq (pv 4)) (pg_name (i := 5) scFr.nd rfl (.inr rfl))
    (pss_cons (ps_set (i := 6) scFr.nd rfl (.inl rfl) (pe_ifExp (pt_cmpR op_isN (pv 3) pe_non (nomark _)) (pe_tup (pa_cons pe_str (pa_cons pe_int pa_nil))) (pe_nget1 (hu10 hr.units) (pv 3) (pv 5) ⟨rfl, rfl, rfl, rfl⟩)))
    (pss_cons (ps_set (i := 7) scFr.nd rfl (.inl rfl) (pe_told (k := 9) (t := fun E => tCall (spFar K CM) [] E (tCons (tVar 1) (tCons (tVar 2) (tCons (tVar 5) tNil)))) W TB rfl hmT huT hr rfl (lamS_by (sc := defScope sFr) (by decide +kernel)) (fun A outer s H E f c' hr2 => pe_call Fa.ok hr2 rfl Fa.g Fa.k Fa.b .nil (passes_call (takes_of rfl rfl rfl rfl) fun _ _ _ _ h => h) (pa_cons (pv 1) (pa_cons (pv 2) (pa_cons (pv 5) pa_nil))))))
    (pss_one (ps_if (pt_not (pt_val (pe_fn S hr rfl (pa_cons (pv 7) (pa_cons (pv 6) pa_nil))))) (pss_one (ps_ret pe_bl)) pss_nil)))))
    (pss_cons (ps_set (i := 6) scFr.nd rfl (.inl rfl) (pe_ifExp (pt_cmpR op_isN (pv 3) pe_non (nomark _)) (pe_tup (pa_cons pe_str (pa_cons pe_int pa_nil))) pe_int))
    (pss_one (ps_ret (pe_fn S hr rfl (pa_cons (pe_told (k := 9) (t := fun E σ H Q => tCons (tCall (spLists K 9) [] E0 (tCons (tVar 2) tNil)) (tCons (tVar 2) (tCons (tCall (spLists K 9) [] E0 (tCons (tVar 1) tNil)) tNil)) σ H fun zs H2 => spFar K CM (g3r [] zs) H2 Q E) W TB rfl hmT huT hr rfl (lamS_by (sc := defScope sFr) (by decide +kernel)) (fun A outer s H E f c' hr2 => pe_callK0 Fa.ok hr2 rfl Fa.g Fa.k kb_far (passes_call (takes_of rfl rfl rfl rfl) fun _ _ _ _ h => h) (pk_cons (pe_fn L hr2 rfl (pa_cons (pv 2) pa_nil)) (pk_cons (pv 2) (pk_cons (pe_fn L hr2 rfl (pa_cons (pv 1) pa_nil)) pk_nil))))) (pa_cons (pv 6) pa_nil))))))))), ?_⟩
  refine seq2 (fun σ G => ∃ (L : Addr) (ys : List V), σ = [some (.ref b), some v, some u, some fo, some (.ref L), none, none, none, none] ∧ Rt P w K T b H G c s v u fo ∧ L ≠ b ∧ G L = some (.lst ys) ∧ ∀ y ∈ ys, ∃ (t : Sn) (Bt : Int), Dp K G y (snD t) ∧ okSn c Bt t) (fun N hN => ?_) (fun σ G h => ?_)
  · refine ⟨_, rfl, _, rfl, b, v, c, 3, rfl, hb, dv, okc, by decide, by decide, fun s1 u1 H1 oks1 d1 hu1 => ?_⟩
    have R1 : Rt P w K T b H H1 c s v u fo := (Rt.mk (Dt.refl hb tab) dv du fnd).step (Dt.dr hb tab d1)
    refine ⟨(by show 1 ≤ sizeLine; decide), fun L1 nL1 => ?_⟩
    have eL1 : (upd H1 L1 (.lst [u1])) L1 = some (.lst [u1]) := upd_same
    have L1b : L1 ≠ b := R1.dr.box.ne nL1
    have sL1 := same_new nL1 (o := .lst [u1])
    have hu2 := Dp.same sL1 _ hu1
    have R2 := R1.sm sL1
    generalize upd H1 L1 (.lst [u1]) = H2 at eL1 sL1 hu2 R2
    refine at_g (σ' := [some (.ref b), some v, some u, some fo, some (.ref L1), none, none, none, none]) rfl ?_
    have one : ∀ y ∈ [u1], ∃ (t : Sn) (Bt : Int), Dp K H2 y (snD t) ∧ okSn c Bt t := fun y hy => by
      obtain rfl := List.mem_singleton.mp hy
      exact ⟨s1, _, hu2, oks1⟩
    refine ⟨_, rfl, rfl, _, rfl, ?_⟩
    clear R1 nL1 sL1 hu1 d1 fnd tab hb dv du
    rcases R2.fd with ⟨rfl, ov⟩ | ⟨D, es, xs, rfl, eD, fe, far, few, nov⟩
    · exact iteF (hN _ _ ⟨L1, [u1], rfl, R2, L1b, eL1, one⟩)
    · refine iteT ?_
      refine ⟨_, rfl, _, rfl, by decide, by decide, lc_map walk_range (fun A B => Dr b A B ∧ Tp A B) (fun a b => ⟨a.1.trans b.1, a.2.trans b.2⟩) (fun i y F => ∃ x : Sn, (∃ d, (x, d) ∈ xs) ∧ Dp K F y (snD x)) (fun i y A B dAB ⟨x, hx, hy⟩ => ⟨x, hx, Dp.tp dAB.2 _ (noL_sn x) hy⟩) (by decide) ⟨Dr.refl R2.dr.box, Tp.of (Same.refl _)⟩ (fun _ _ _ _ _ => trivial) (fun j x D' acc F H' hj nD' dF nF hy B hB => ?_) (fun D' ys F nD' dF nF hl hR => ?_)⟩
      · obtain ⟨rfl, rfl⟩ := hy
        refine hB _ F rfl nF fun Qt hq => ?_
        have bF := dF.1.box
        have eDF := dF.1.same _ _ (dn_ne R2.dr.box eD) eD
        have feF := fe.mv dF.2
        obtain ⟨al, so, dp⟩ := DE.alike feF
        refine ⟨_, rfl, _, rfl, nil_go ⟨D, es, rfl, .inl eDF, DE.ky feF, al, so, dp, fun p cs hp ho np => ?_⟩⟩
        have d7 := Dr.new (o := .lst (cs.map fun e => V.ref e.2.1)) bF np
        have cl : cs.length = es.length := hp.length_eq
        have exs : 0 < es.length := by
          obtain ⟨d0, h0⟩ := far.mem.mpr (show Come c s s from ⟨[], trivial, rfl⟩)
          rw [feF.l]; exact List.length_pos_of_mem h0
        have el : es.length ≤ 400 := by rw [feF.l]; exact few
        refine nil_go ⟨b, p, _, rfl, d7.box, bF.ne np, SqL.of upd_same, fun z => ?_, by rw [List.length_map]; omega, fun jj vv F5 ej d8 => hq _ _ ⟨d7.trans d8, (d7.tp bF).trans (d8.tp d7.box)⟩ ?_⟩
        · have := congrArg List.length z
          rw [List.length_map, List.length_nil] at this
          omega
        · rw [List.getElem?_map] at ej
          obtain ⟨e, he, rfl⟩ := Option.map_eq_some_iff.mp ej
          obtain ⟨iq, hiq⟩ := List.mem_iff_getElem?.mp (hp.mem_iff.mp (List.mem_of_getElem? he))
          obtain ⟨xx, hx, _, e2, _⟩ := feF.d iq e hiq
          exact ⟨xx.1, ⟨xx.2, List.mem_iff_getElem?.mpr ⟨iq, hx⟩⟩, Dp.tp ((d7.tp bF).trans (d8.tp d7.box)) _ (noL_sn _) e2⟩
      have RF := R2.step (Dt.dr R2.dr.box R2.dr.tab dF.1)
      have eL1F := dF.1.same _ _ L1b eL1
      have s8 := same_new nF (o := .lst ys)
      have hL1D : L1 ≠ D' := fun z => by rw [← z, eL1] at nD'; cases nD'
      refine ⟨L1, D', [u1], ys, rfl, rfl, (by rw [upd_ne hL1D]; exact eL1F), upd_same, (by rw [hl]; show 1 + 2 ≤ sizeLine; decide), fun L2 nL2 => ?_⟩
      have s9 := same_new nL2 (o := .lst ([u1] ++ ys))
      have eL2 : (upd (upd F D' (.lst ys)) L2 (.lst ([u1] ++ ys))) L2 = some (.lst ([u1] ++ ys)) := upd_same
      have R9 := RF.sm (s8.trans s9)
      have L2b : L2 ≠ b := (RF.sm s8).dr.box.ne nL2
      have hys : ∀ y ∈ [u1] ++ ys, ∃ (t : Sn) (Bt : Int), Dp K (upd (upd F D' (.lst ys)) L2 (.lst ([u1] ++ ys))) y (snD t) ∧ okSn c Bt t := fun y hy => by
        rcases List.mem_append.mp hy with h | h
        · obtain ⟨t, Bt, h1, h2⟩ := one y h
          exact ⟨t, Bt, Dp.same (s8.trans s9) _ (Dp.tp dF.2 _ (noL_sn t) h1), h2⟩
        · obtain ⟨jj, hj⟩ := List.mem_iff_getElem?.mp h
          obtain ⟨x, hx, hd⟩ := hR jj y hj
          obtain ⟨ms, a, e⟩ := far.mem.mp hx
          exact ⟨x, _, Dp.same (s8.trans s9) _ hd, by rw [← e]; exact runS_ok okc oks a⟩
      generalize upd (upd F D' (.lst ys)) L2 (.lst ([u1] ++ ys)) = G at R9 eL2 hys
      refine at_g (σ' := [some (.ref b), some v, some u, some (.ref D), some (.ref L2), none, none, none, none]) rfl ?_
      exact hN _ _ ⟨L2, _, rfl, R9, L2b, eL2, hys⟩
  obtain ⟨L, ys, rfl, R, Lb, eL, hys⟩ := h
  clear fnd tab hb dv du
  obtain ⟨n1, n2, n3⟩ := sn_len okc oks
  have ks : okD 4 (snD s) := okD_sn 1 (by omega) (by omega) (by omega)
  have ks9 : okD 9 (snD s) := okD_sn 6 (by omega) (by omega) (by omega)
  have ksl : okD 4 (lstD (snD s)) := okd_lsn (n := 1) (by omega) (by omega) (by omega)
  have kcn : okD 9 (cnD c) := okD_cn 5 (by have := okc.n; omega)
  refine ⟨_, rfl, L, ys, rfl, .inl (SqL.of eL), fun J wk => for_it wk (fun j σ Z => ∃ y5 y6 y7 : Option V, σ = [some (.ref b), some v, some u, some fo, some (.ref L), y5, y6, y7, none] ∧ Dt T b G Z) ⟨none, none, none, rfl, Dt.refl R.dr.box R.dr.tab⟩ (fun j σ Z _ h => ?_) (fun j x σ Z Z' hj h hy => ?_) (fun σ Z h => ?_)⟩
  · obtain ⟨_, _, _, rfl, dZ⟩ := h
    exact seq_stay eL (dZ.ext _ _ Lb eL fun ps z => by cases z)
  · obtain ⟨y5, y6, y7, rfl, dZ⟩ := h
    obtain ⟨rfl, hx⟩ := hy
    obtain ⟨t, Bt, hdt, okt⟩ := hys x (List.mem_of_getElem? hx)
    obtain ⟨a, rfl⟩ := dp_ref hdt
    obtain ⟨l1, l2, l3⟩ := sn_len okc okt
    have kt : okD 4 (snD t) := okD_sn 1 (by omega) (by omega) (by omega)
    have RZ := R.step dZ
    have haZ := Dp.tp (dZ.tp R.dr.box) _ (noL_sn t) hdt
    refine at_g (σ' := [some (.ref b), some v, some u, some fo, some (.ref L), some (.ref a), y6, y7, none]) rfl ?_
    have close : ∀ (W : Hp) (z6 z7 : Option V), Dt T b Z' W → ∃ y5 y6 y7 : Option V, [some (V.ref b), some v, some u, some fo, some (.ref L), some (.ref a), z6, z7, none] = [some (V.ref b), some v, some u, some fo, some (.ref L), y5, y6, y7, none] ∧ Dt T b G W := fun W z6 z7 dW => ⟨_, _, _, rfl, dZ.trans dW⟩
    rcases RZ.fd with ⟨rfl, ov⟩ | ⟨D, es, xs, rfl, eD, fe, far, few, nov⟩
    · refine ⟨_, rfl, rfl, _, rfl, iteT ?_⟩
      refine ⟨(by show 2 ≤ sizeLine; decide), fun p np => ?_⟩
      have s1 := same_new np (o := .tup manyV)
      have eP : (upd Z' p (.tup manyV)) p = some (.tup manyV) := upd_same
      have pb : p ≠ b := RZ.dr.box.ne np
      have R1 := RZ.sm s1
      have d1 := Dt.sm RZ.dr.box RZ.dr.tab s1
      have ha1 := Dp.same s1 _ haZ
      generalize upd Z' p (.tup manyV) = G1 at s1 eP R1 d1 ha1
      refine at_g (σ' := [some (.ref b), some v, some u, some .non, some (.ref L), some (.ref a), some (.ref p), y7, none]) rfl ?_
      refine told_go R1.dr.box R1.dr.tab fun G2 d2 => ?_
      have R2 := R1.step d2
      refine ⟨_, rfl, _, rfl, _, rfl, nil_go (fa_over (cnAny_t R2.dv) R2.du ks (tup_snD s) (Dp.tp (d2.tp d1.box) _ (noL_sn t) ha1) kt (tup_snD t) okc oks ov fun dd H4 s4 e4 => ⟨rfl, dd, rfl, e4, fun p2 H5 s5 e5 => ?_⟩)⟩
      have d3 := Dt.sm d2.box d2.tab (s4.trans s5)
      refine at_g (σ' := [some (.ref b), some v, some u, some .non, some (.ref L), some (.ref a), some (.ref p), some (.ref p2), none]) rfl ?_
      refine ⟨_, rfl, _, rfl, nil_go ⟨.ref p2, .ref p, manyD, rfl, dp_many e5, dp_many ((d2.trans d3).ext _ _ pb eP fun ps z => by cases z), okD_many 9, fun H6 s6 => ⟨_, rfl, iteF ?_⟩⟩⟩
      exact close H6 _ _ (d1.trans (d2.trans (d3.trans (Dt.sm d3.box d3.tab s6))))
    · refine ⟨_, rfl, rfl, _, rfl, iteF ?_⟩
      by_cases come : Come c s t
      · obtain ⟨d0, hd0⟩ := far.mem.mpr come
        refine ⟨_, rfl, D, es, rfl, .inl eD, DE.ky fe, _, rfl, some (.int (d0 : Nat)), ⟨es, kyS t, a, .inl eD, DE.ky fe, rfl, ky_at haZ, (fe.val far.nd hd0).symm⟩, ?_⟩
        refine at_g (σ' := [some (.ref b), some v, some u, some (.ref D), some (.ref L), some (.ref a), some (.int (d0 : Nat)), y7, none]) rfl ?_
        refine told_go RZ.dr.box RZ.dr.tab fun G2 d2 => ?_
        have R2 := RZ.step d2
        refine ⟨_, rfl, _, rfl, _, rfl, nil_go (fa_int (cnAny_t R2.dv) R2.du ks (tup_snD s) (Dp.tp (d2.tp RZ.dr.box) _ (noL_sn t) haZ) kt (tup_snD t) okc oks nov far hd0 fun H4 s4 => ?_)⟩
        have d3 := Dt.sm d2.box d2.tab s4
        refine at_g (σ' := [some (.ref b), some v, some u, some (.ref D), some (.ref L), some (.ref a), some (.int (d0 : Nat)), some (.int (d0 : Nat)), none]) rfl ?_
        refine ⟨_, rfl, _, rfl, nil_go ⟨_, _, .int (d0 : Nat), rfl, .int _, .int _, trivial, fun H6 s6 => ⟨_, rfl, iteF ?_⟩⟩⟩
        exact close H6 _ _ (d2.trans (d3.trans (Dt.sm d3.box d3.tab s6)))
      · have hno : ∀ d, (t, d) ∉ xs := fun d h => come (far.mem.mp ⟨d, h⟩)
        refine ⟨_, rfl, D, es, rfl, .inl eD, DE.ky fe, _, rfl, none, ⟨es, kyS t, a, .inl eD, DE.ky fe, rfl, ky_at haZ, (DE.none fe hno).symm⟩, ?_⟩
        refine at_g (σ' := [some (.ref b), some v, some u, some (.ref D), some (.ref L), some (.ref a), some .non, y7, none]) rfl ?_
        refine told_go RZ.dr.box RZ.dr.tab fun G2 d2 => ?_
        have R2 := RZ.step d2
        refine ⟨_, rfl, _, rfl, _, rfl, nil_go (fa_none (cnAny_t R2.dv) R2.du ks (tup_snD s) (Dp.tp (d2.tp RZ.dr.box) _ (noL_sn t) haZ) kt (tup_snD t) okc oks nov come fun H4 s4 => ?_)⟩
        have d3 := Dt.sm d2.box d2.tab s4
        refine at_g (σ' := [some (.ref b), some v, some u, some (.ref D), some (.ref L), some (.ref a), some .non, some .non, none]) rfl ?_
        refine ⟨_, rfl, _, rfl, nil_go ⟨_, _, .none, rfl, .non, .non, trivial, fun H6 s6 => ⟨_, rfl, iteF ?_⟩⟩⟩
        exact close H6 _ _ (d2.trans (d3.trans (Dt.sm d3.box d3.tab s6)))
  obtain ⟨y5, y6, y7, rfl, dZ⟩ := h
  have RZ := R.step dZ
  rcases RZ.fd with ⟨rfl, ov⟩ | ⟨D, es, xs, rfl, eD, fe, far, few, nov⟩
  · refine ⟨_, rfl, rfl, _, rfl, iteT ?_⟩
    refine ⟨(by show 2 ≤ sizeLine; decide), fun p np => ?_⟩
    have s1 := same_new np (o := .tup manyV)
    have eP : (upd Z p (.tup manyV)) p = some (.tup manyV) := upd_same
    have pb : p ≠ b := RZ.dr.box.ne np
    have R1 := RZ.sm s1
    generalize upd Z p (.tup manyV) = G1 at s1 eP R1
    refine at_g (σ' := [some (.ref b), some v, some u, some .non, some (.ref L), y5, some (.ref p), y7, none]) rfl ?_
    dsimp only [tRet, tCall, tCons]
    refine told_go R1.dr.box R1.dr.tab fun G2 d2 => ?_
    have R2 := R1.step d2
    refine ⟨_, rfl, u, snD s, rfl, R2.du, ks9, fun lu H9 s9 hlu => ⟨_, rfl, _, rfl, v, cnD c, rfl, Dp.same s9 _ R2.dv, kcn, fun lv H10 s10 hlv => ?_⟩⟩
    dsimp only [tNil]
    refine (fa_over (cnAny_l hlv) (Dp.same (s9.trans s10) _ R2.du) ks (tup_snD s) (Dp.same s10 _ hlu) ksl (tup_lst_snD s) okc oks ov fun dd H4 s4 e4 => ?_ : spFar K CM [lv, u, lu] _ _ _)
    refine ⟨rfl, dd, rfl, e4, fun p2 H5 s5 e5 => ?_⟩
    have d3 := Dt.sm d2.box d2.tab (s9.trans (s10.trans (s4.trans s5)))
    refine ⟨_, rfl, .ref p2, .ref p, manyD, rfl, dp_many e5, dp_many ((d2.trans d3).ext _ _ pb eP fun ps z => by cases z), okD_many 9, fun H6 s6 => ?_⟩
    exact q H6 ((R2.step d3).sm s6).dr
  · refine ⟨_, rfl, rfl, _, rfl, iteF ?_⟩
    refine at_g (σ' := [some (.ref b), some v, some u, some (.ref D), some (.ref L), y5, some (.int 0), y7, none]) rfl ?_
    dsimp only [tRet, tCall, tCons]
    refine told_go RZ.dr.box RZ.dr.tab fun G2 d2 => ?_
    have R2 := RZ.step d2
    have h0 : (s, 0) ∈ xs := by
      obtain ⟨d, h1, h2⟩ := far.le 0 s Go.zero
      obtain rfl : d = 0 := by omega
      exact h1
    refine ⟨_, rfl, u, snD s, rfl, R2.du, ks9, fun lu H9 s9 hlu => ⟨_, rfl, _, rfl, v, cnD c, rfl, Dp.same s9 _ R2.dv, kcn, fun lv H10 s10 hlv => ?_⟩⟩
    dsimp only [tNil]
    refine (fa_int (cnAny_l hlv) (Dp.same (s9.trans s10) _ R2.du) ks (tup_snD s) (Dp.same s10 _ hlu) ksl (tup_lst_snD s) okc oks nov far h0 fun H4 s4 => ?_ : spFar K CM [lv, u, lu] _ _ _)
    have d3 := Dt.sm d2.box d2.tab (s9.trans (s10.trans s4))
    refine ⟨_, rfl, _, _, .int 0, rfl, .int _, .int _, trivial, fun H6 s6 => ?_⟩
    exact q H6 ((R2.step d3).sm s6).dr
end
end XL
namespace XL
open PySem PySem.Spec PyProof.Rows L2
/-! ### what repr may be asked of -/
structure Shw (x : PyData) (n w : Nat) : Prop where
  s : x.showable = true
  h : x.hasDict = false
  d : x.depth ≤ n
  l : x.leavesShort 13 = true
  g : x.weight ≤ w
structure ShwA (ds : List PyData) (n w : Nat) : Prop where
  s : PyData.showableAll ds = true
  h : PyData.hasDictAll ds = false
  d : PyData.depthAll ds ≤ n
  l : PyData.leavesShortAll 13 ds = true
  g : PyData.weightAll ds ≤ w
theorem shw_int {i : Int} (h : i.natAbs < 10 ^ 12) (n : Nat) : Shw (.int i) n 41 := by
  have hl : i.natAbs ≠ 0 → i.natAbs.log2 < 40 := fun h0 => (Nat.log2_lt h0).mpr (by omega)
  refine ⟨?_, rfl, Nat.zero_le _, ?_, ?_⟩
  · show decide (i.natAbs.log2 < 1920) = true
    refine decide_eq_true ?_
    by_cases h0 : i.natAbs = 0
    · rw [h0]; decide
    · have := hl h0; omega
  · show decide ((PyData.shown (.int i)).length ≤ 13) = true
    exact decide_eq_true (PyData.shown_int_le h)
  · show (if i == 0 then 0 else i.natAbs.log2 + 1) ≤ 41
    split
    · omega
    · rename_i h0
      have : i.natAbs ≠ 0 := fun e => h0 (by rw [Int.natAbs_eq_zero.mp e]; rfl)
      have := hl this; omega
theorem ShwA.nil {n w : Nat} : ShwA [] n w := ⟨rfl, rfl, Nat.zero_le _, rfl, Nat.zero_le _⟩
theorem ShwA.cons {d : PyData} {ds : List PyData} {n w w' : Nat} (a : Shw d n w) (b : ShwA ds n w') : ShwA (d :: ds) n (w + 1 + w') := by
  refine ⟨?_, ?_, ?_, ?_, ?_⟩
  · show (d.showable && PyData.showableAll ds) = true
    rw [a.s, b.s]; rfl
  · show (d.hasDict || PyData.hasDictAll ds) = false
    rw [a.h, b.h]; rfl
  · show max d.depth (PyData.depthAll ds) ≤ n
    exact Nat.max_le.mpr ⟨a.d, b.d⟩
  · show (d.leavesShort 13 && PyData.leavesShortAll 13 ds) = true
    rw [a.l, b.l]; rfl
  · show d.weight + 1 + PyData.weightAll ds ≤ _
    have h1 := a.g; have h2 := b.g; omega
theorem ShwA.of {n w : Nat} : ∀ {ds : List PyData}, (∀ d ∈ ds, Shw d n w) → ShwA ds n (ds.length * (w + 1))
  | [], _ => .nil
  | d :: ds, h => by
    have q := ShwA.cons (h d (List.mem_cons_self ..)) (ShwA.of fun e he => h e (List.mem_cons_of_mem _ he))
    rw [List.length_cons, Nat.succ_mul, Nat.add_comm]; exact q
theorem ShwA.mono {ds : List PyData} {n n' w w' : Nat} (a : ShwA ds n w) (hn : n ≤ n') (hw : w ≤ w') : ShwA ds n' w' := ⟨a.s, a.h, Nat.le_trans a.d hn, a.l, Nat.le_trans a.g hw⟩
theorem Shw.mono {d : PyData} {n n' w w' : Nat} (a : Shw d n w) (hn : n ≤ n') (hw : w ≤ w') : Shw d n' w' := ⟨a.s, a.h, Nat.le_trans a.d hn, a.l, Nat.le_trans a.g hw⟩
theorem ShwA.tup {ds : List PyData} {n w : Nat} (a : ShwA ds n w) : Shw (.tuple ds) (n + 1) w := ⟨a.s, a.h, Nat.succ_le_succ a.d, a.l, a.g⟩
theorem ShwA.lst {ds : List PyData} {n w : Nat} (a : ShwA ds n w) : Shw (.list ds) (n + 1) w := ⟨a.s, a.h, Nat.succ_le_succ a.d, a.l, a.g⟩
theorem Shw.fits {d : PyData} {n w : Nat} (a : Shw d n w) (hw : w ≤ 1048576) : d.shown.length ≤ sizeLine := PyData.shown_fits (B := 13) (by decide) (by decide) a.l (Nat.le_trans a.g (by omega))
theorem shw_lk {r b : Int} {l : Lk} (hr : r ≤ 100) (hb : b ≤ 100) (ok : okLk r b l) : Shw (lkD l) 1 168 := by
  have := ok.a0; have := ok.a1; have := ok.c0; have := ok.c1; have := ok.x0; have := ok.x1; have := ok.y0; have := ok.y1
  exact ((ShwA.cons (shw_int (by omega) 0) (.cons (shw_int (by omega) 0) (.cons (shw_int (by omega) 0) (.cons (shw_int (by omega) 0) (ShwA.nil (w := 0)))))).mono (Nat.le_refl _) (by omega)).tup
theorem shw_cn {c : Cn} (ok : okCn 100 100 c) : Shw (cnD c) 3 17100 := by
  have h1 := ok.r1; have h2 := ok.r2; have h3 := ok.b1; have h4 := ok.b2; have h5 := ok.n
  have hl : ShwA (c.ls.map lkD) 1 16900 := (ShwA.of (n := 1) (w := 168) fun d hd => by
    obtain ⟨l, hm, rfl⟩ := List.mem_map.mp hd
    exact shw_lk (by omega) (by omega) (ok.l l hm)).mono (Nat.le_refl _) (by rw [List.length_map]; omega)
  exact ((ShwA.cons (shw_int (by omega) 2) (.cons (shw_int (by omega) 2) (.cons hl.tup (ShwA.nil (w := 0))))).mono (Nat.le_refl _) (by omega)).tup
theorem shw_ints {zs : List Int} {m : Nat} (h : ∀ z ∈ zs, z.natAbs < 10 ^ 12) (hm : zs.length ≤ m) : Shw (.tuple (zs.map PyData.int)) 1 (m * 42) :=
  ((ShwA.of (n := 0) (w := 41) fun d hd => by
    obtain ⟨z, hz, rfl⟩ := List.mem_map.mp hd
    exact shw_int (h z hz) 0).mono (Nat.le_refl _) (by rw [List.length_map]; exact Nat.mul_le_mul_right _ hm)).tup
end XL
namespace XL
open PySem PySem.Spec PyProof.Rows L2 LamX
abbrev sRight : Stmt := topS 38
theorem boot_repr' : bootBuiltins "repr" = some (.builtin "repr") := by decide +kernel
theorem shw_sn {c : Cn} {B : Int} {s : Sn} (oc : okCn 100 100 c) (os : okSn c B s) (hB : B < 10 ^ 12) : Shw (snD s) 2 12700 := by
  obtain ⟨l1, l2, l3⟩ := sn_len oc os
  have e1 := shw_ints (zs := s.rs) (m := 100) (fun z hz => by have := os.r0 z hz; omega) l1
  have e2 := shw_ints (zs := s.bs) (m := 100) (fun z hz => by have := os.b0 z hz; omega) l2
  have e3 := shw_ints (zs := s.ls) (m := 100) (fun z hz => by rcases os.l0 z hz with h | h <;> rw [h] <;> decide) l3
  exact ((ShwA.cons e1 (.cons e2 (.cons e3 (ShwA.nil (w := 0))))).mono (Nat.le_refl _) (by omega)).tup
/-- a list that came later is written -/
theorem Dt.put {T : List (Addr × Str)} {b p : Addr} {H H' : Hp} {xs0 xs : List V} (d : Dt T b H H') (nG : ∀ o, H p = some o → ∃ ps, o = .tbl ps) (n : p ≠ b) (e : H' p = some (.lst xs0)) : Dt T b H (upd H' p (.lst xs)) := by
  obtain ⟨x, y, z, eb⟩ := d.box
  refine ⟨⟨x, y, z, by rw [upd_ne fun q => n q.symm]; exact eb⟩, fun a o na ea m => ?_, fun q hq => ?_⟩
  · by_cases h : a = p
    · rw [h] at ea
      obtain ⟨ps, hps⟩ := nG o ea
      exact absurd hps (m ps)
    · rw [upd_ne h]; exact d.ext a o na ea m
  · obtain ⟨ps, h1, h2, h3⟩ := d.tab q hq
    refine ⟨ps, by rw [upd_ne fun z => by rw [z, e] at h1; cases h1]; exact h1, h2, fun pos cv hc => ?_⟩
    obtain ⟨c, e1, e2⟩ := h3 pos cv hc
    exact ⟨c, e1, by rw [upd_ne fun z => by rw [z, e] at e2; exact codeO_lst _ (Option.some.inj e2).symm]; exact e2⟩
/-- what is due: the two words, or the lot in its order -/
def Due (K : PySem.W.Frag) (H : Hp) (p : Addr) (c : Cn) (s : Sn) : Prop := (Over c s 400 ∧ H p = some (.tup manyV)) ∨ ¬ Over c s 400 ∧ ∃ zs, SoL K H p zs ∧ Lot c s zs
theorem SoL.dt {K : PySem.W.Frag} {T : List (Addr × Str)} {b p : Addr} {H H' : Hp} {zs : List Sn} (h : SoL K H p zs) (hb : Bx H b) (n : p ≠ b) (d : Dt T b H H') : SoL K H' p zs := by
  obtain ⟨ys, e, z, hd⟩ := h
  exact ⟨ys, d.ext _ _ n e (fun ps z => by cases z), z, fun x hx => Dp.tp (d.tp hb) _ (noL_sn _) (hd x hx)⟩
theorem Due.dt {K : PySem.W.Frag} {T : List (Addr × Str)} {b p : Addr} {H H' : Hp} {c : Cn} {s : Sn} (h : Due K H p c s) (hb : Bx H b) (n : p ≠ b) (d : Dt T b H H') : Due K H' p c s := by
  rcases h with ⟨o, e⟩ | ⟨o, zs, e, l⟩
  · exact .inl ⟨o, d.ext _ _ n e fun ps z => by cases z⟩
  · exact .inr ⟨o, zs, e.dt hb n d, l⟩
section
variable {K : PySem.W.Frag} {H : Hp} {Q : VK} {E : XK} {v u : V} {c : Cn} {s : Sn} {B : Int} {d : PyData} {CM : Addr}
theorem lo_over (hc : CnAny K H v c) (h1 : Dp K H u d) (k1 : okD 4 d) (e1 : tupD d = snD s) (okc : okCn 100 100 c) (oks : okSn c B s) (ov : Over c s 400)
    (q : ∀ (dd : Addr) (H' : Hp), Same H H' → H' dd = some (.xd [("many", .int 400)]) → E (.ref CM) (some dd) H') : spLo K CM [v, u] H Q E :=
  ⟨v, u, c, s, B, d, rfl, hc, h1, k1, e1, okc, oks, fun dd H' _ s1 _ e => q dd H' s1 e, fun A zs H' _ _ _ l => by
    obtain ⟨ys, nd, big, hy⟩ := ov
    have := nd.length_le_of_subset (l₂ := zs) fun y h => (l.m y).mpr (hy y h)
    have := l.l
    omega⟩
theorem lo_all (hc : CnAny K H v c) (h1 : Dp K H u d) (k1 : okD 4 d) (e1 : tupD d = snD s) (okc : okCn 100 100 c) (oks : okSn c B s) (ov : ¬ Over c s 400) {zs : List Sn} (l : Lot c s zs)
    (q : ∀ (A : Addr) (H' : Hp), Same H H' → H A = none → SoL K H' A zs → Q (.ref A) H') : spLo K CM [v, u] H Q E :=
  ⟨v, u, c, s, B, d, rfl, hc, h1, k1, e1, okc, oks, fun dd H' o => absurd o ov, fun A ys H' s1 nA hA l' => q A H' s1 nA (by rw [l.uq l']; exact hA)⟩
end
section
variable {P : Program} {w : World} {K : PySem.W.Frag} {mg : Str → Option Value} {base : Heap}
abbrev nRight : List Str := ["_law_box_here", "_law_turn", "_law_ship_way", "_law_lying_here", "_law_found", "_law_kept", "_law_due", "_law_told_here", "_law_stuck"]
theorem scRight : FnScope nRight ["_law_box_here"] (defScope sRight) := ⟨rfl, rfl, rfl, by decide +kernel, rfl, by decide +kernel, by decide +kernel⟩
abbrev qRight : Str := (envOfC "_law_right" (defScope sRight) 0 0 .none).qual ++ "<lambda>"
def spRight (T : List (Addr × Str)) : Sp := fun vs H Q _ => ∃ b : Addr, vs = [.ref b] ∧ Bx H b ∧ Tabs T H ∧ ∀ H' : Hp, Dt T b H H' → Q (.bl true) H'
theorem ok_right {f fc fy fly fst fs fl fik flo ffr ft cR tb CM CB CN : Addr} {fd fdc fdy fdly fdst fds fdl fdik fdlo fdfr fdt : FuncData} {T : List (Addr × Str)} (F : FunC K "_law_right" "_law_right" sRight f fd cR)
    (C : Fns P w K mg base 12 "_law_canal" ["_law_box_here", "_law_wide", "_law_utmost"] (spCanal K) fc fdc) (Y : Fns P w K mg base 12 "_law_lying" ["_law_box_here", "_law_ship_way", "_law_most"] (spLying K) fy fdy)
    (Ly : Fns P w K mg base 12 "_law_layers" ["_law_ship_way", "_law_lying_here"] (spLy P w K) fly fdly) (St : Fns P w K mg base 12 "_law_steps" ["_law_ship_way", "_law_lying_here"] (spSt K) fst fdst)
    (S : Fns P w K mg base 12 "_law_same" ["_law_found", "_law_due"] (spSame K 12) fs fds) (L : Fns P w K mg base 12 "_law_lists" ["_law_what"] (spLists K 12) fl fdl)
    (Ik : Fns P w K mg base 12 "is_stuck" ["canal", "standing"] (spIk K) fik fdik) (kb_is_stuck : KBinds K fdik ["canal", "standing"] ["standing", "canal"] g2 g2)
    (Lo : FnX P w K mg base 10 "lot_of" ["canal", "standing"] (spLo K CM) flo fdlo) (kb_lot : KBinds K fdlo ["canal", "standing"] ["standing", "canal"] g2 g2)
    (Fr : FnG P w K mg base 12 ffr fdfr ["_law_box_here", "_law_ship_way", "_law_lying_here", "_law_found"] (spFr P w K T)) (gFr : mg "_law_far_right" = some (.ref ffr)) (kFr : PySem.W.keepIn K (.ref ffr) = true) (bFr : Binds K fdfr ["_law_box_here", "_law_ship_way", "_law_lying_here", "_law_found"] [])
    (W : ToldK K mg CM CB CN ft fdt) (TB : TabB base mg cR tb) (hmT : (tb, qRight) ∈ T) (huT : ∀ p ∈ T, p.1 = tb → p.2 = qRight)
    (m_range : mg "range" = none) (m_sorted : mg "sorted" = none) (m_repr : mg "repr" = none) (m_isinstance : mg "isinstance" = none) (m_list : mg "list" = none) : FnG P w K mg base 13 f fd ["_law_box_here"] (spRight T) := by
  refine okGC F scRight (fun vs H Q E h => ?_) (fun A outer s0 H vs Q E hG hr h => ?_)
  · obtain ⟨b, rfl, _⟩ := h
    rfl
  obtain ⟨b, rfl, hb, tab, q⟩ := h
  have hrL : Room 10 _ := hr.mono (by omega)
  refine ⟨_, (pss_cons (ps_for PassesOwn.never rfl (pi_range1 rfl m_range (pa_cons pe_int pa_nil)) (pg_name (i := 1) scRight.nd rfl (.inl rfl))
    (pss_cons (ps_set (i := 2) scRight.nd rfl (.inr rfl) (pe_fn C hr rfl (pa_cons (pv 0) (pa_cons pe_int (pa_cons pe_int pa_nil)))))
    (pss_cons (ps_set (i := 3) scRight.nd rfl (.inr rfl) (pe_fn Y hr rfl (pa_cons (pv 0) (pa_cons (pv 2) (pa_cons pe_int pa_nil)))))
    (pss_cons (ps_par (i := 4) (j := 5) rfl scRight.nd rfl rfl (by decide) rfl rfl (pa_cons (pe_fn Ly hr rfl (pa_cons (pv 2) (pa_cons (pv 3) pa_nil))) (pa_cons (pe_rep hG hr rfl m_repr boot_repr' (pe_lst (pa_cons (pv 2) (pa_cons (pv 3) pa_nil)))) pa_nil)) rfl)
    (pss_cons (ps_set (i := 6) scRight.nd rfl (.inl rfl) (pe_ifExp (pt_cmpR op_isN (pv 4) pe_non (nomark _)) (pe_tup (pa_cons pe_str (pa_cons pe_int pa_nil))) (pe_callB (r := rSortedN P w K) (cr_sortedN rfl hr.units) rfl m_sorted boot_sorted' (pa_cons (pv 4) pa_nil))))
    (pss_cons (ps_set (i := 7) scRight.nd rfl (.inl rfl) (pe_told (k := 10) (t := fun E => tCall (spLo K CM) [] E (tCons (tVar 2) (tCons (tVar 3) tNil))) W TB rfl hmT huT hr rfl (lamS_by (sc := defScope sRight) (by decide +kernel)) (fun A outer s H E f c' hr2 => pe_call Lo.ok hr2 rfl Lo.g Lo.k Lo.b .nil (passes_call (takes_of rfl rfl rfl rfl) fun _ _ _ _ h => h) (pa_cons (pv 2) (pa_cons (pv 3) pa_nil)))))
    (pss_cons (ps_if (pt_not (pt_val (pe_fn S hr rfl (pa_cons (pe_lst (pa_cons (pv 7) (pa_cons (pe_told (k := 10) (t := fun E σ H Q => tCons (tVar 3) (tCons (tVar 2) tNil) σ H fun zs H2 => spLo K CM (g2 [] zs) H2 Q E) W TB rfl hmT huT hr rfl (lamS_by (sc := defScope sRight) (by decide +kernel)) (fun A outer s H E f c' hr2 => pe_callK0 Lo.ok hr2 rfl Lo.g Lo.k kb_lot (passes_call (takes_of rfl rfl rfl rfl) fun _ _ _ _ h => h) (pk_cons (pv 3) (pk_cons (pv 2) pk_nil)))) pa_nil))) (pa_cons (pe_lst (pa_cons (pv 6) (pa_cons (pv 6) pa_nil))) pa_nil))))) (pss_one (ps_ret pe_bl)) pss_nil)
    (pss_cons (ps_if (pt_val (pe_callB call_isi rfl m_isinstance boot_isinstance (pa_cons (pv 7) (pa_cons (pe_bltn (v := .ty "list") rfl m_list boot_list rfl) pa_nil)))) (pss_cons (ps_expr (pe_bm0 PySem.F.plainAttrs_list PySem.F.slot_list_reverse PySem.F.type_list_reverse mt_reverse (pv 7)))
    (pss_cons (ps_expr (pe_bm PySem.F.plainAttrs_list PySem.F.slot_list_append PySem.F.type_list_append mt_append (pv 7) (pa_cons pe_str pa_nil)))
    (pss_one (ps_if (pt_not (pt_val (pe_fn S hr rfl (pa_cons (pe_call Lo.ok hrL rfl Lo.g Lo.k Lo.b .nil passL (pa_cons (pe_fn L hr rfl (pa_cons (pv 2) pa_nil)) (pa_cons (pe_fn L hr rfl (pa_cons (pv 3) pa_nil)) pa_nil))) (pa_cons (pv 6) pa_nil))))) (pss_one (ps_ret pe_bl)) pss_nil)))) pss_nil)
    (pss_cons (ps_set (i := 8) scRight.nd rfl (.inl rfl) (pe_cmpR (op_eqD hr.units) (pe_fn St hr rfl (pa_cons (pv 2) (pa_cons (pv 3) pa_nil))) (pe_lst pa_nil) (nomark _)))
    (pss_cons (ps_set (i := 7) scRight.nd rfl (.inl rfl) (pe_lst (pa_cons (pe_fn Ik hr rfl (pa_cons (pv 2) (pa_cons (pv 3) pa_nil))) (pa_cons (pe_callK0 Ik.ok hr rfl Ik.g Ik.k kb_is_stuck pass0 (pk_cons (pe_fn L hr rfl (pa_cons (pv 3) pa_nil)) (pk_cons (pe_fn L hr rfl (pa_cons (pv 2) pa_nil)) pk_nil))) pa_nil))))
    (pss_cons (ps_if (PW.pt (pw_or (pt_not (pt_val (pe_fn S hr rfl (pa_cons (pv 7) (pa_cons (pe_lst (pa_cons (pv 8) (pa_cons (pv 8) pa_nil))) pa_nil))))) (pw_or1 (pt_not (pt_val (pe_callG hG Fr hr rfl gFr kFr bFr (pa_cons (pv 0) (pa_cons (pv 2) (pa_cons (pv 3) (pa_cons (pv 4) pa_nil)))))))))) (pss_one (ps_ret pe_bl)) pss_nil)
    (pss_one (ps_if (pt_cmpR op_ne (pe_rep hG hr rfl m_repr boot_repr' (pe_lst (pa_cons (pv 2) (pa_cons (pv 3) pa_nil)))) (pv 5) (nomark _)) (pss_one (ps_ret pe_bl)) pss_nil)))))))))))))
    (pss_one (ps_ret pe_bl))), ?_⟩
  refine ⟨_, rfl, by decide, by decide, for_it walk_range (fun i σ Z => ∃ y1 y2 y3 y4 y5 y6 y7 y8 : Option V, σ = [some (.ref b), y1, y2, y3, y4, y5, y6, y7, y8] ∧ Dt T b H Z) ⟨none, none, none, none, none, none, none, none, rfl, Dt.refl hb tab⟩ (fun _ _ _ _ _ => trivial) (fun i x σ Z Z' hi h hy => ?_) (fun σ Z h => ?_)⟩
  rotate_left
  · obtain ⟨y1, y2, y3, y4, y5, y6, y7, y8, rfl, dZ⟩ := h
    exact q _ dZ
  obtain ⟨y1, y2, y3, y4, y5, y6, y7, y8, rfl, dZ⟩ := h
  obtain ⟨rfl, rfl⟩ := hy
  refine at_g (σ' := [some (.ref b), some (.int (0 + (i : Int))), y2, y3, y4, y5, y6, y7, y8]) rfl ?_
  dsimp only
  refine seq4 (fun σ G => ∃ (v u f : V) (c : Cn) (s : Sn) (dp : Addr), σ = [some (.ref b), some (.int (0 + (i : Int))), some v, some u, some f, some (.str (PyData.shown (.list [cnD c, snD s]))), some (.ref dp), y7, y8] ∧ okCn 3 3 c ∧ okSn c 4 s ∧ Rt P w K T b H G c s v u f ∧ dp ≠ b ∧ Due K G dp c s) (fun N hN => ?_) (fun σ G h => ?_)
  · refine ⟨_, rfl, b, 3, 3, rfl, dZ.box, by decide, by decide, by decide, fun c v H1 okc d1 hc => ?_⟩
    refine at_g (σ' := [some (.ref b), some (.int (0 + (i : Int))), some v, y3, y4, y5, y6, y7, y8]) rfl ?_
    have oc : okCn 100 100 c := ⟨okc.r1, by have := okc.r2; omega, okc.b1, by have := okc.b2; omega, by have := okc.n; omega, okc.l⟩
    refine ⟨_, rfl, _, rfl, b, v, c, 3, rfl, d1.box, hc, oc, by decide, by decide, fun s u H2 oks d2 hu => ?_⟩
    refine at_g (σ' := [some (.ref b), some (.int (0 + (i : Int))), some v, some u, y4, y5, y6, y7, y8]) rfl ?_
    have dZ1 := dZ.trans (Dt.dr dZ.box dZ.tab d1)
    have dZ2 := dZ1.trans (Dt.dr dZ1.box dZ1.tab d2)
    have hc2 := Dp.tp (d2.tp d1.box) _ (noL_cn c) hc
    have sh : Shw (.list [cnD c, snD s]) 4 60000 := ((ShwA.cons (shw_cn oc) (.cons ((shw_sn oc oks (by decide)).mono (by omega) (Nat.le_refl _)) (ShwA.nil (w := 0)))).mono (Nat.le_refl _) (by omega)).lst
    have rep : ∀ (G : Hp) (l : Addr), Same H2 G → G l = none → Dp K (upd G l (.lst [v, u])) (.ref l) (.list [cnD c, snD s]) := fun G l sG nl =>
      .lst (SqL.of upd_same) (.cons (Dp.same (sG.trans (same_new nl)) _ hc2) (.cons (Dp.same (sG.trans (same_new nl)) _ hu) .nil))
    refine ⟨_, rfl, _, rfl, nil_go ⟨v, u, c, s, _, rfl, hc2, hu, oc, oks, fun H3 ov s3 => ?_, fun D es xs H3 s3 nD eD fe far few hd => ?_⟩⟩
    · have sd := Dt.sm dZ2.box dZ2.tab s3
      have R3 : Rt P w K T b H H3 c s v u .non := ⟨dZ2.trans sd, Dp.same s3 _ hc2, Dp.same s3 _ hu, .inl ⟨rfl, ov⟩⟩
      refine ⟨_, rfl, _, rfl, (by show 2 ≤ sizeLine; decide), fun k1 nk1 => ?_⟩
      refine ⟨k1, _, rfl, rep H3 k1 s3 nk1, sh.s, sh.h, by have := sh.d; omega, sh.fits (by decide), ?_⟩
      refine ⟨_, _, rfl, ?_⟩
      refine at_s (σ' := [some (.ref b), some (.int (0 + (i : Int))), some v, some u, some .non, some (.str (PyData.shown (.list [cnD c, snD s]))), y6, y7, y8]) rfl ?_
      have R4 := R3.sm (same_new nk1 (o := .lst [v, u]))
      generalize upd H3 k1 (.lst [v, u]) = H4 at R4
      refine ⟨_, rfl, rfl, _, rfl, iteT ?_⟩
      refine ⟨(by show 2 ≤ sizeLine; decide), fun p np => ?_⟩
      refine at_g (σ' := [some (.ref b), some (.int (0 + (i : Int))), some v, some u, some .non, some (.str (PyData.shown (.list [cnD c, snD s]))), some (.ref p), y7, y8]) rfl ?_
      exact hN _ _ ⟨v, u, .non, c, s, p, rfl, okc, oks, R4.sm (same_new np), R4.dr.box.ne np, .inl ⟨ov, upd_same⟩⟩
    · have sd := Dt.sm dZ2.box dZ2.tab s3
      have nov := far.few few
      have R3 : Rt P w K T b H H3 c s v u (.ref D) := ⟨dZ2.trans sd, Dp.same s3 _ hc2, Dp.same s3 _ hu, .inr ⟨D, es, xs, rfl, eD, fe, far, few, nov⟩⟩
      refine ⟨_, rfl, _, rfl, (by show 2 ≤ sizeLine; decide), fun k1 nk1 => ?_⟩
      refine ⟨k1, _, rfl, rep H3 k1 s3 nk1, sh.s, sh.h, by have := sh.d; omega, sh.fits (by decide), ?_⟩
      refine ⟨_, _, rfl, ?_⟩
      refine at_s (σ' := [some (.ref b), some (.int (0 + (i : Int))), some v, some u, some (.ref D), some (.str (PyData.shown (.list [cnD c, snD s]))), y6, y7, y8]) rfl ?_
      have s4 := same_new nk1 (o := .lst [v, u])
      have R4 := R3.sm s4
      have eD4 := s4 _ _ eD
      have fe4 := fe.mv (Tp.of s4)
      generalize upd H3 k1 (.lst [v, u]) = H4 at R4 eD4 fe4
      refine ⟨_, rfl, rfl, _, rfl, iteF ?_⟩
      obtain ⟨al, so, dp⟩ := DE.alike fe4
      refine ⟨_, rfl, nil_go ⟨D, es, rfl, .inl eD4, DE.ky fe4, al, so, dp, fun p cs hp ho np => ?_⟩⟩
      refine at_g (σ' := [some (.ref b), some (.int (0 + (i : Int))), some v, some u, some (.ref D), some (.str (PyData.shown (.list [cnD c, snD s]))), some (.ref p), y7, y8]) rfl ?_
      have s5 := same_new np (o := .lst (cs.map fun e => V.ref e.2.1))
      refine hN _ _ ⟨v, u, .ref D, c, s, p, rfl, okc, oks, R4.sm s5, R4.dr.box.ne np, .inr ⟨nov, cs.map gS, ⟨cs.map (fun e => (V.ref e.2.1, gS e)), ?_, ?_, fun x hx => ?_⟩, far.lot few ?_ ?_⟩⟩
      · rw [List.map_map]; exact upd_same
      · rw [List.map_map]; rfl
      · obtain ⟨e, he, rfl⟩ := List.mem_map.mp hx
        exact Dp.same s5 _ (DE.dp fe4 (hp.mem_iff.mp he)).1
      · exact List.pairwise_map.mpr (ho.imp_of_mem fun {x y} hx hy h => by rw [← (DE.dp fe4 (hp.mem_iff.mp hx)).2, ← (DE.dp fe4 (hp.mem_iff.mp hy)).2]; exact h)
      · rw [← DE.gs fe4]; exact hp.map gS
  obtain ⟨v, u, f, c, s, dp, rfl, okc, oks, R, dpb, due⟩ := h
  clear dZ
  have oc : okCn 100 100 c := ⟨okc.r1, by have := okc.r2; omega, okc.b1, by have := okc.b2; omega, by have := okc.n; omega, okc.l⟩
  obtain ⟨n1, n2, n3⟩ := sn_len oc oks
  have ks : okD 4 (snD s) := okD_sn 1 (by omega) (by omega) (by omega)
  have ksl : okD 4 (lstD (snD s)) := okd_lsn (n := 1) (by omega) (by omega) (by omega)
  have ks12 : okD 12 (snD s) := okD_sn 9 (by omega) (by omega) (by omega)
  have kcn : okD 12 (cnD c) := okD_cn 8 (by have := okc.n; omega)
  generalize htx : PyData.shown (.list [cnD c, snD s]) = txt
  refine seq3 (fun σ G' => ∃ y7 : V, σ = [some (.ref b), some (.int (0 + (i : Int))), some v, some u, some f, some (.str txt), some (.ref dp), some y7, y8] ∧ Dt T b G G') (fun N hN => ?_) (fun σ G' h => ?_)
  · rcases due with ⟨ov, eP⟩ | ⟨nov, zs, hP, lot⟩
    · refine told_go R.dr.box R.dr.tab fun G2 d2 => ?_
      have R2 := R.step d2
      refine ⟨_, rfl, _, rfl, nil_go (lo_over (cnAny_t R2.dv) R2.du ks (tup_snD s) oc oks ov fun dd H4 s4 e4 => ⟨rfl, dd, rfl, e4, fun p H5 s5 e5 => ?_⟩)⟩
      have d5 := d2.trans (Dt.sm d2.box d2.tab (s4.trans s5))
      have pb : p ≠ b := fun z => by
        obtain ⟨x, y, zz, e⟩ := d5.box
        rw [z, e] at e5; cases e5
      clear R2 d2 s4 s5 e4
      have R5 := R.step d5
      refine at_g (σ' := [some (.ref b), some (.int (0 + (i : Int))), some v, some u, some f, some (.str txt), some (.ref dp), some (.ref p), y8]) rfl ?_
      refine ⟨_, rfl, told_go R5.dr.box R5.dr.tab fun G6 d6 => ?_⟩
      have R6 := R5.step d6
      refine ⟨_, rfl, _, rfl, nil_go (lo_over (cnAny_t R6.dv) R6.du ks (tup_snD s) oc oks ov fun dd H7 s7 e7 => ⟨rfl, dd, rfl, e7, fun p2 H8 s8 e8 => ?_⟩)⟩
      have d8 := d6.trans (Dt.sm d6.box d6.tab (s7.trans s8))
      have e58 := d8.ext _ _ pb e5 fun ps z => by cases z
      have eP8 := (d5.trans d8).ext _ _ dpb eP fun ps z => by cases z
      clear R6 d6 s7 s8 e7
      refine ⟨(by show 2 ≤ sizeLine; decide), fun q1 nq1 => ?_⟩
      have s9 := same_new nq1 (o := .lst [.ref p, .ref p2])
      refine ⟨_, rfl, _, rfl, (by show 2 ≤ sizeLine; decide), fun q2 nq2 => ?_⟩
      have s10 := same_new nq2 (o := .lst [.ref dp, .ref dp])
      have e1 := s10 _ _ (show (upd H8 q1 (.lst [.ref p, .ref p2])) q1 = some (.lst [.ref p, .ref p2]) from upd_same)
      have e2 : (upd (upd H8 q1 (.lst [.ref p, .ref p2])) q2 (.lst [.ref dp, .ref dp])) q2 = some (.lst [.ref dp, .ref dp]) := upd_same
      generalize upd (upd H8 q1 (.lst [.ref p, .ref p2])) q2 (.lst [.ref dp, .ref dp]) = H9 at s10 e1 e2
      have s11 := s9.trans s10
      refine nil_go ⟨.ref q1, .ref q2, .list [manyD, manyD], rfl, .lst (SqL.of e1) (.cons (dp_many (s11 _ _ e58)) (.cons (dp_many (s11 _ _ e8)) .nil)), .lst (SqL.of e2) (.cons (dp_many (s11 _ _ eP8)) (.cons (dp_many (s11 _ _ eP8)) .nil)), okD_two 11 (okD_many 9), fun H10 s12 => ⟨_, rfl, iteF ?_⟩⟩
      have d10 := d5.trans (d8.trans (Dt.sm d8.box d8.tab (s11.trans s12)))
      have e10 := (s11.trans s12) _ _ e58
      refine ⟨_, rfl, cons_c (nil_go ⟨.ref p, .ty "list", .type "tuple", .type "list", false, rfl, .ty _, tyx_of (dp_many e10), rfl, _, rfl, iteF ?_⟩)⟩
      exact hN _ _ ⟨_, rfl, d10⟩
    · have kz : ∀ n : Nat, okD (n + 4) (.list (zs.map snD)) := fun n => ⟨by rw [List.length_map]; have := lot.l; omega, fun d hd => by
        obtain ⟨z, hz, rfl⟩ := List.mem_map.mp hd
        obtain ⟨ms, a, e⟩ := (lot.m z).mp hz
        have okz := runS_ok oc oks a
        rw [e] at okz
        obtain ⟨l1, l2, l3⟩ := sn_len oc okz
        exact okD_sn n (by omega) (by omega) (by omega)⟩
      refine told_go R.dr.box R.dr.tab fun G2 d2 => ?_
      have R2 := R.step d2
      refine ⟨_, rfl, _, rfl, nil_go (lo_all (cnAny_t R2.dv) R2.du ks (tup_snD s) oc oks nov lot fun p H5 s5 np hp5 => ?_)⟩
      have d5 := d2.trans (Dt.sm d2.box d2.tab s5)
      have pb : p ≠ b := d2.box.ne np
      have nG : ∀ o, G p = some o → ∃ ps, o = .tbl ps := fun o e => by
        by_cases h : ∃ ps, o = .tbl ps
        · exact h
        · have := d2.ext _ _ pb e fun ps z => h ⟨ps, z⟩
          rw [np] at this; cases this
      clear R2 d2 s5 np
      have R5 := R.step d5
      refine at_g (σ' := [some (.ref b), some (.int (0 + (i : Int))), some v, some u, some f, some (.str txt), some (.ref dp), some (.ref p), y8]) rfl ?_
      refine ⟨_, rfl, told_go R5.dr.box R5.dr.tab fun G6 d6 => ?_⟩
      have R6 := R5.step d6
      refine ⟨_, rfl, _, rfl, nil_go (lo_all (cnAny_t R6.dv) R6.du ks (tup_snD s) oc oks nov lot fun p2 H8 s8 np2 hp8 => ?_)⟩
      have d8 := d6.trans (Dt.sm d6.box d6.tab s8)
      have hp58 := hp5.dt d5.box pb d8
      have hP8 := hP.dt R.dr.box dpb (d5.trans d8)
      clear R6 d6 s8 np2
      refine ⟨(by show 2 ≤ sizeLine; decide), fun q1 nq1 => ?_⟩
      have s9 := same_new nq1 (o := .lst [.ref p, .ref p2])
      refine ⟨_, rfl, _, rfl, (by show 2 ≤ sizeLine; decide), fun q2 nq2 => ?_⟩
      have s10 := same_new nq2 (o := .lst [.ref dp, .ref dp])
      have e1 := s10 _ _ (show (upd H8 q1 (.lst [.ref p, .ref p2])) q1 = some (.lst [.ref p, .ref p2]) from upd_same)
      have e2 : (upd (upd H8 q1 (.lst [.ref p, .ref p2])) q2 (.lst [.ref dp, .ref dp])) q2 = some (.lst [.ref dp, .ref dp]) := upd_same
      generalize upd (upd H8 q1 (.lst [.ref p, .ref p2])) q2 (.lst [.ref dp, .ref dp]) = H9 at s10 e1 e2
      have s11 := s9.trans s10
      have a1 := Dp.same s11 _ hp58.dp
      have a2 := Dp.same s11 _ hp8.dp
      have a3 := Dp.same s11 _ hP8.dp
      refine nil_go ⟨.ref q1, .ref q2, .list [.list (zs.map snD), .list (zs.map snD)], rfl, .lst (SqL.of e1) (.cons a1 (.cons a2 .nil)), .lst (SqL.of e2) (.cons a3 (.cons a3 .nil)), okD_two 11 (kz 7), fun H10 s12 => ⟨_, rfl, iteF ?_⟩⟩
      have d9 := Dt.sm d8.box d8.tab (s11.trans s12)
      have d10 := d5.trans (d8.trans d9)
      have hp10 := hp58.dt d8.box pb d9
      clear a1 a2 a3 e1 e2 s9 s10 s11 s12 nq1 nq2 hp58 hP8 d9
      refine ⟨_, rfl, cons_c (nil_go ⟨.ref p, .ty "list", .type "list", .type "list", true, rfl, .ty _, tyx_of hp10.dp, rfl, _, rfl, iteT ?_⟩)⟩
      obtain ⟨ys, eY, eZ, _⟩ := hp10
      have yl : ys.length = zs.length := by rw [← eZ, List.length_map]
      have zl := lot.l
      refine ⟨_, rfl, .inl ⟨rfl, _, SqL.of eY⟩, p, _, rfl, rfl, eY, ?_⟩
      have dY := Dt.put d10 nG pb eY (xs := (ys.map (·.1)).reverse)
      have eR : (upd H10 p (.lst (ys.map (·.1)).reverse)) p = some (.lst (ys.map (·.1)).reverse) := upd_same
      generalize upd H10 p (.lst (ys.map (·.1)).reverse) = H11 at dY eR
      refine ⟨_, rfl, .inl ⟨rfl, _, SqL.of eR⟩, ?_⟩
      refine cons_c (nil_go ⟨p, _, _, rfl, rfl, eR, lt_line (by rw [List.length_reverse, List.length_map]; omega), ?_⟩)
      have dW := Dt.put dY nG pb eR (xs := (ys.map (·.1)).reverse ++ [V.str (Str.ofString "more")])
      generalize upd H11 p (.lst ((ys.map (·.1)).reverse ++ [V.str (Str.ofString "more")])) = H12 at dW
      have RW := R.step dW
      have hPW := hP.dt R.dr.box dpb dW
      refine ⟨_, rfl, v, cnD c, rfl, RW.dv, kcn, fun lv H13 s13 hlv => ?_⟩
      refine ⟨_, rfl, u, snD s, rfl, Dp.same s13 _ RW.du, ks12, fun lu H14 s14 hlu => ?_⟩
      refine nil_go (lo_all (CM := CM) (E := E0) (cnAny_l (Dp.same s14 _ hlv)) hlu ksl (tup_lst_snD s) oc oks nov lot fun p3 H15 s15 np3 hp15 => ?_)
      have s135 := s13.trans (s14.trans s15)
      refine ⟨_, rfl, nil_go ⟨.ref p3, .ref dp, .list (zs.map snD), rfl, hp15.dp, Dp.same s135 _ hPW.dp, kz 8, fun H16 s16 => ⟨_, rfl, iteF ?_⟩⟩⟩
      exact hN _ _ ⟨_, rfl, dW.trans (Dt.sm dW.box dW.tab (s135.trans s16))⟩
  obtain ⟨y7, rfl, dG⟩ := h
  have RC := R.step dG
  clear due
  have bbk : okD 11 (.bool (may c s c.ls.length).isEmpty) := trivial
  refine ⟨_, rfl, _, rfl, nil_go ⟨v, u, c, s, _, rfl, RC.dv, snAny_t RC.du, oc, oks, fun p us H1 s1 np M => ?_⟩⟩
  refine ⟨(by show 0 ≤ sizeLine; decide), fun e ne => ?_⟩
  have s2 := same_new ne (o := .lst [])
  refine ⟨.list ((may c s c.ls.length).map mvD), .list [], .lst (SqL.of (s2 _ _ M.e)) (DpAll.same s2 _ (MvAt.dp (a := p) M.l M.d)), .lst (SqL.of upd_same) .nil, mvs_shaped _, rfl, ?_⟩
  rw [mvs_nil]
  generalize hbb : (may c s c.ls.length).isEmpty = bb at bbk
  have R2 := RC.sm (s1.trans s2)
  generalize upd H1 e (.lst []) = H2 at R2
  clear s1 s2 M np ne
  refine at_g (σ' := [some (.ref b), some (.int (0 + (i : Int))), some v, some u, some f, some (.str txt), some (.ref dp), some y7, some (.bl bb)]) rfl ?_
  refine ⟨_, rfl, _, rfl, nil_go ⟨v, u, c, s, _, rfl, cnAny_t R2.dv, snAny_t R2.du, oc, oks, fun H3 s3 => ?_⟩⟩
  rw [hbb]
  refine ⟨_, rfl, u, snD s, rfl, Dp.same s3 _ R2.du, ks12, fun lu H4 s4 hlu => ?_⟩
  refine ⟨_, rfl, v, cnD c, rfl, Dp.same (s3.trans s4) _ R2.dv, kcn, fun lv H5 s5 hlv => ?_⟩
  refine ⟨lv, lu, c, s, _, rfl, cnAny_l hlv, (snAny_l hlu).same s5, oc, oks, fun H6 s6 => ?_⟩
  rw [hbb]
  refine ⟨(by show 2 ≤ sizeLine; decide), fun q1 nq1 => ?_⟩
  have s7 := same_new nq1 (o := .lst [.bl bb, .bl bb])
  have e1 : (upd H6 q1 (.lst [.bl bb, .bl bb])) q1 = some (.lst [.bl bb, .bl bb]) := upd_same
  have R7 := R2.sm (s3.trans (s4.trans (s5.trans (s6.trans s7))))
  generalize upd H6 q1 (.lst [.bl bb, .bl bb]) = H7 at e1 R7
  clear s3 s4 s5 s6 s7 nq1 hlu hlv R2
  refine at_g (σ' := [some (.ref b), some (.int (0 + (i : Int))), some v, some u, some f, some (.str txt), some (.ref dp), some (.ref q1), some (.bl bb)]) rfl ?_
  refine ⟨_, rfl, _, rfl, _, rfl, (by show 2 ≤ sizeLine; decide), fun q2 nq2 => ?_⟩
  have s8 := same_new nq2 (o := .lst [.bl bb, .bl bb])
  refine nil_go ⟨.ref q1, .ref q2, .list [.bool bb, .bool bb], rfl, .lst (SqL.of (s8 _ _ e1)) (.cons (.bl _) (.cons (.bl _) .nil)), .lst (SqL.of upd_same) (.cons (.bl _) (.cons (.bl _) .nil)), okD_two 11 bbk, fun H9 s9 => ⟨_, rfl, iteF ?_⟩⟩
  have R9 := R7.sm (s8.trans s9)
  clear s8 s9 nq2 e1 R7
  refine ⟨_, rfl, _, rfl, _, rfl, _, rfl, nil_go ⟨b, v, u, f, c, s, rfl, R9.dr.box, R9.dr.tab, R9.dv, R9.du, oc, oks, R9.fd, fun H10 d10 => ⟨_, rfl, iteF ?_⟩⟩⟩
  have R10 := R9.step d10
  have sh : Shw (.list [cnD c, snD s]) 4 60000 := ((ShwA.cons (shw_cn oc) (.cons ((shw_sn oc oks (by decide)).mono (by omega) (Nat.le_refl _)) (ShwA.nil (w := 0)))).mono (Nat.le_refl _) (by omega)).lst
  refine ⟨_, rfl, _, rfl, (by show 2 ≤ sizeLine; decide), fun k2 nk2 => ?_⟩
  have s11 := same_new nk2 (o := .lst [v, u])
  refine ⟨k2, _, rfl, .lst (SqL.of upd_same) (.cons (Dp.same s11 _ R10.dv) (.cons (Dp.same s11 _ R10.du) .nil)), sh.s, sh.h, by have := sh.d; omega, sh.fits (by decide), _, rfl, rfl, _, rfl, ?_⟩
  rw [htx]
  refine iteNS rfl ?_
  exact ⟨_, _, _, _, _, _, _, _, rfl, (R10.sm s11).dr⟩
end
end XL
namespace XL
open PySem PySem.Spec PyProof.Rows L2 LamX
abbrev sLaw : Stmt := topS 39
section
variable {P : Program} {w : World} {K : PySem.W.Frag} {mg : Str → Option Value} {base : Heap}
abbrev nLaw : List Str := ["_law_script", "_law_cells_here", "_law_k"]
theorem scLaw : FnScope nLaw ["_law_script"] (defScope sLaw) := ⟨rfl, rfl, rfl, by decide +kernel, rfl, by decide +kernel, by decide +kernel⟩
def spLaw (K : PySem.W.Frag) (T : List (Addr × Str)) : Sp := fun vs H Q _ => ∃ (a : Addr) (ns : List Int), vs = [.ref a] ∧ SqL K H a (ns.map V.int) ∧ ns.length ≤ 63 ∧ LamX.Tabs T H ∧ ∀ H', Q (.bl true) H'
theorem ok_law {T : List (Addr × Str)} {f fc fx fr : Addr} {fd fdc fdx fdr : FuncData} (F : Fun K "law" "law" sLaw f fd)
    (C : Fns P w K mg base 13 "_law_cells" ["_law_script", "_law_utmost"] (spCells K) fc fdc) (B : Fns P w K mg base 13 "_law_box" ["_law_cells_here", "_law_k"] (spBox K) fx fdx)
    (R : FnG P w K mg base 13 fr fdr ["_law_box_here"] (spRight T)) (gR : mg "_law_right" = some (.ref fr)) (kR : PySem.W.keepIn K (.ref fr) = true) (bR : Binds K fdr ["_law_box_here"] []) (me : mg "len" = none) (ma : mg "all" = none) (mr : mg "range" = none) :
    FnG P w K mg base 14 f fd ["_law_script"] (spLaw K T) := by
  refine okG F scLaw (fun vs H Q E h => ?_) (fun cdv A outer s H vs Q E hG hr h => ?_)
  · obtain ⟨a, ns, rfl, _⟩ := h
    rfl
  obtain ⟨a, ns, rfl, ha, hn, tab, q⟩ := h
  refine ⟨_, pss_cons (ps_set (i := 1) scLaw.nd rfl (.inr rfl) (pe_fn C hr rfl (pa_cons (pv 0) (pa_cons pe_int pa_nil))))
    (pss_one (ps_ret (pe_callB (cr_all rfl) rfl ma boot_all (pa_cons (pe_lc (own := [("_law_k", 2)]) (g := gName 2) (tt := tYes) rfl scLaw.nd (pi_range1 rfl mr (pa_cons (pe_callB call_len_seq rfl me PySem.boot_len (pa_cons (pv 1) pa_nil)) pa_nil)) (blkOk_by (own := [("_law_k", 2)]) (N := nLaw) (sc := defScope sLaw) (by decide +kernel))
        (fun _ _ _ _ _ => pg_name (i := 2) scLaw.nd rfl (Or.inl rfl)) (fun _ _ _ _ _ => pts_nil) (fun _ _ _ _ _ => pe_hide (pe_callG hG R hr rfl gR kR bR (pa_cons (pe_fn B hr rfl (pa_cons (pv 1) (pa_cons (pv 2) pa_nil))) pa_nil)))) pa_nil)))), ?_⟩
  refine ⟨_, rfl, a, ns, 2, rfl, ha, hn, by decide, by decide, fun p zs H1 s1 np ep z1 z2 => ?_⟩
  refine at_g (σ' := [some (.ref a), some (.ref p), none]) rfl ?_
  refine ⟨_, rfl, p, _, rfl, .inl (SqL.of ep), _, rfl, by rw [List.length_map]; omega, by rw [List.length_map]; omega, lc_map walk_range (fun A B => ExtN A B ∧ Tabs T B) (fun a b => ⟨a.1.trans b.1, b.2⟩) (fun i y F => y = .bl true) (fun i y A B _ p => p) (by rw [List.length_map]; exact Nat.lt_of_le_of_lt z2 (by decide)) ⟨ExtN.refl _, tab.ext s1⟩ (fun _ _ _ _ _ => trivial) (fun j x D acc F H' hj nD sF nF hy B hB => ?_) (fun D ys F nD sF nF hl hR => ?_)⟩
  · obtain ⟨rfl, rfl⟩ := hy
    have hj' : j < zs.length := by rw [List.length_map] at hj; omega
    refine hB _ F rfl nF fun Qt hq => ?_
    refine ⟨_, rfl, _, rfl, p, zs, j, by show [V.ref p, V.int (0 + (j : Int))] = _; rw [Int.zero_add], SqL.of (sF.1 _ _ ep fun ps z => by cases z), hj', fun b x y nb => ?_⟩
    refine ⟨b, rfl, ⟨x, y, 0, upd_same⟩, sF.2.ext (same_new nb), fun F' d => hq _ _ ⟨fun c o e m => ?_, d.tab⟩ rfl⟩
    have hc : c ≠ b := ne_of_none e nb
    exact d.ext c o hc (by rw [upd_ne hc]; exact e) m
  · refine ⟨D, List.replicate ys.length true, rfl, ?_, ?_⟩
    · rw [← eq_true_map ys hR]; exact SqL.of upd_same
    · rw [all_true]
      exact q _
end

theorem two_mem {α : Type} {a b p : α} (h : p ∈ [a, b]) : p = a ∨ p = b := by
  simpa using h
theorem tab_mk {q : Program} {loose : List Str} {mean : ExcName → Option Value} {mg mb : Str → Option Value} {h : Heap} {K : PySem.W.Frag} {d : DefRec} {x : Str} {c p f : Addr} {oc ob : Value} {od oo : Option Addr} {sl os : Array (Option Value)} {fd : FuncData} {vs : Array Value} (TP : Top q loose mean mg mb h) (X : K.In h)
    (hr : (recsOf q).find? (fun e => e.name == x) = some d) (a : PySem.W.nsIn K mainGlobals x = some (some (.ref f))) (l : K.lookup f = some ⟨oc, od, .func fd, sl⟩) (lc : K.lookup c = some ⟨ob, oo, .fields vs, os⟩) (vp : (vs[11]? : Option Value) = some (.ref p)) (hc : fd.code = .ref c := by rfl) :
    PySem.W.CodeHd h c p ∧ h.get? p = some (PySem.W.tabObj #[]) := by
  refine PySem.W.tab_of TP X hr ?_
  unfold PySem.W.tabIn
  rw [a]
  dsimp only
  rw [l]
  dsimp only
  rw [hc]
  dsimp only
  rw [lc]
  dsimp only
  rw [vp]
set_option maxHeartbeats 4000000 in
theorem all_mk {l : PySem.W.OpenLaw} {w : World} {K : PySem.W.Frag} {h : Heap} {mg : Str → Option Value} {fa f1 f2 f3 f4 f5 f6 f7 f8 f9 f10 f11 f12 f13 f14 f15 f16 f17 f18 f19 f20 f21 f22 f23 f24 f25 f26 f27 f28 : Addr} (X : K.In h) {loose : List Str} {mean : ExcName → Option Value} {mb : Str → Option Value} (hfa : mg "law" = some (.ref fa))
    {od1 an1 : Option Addr} {sl1 : Array (Option Value)} {oc1 kV1 dc1 pm1 cd1 ct1 : Value}
    {od2 an2 : Option Addr} {sl2 : Array (Option Value)} {oc2 kV2 dc2 pm2 cd2 ct2 : Value}
    {od3 an3 : Option Addr} {sl3 : Array (Option Value)} {oc3 kV3 dc3 pm3 cd3 ct3 : Value}
    {od4 an4 : Option Addr} {sl4 : Array (Option Value)} {oc4 kV4 dc4 pm4 cd4 ct4 : Value}
    {od5 an5 : Option Addr} {sl5 : Array (Option Value)} {oc5 kV5 dc5 pm5 cd5 ct5 : Value}
    {od6 an6 : Option Addr} {sl6 : Array (Option Value)} {oc6 kV6 dc6 pm6 cd6 ct6 : Value}
    {od7 an7 : Option Addr} {sl7 : Array (Option Value)} {oc7 kV7 dc7 pm7 cd7 ct7 : Value}
    {od8 an8 : Option Addr} {sl8 : Array (Option Value)} {oc8 kV8 dc8 pm8 cd8 ct8 : Value}
    {od9 an9 : Option Addr} {sl9 : Array (Option Value)} {oc9 kV9 dc9 pm9 cd9 ct9 : Value}
    {od10 an10 : Option Addr} {sl10 : Array (Option Value)} {oc10 kV10 dc10 pm10 cd10 ct10 : Value}
    {od11 an11 : Option Addr} {sl11 : Array (Option Value)} {oc11 kV11 dc11 pm11 cd11 ct11 : Value}
    {od12 an12 : Option Addr} {sl12 : Array (Option Value)} {oc12 kV12 dc12 pm12 cd12 ct12 : Value}
    {od13 an13 : Option Addr} {sl13 : Array (Option Value)} {oc13 kV13 dc13 pm13 cd13 ct13 : Value}
    {od14 an14 : Option Addr} {sl14 : Array (Option Value)} {oc14 kV14 dc14 pm14 cd14 ct14 : Value}
    {od15 an15 : Option Addr} {sl15 : Array (Option Value)} {oc15 kV15 dc15 pm15 cd15 ct15 : Value}
    {od16 an16 : Option Addr} {sl16 : Array (Option Value)} {oc16 kV16 dc16 pm16 cd16 ct16 : Value}
    {od17 an17 : Option Addr} {sl17 : Array (Option Value)} {oc17 kV17 dc17 pm17 cd17 ct17 : Value}
    {od18 an18 : Option Addr} {sl18 : Array (Option Value)} {oc18 kV18 dc18 pm18 cd18 ct18 : Value}
    {od19 an19 : Option Addr} {sl19 : Array (Option Value)} {oc19 kV19 dc19 pm19 cd19 ct19 : Value}
    {od20 an20 : Option Addr} {sl20 : Array (Option Value)} {oc20 kV20 dc20 pm20 cd20 ct20 : Value}
    {od21 an21 : Option Addr} {sl21 : Array (Option Value)} {oc21 kV21 dc21 pm21 cd21 ct21 : Value}
    {od22 an22 : Option Addr} {sl22 : Array (Option Value)} {oc22 kV22 dc22 pm22 cd22 ct22 : Value}
    {od23 an23 : Option Addr} {sl23 : Array (Option Value)} {oc23 kV23 dc23 pm23 cd23 ct23 : Value}
    {od24 an24 : Option Addr} {sl24 : Array (Option Value)} {oc24 kV24 dc24 pm24 cd24 ct24 : Value}
    {od25 an25 : Option Addr} {sl25 : Array (Option Value)} {oc25 kV25 dc25 pm25 cd25 ct25 : Value}
    {od26 an26 : Option Addr} {sl26 : Array (Option Value)} {oc26 kV26 dc26 pm26 ct26 : Value}
    {od27 an27 : Option Addr} {sl27 : Array (Option Value)} {oc27 kV27 dc27 pm27 ct27 : Value}
    {od28 an28 : Option Addr} {sl28 : Array (Option Value)} {oc28 kV28 dc28 pm28 cd28 ct28 : Value}
    {t_RED t_BLUE t_MOST : Tok}
    {cB eB cM eM cC : Addr} {xodB xanB : Option Addr} {xslB : Array (Option Value)} {xocB xkVB xdcB xpmB xcdB xctB : Value} {nmB qB : Str} {NB : Addr} {bbB : List Value} {snB : List Str} {subB : List Value} {abB : Bool} {colB : Option Bool} {ddB : Option Addr} {maB mbB mcB mdB meB : Option Value} {xodM xanM : Option Addr} {xslM : Array (Option Value)} {xocM xkVM xdcM xpmM xcdM xctM : Value} {nmM qM : Str} {NM : Addr} {bbM : List Value} {snM : List Str} {subM : List Value} {abM : Bool} {colM : Option Bool} {ddM : Option Addr} {maM mbM mcM mdM meM : Option Value} {nmC qC : Str} {NC : Addr} {bbC bmmC : List Value} {snC : List Str} {subC : List Value} {abC : Bool} {colC : Option Bool} {ddC : Option Addr} {maC mbC mcC mdC meC : Option Value} {nwC : String} {cF cR pF pR : Addr} {obF obR : Value} {ooF ooR : Option Addr} {vsF vsR : Array Value} {osF osR : Array (Option Value)} {q : Program} {drF drR : DefRec}
    (a1 : PySem.W.nsIn K mainGlobals "tupled" = some (some (.ref f1)))
    (l1 : K.lookup f1 = some ⟨oc1, od1, .func (PySem.W.fnOf "tupled" "tupled" (defArgs sTupled) (defBody sTupled) (defScope sTupled) .none kV1 dc1 pm1 an1 cd1 ct1), sl1⟩)
    (d1 : PySem.W.codeIn K cd1 "tupled" = true)
    (k1 : PySem.W.keepIn K (.ref f1) = true)
    (a2 : PySem.W.nsIn K mainGlobals "ends_of" = some (some (.ref f2)))
    (l2 : K.lookup f2 = some ⟨oc2, od2, .func (PySem.W.fnOf "ends_of" "ends_of" (defArgs sEnds) (defBody sEnds) (defScope sEnds) .none kV2 dc2 pm2 an2 cd2 ct2), sl2⟩)
    (d2 : PySem.W.codeIn K cd2 "ends_of" = true)
    (k2 : PySem.W.keepIn K (.ref f2) = true)
    (a3 : PySem.W.nsIn K mainGlobals "from_and_to" = some (some (.ref f3)))
    (l3 : K.lookup f3 = some ⟨oc3, od3, .func (PySem.W.fnOf "from_and_to" "from_and_to" (defArgs sFT) (defBody sFT) (defScope sFT) .none kV3 dc3 pm3 an3 cd3 ct3), sl3⟩)
    (d3 : PySem.W.codeIn K cd3 "from_and_to" = true)
    (k3 : PySem.W.keepIn K (.ref f3) = true)
    (a4 : PySem.W.nsIn K mainGlobals "has_boat" = some (some (.ref f4)))
    (l4 : K.lookup f4 = some ⟨oc4, od4, .func (PySem.W.fnOf "has_boat" "has_boat" (defArgs sHas) (defBody sHas) (defScope sHas) .none kV4 dc4 pm4 an4 cd4 ct4), sl4⟩)
    (d4 : PySem.W.codeIn K cd4 "has_boat" = true)
    (k4 : PySem.W.keepIn K (.ref f4) = true)
    (a5 : PySem.W.nsIn K mainGlobals "may_go" = some (some (.ref f5)))
    (l5 : K.lookup f5 = some ⟨oc5, od5, .func (PySem.W.fnOf "may_go" "may_go" (defArgs sMay) (defBody sMay) (defScope sMay) .none kV5 dc5 pm5 an5 cd5 ct5), sl5⟩)
    (d5 : PySem.W.codeIn K cd5 "may_go" = true)
    (k5 : PySem.W.keepIn K (.ref f5) = true)
    (a6 : PySem.W.nsIn K mainGlobals "gone" = some (some (.ref f6)))
    (l6 : K.lookup f6 = some ⟨oc6, od6, .func (PySem.W.fnOf "gone" "gone" (defArgs sGone) (defBody sGone) (defScope sGone) .none kV6 dc6 pm6 an6 cd6 ct6), sl6⟩)
    (d6 : PySem.W.codeIn K cd6 "gone" = true)
    (k6 : PySem.W.keepIn K (.ref f6) = true)
    (a7 : PySem.W.nsIn K mainGlobals "come_to" = some (some (.ref f7)))
    (l7 : K.lookup f7 = some ⟨oc7, od7, .func (PySem.W.fnOf "come_to" "come_to" (defArgs sCT) (defBody sCT) (defScope sCT) .none kV7 dc7 pm7 an7 cd7 ct7), sl7⟩)
    (d7 : PySem.W.codeIn K cd7 "come_to" = true)
    (k7 : PySem.W.keepIn K (.ref f7) = true)
    (a8 : PySem.W.nsIn K mainGlobals "come_to_few" = some (some (.ref f8)))
    (l8 : K.lookup f8 = some ⟨oc8, od8, .func (PySem.W.fnOf "come_to_few" "come_to_few" (defArgs sFw) (defBody sFw) (defScope sFw) .none kV8 dc8 pm8 an8 cd8 ct8), sl8⟩)
    (d8 : PySem.W.codeIn K cd8 "come_to_few" = true)
    (k8 : PySem.W.keepIn K (.ref f8) = true)
    (a9 : PySem.W.nsIn K mainGlobals "lot_of" = some (some (.ref f9)))
    (l9 : K.lookup f9 = some ⟨oc9, od9, .func (PySem.W.fnOf "lot_of" "lot_of" (defArgs sLo) (defBody sLo) (defScope sLo) .none kV9 dc9 pm9 an9 cd9 ct9), sl9⟩)
    (d9 : PySem.W.codeIn K cd9 "lot_of" = true)
    (k9 : PySem.W.keepIn K (.ref f9) = true)
    (a10 : PySem.W.nsIn K mainGlobals "way" = some (some (.ref f10)))
    (l10 : K.lookup f10 = some ⟨oc10, od10, .func (PySem.W.fnOf "way" "way" (defArgs sWy) (defBody sWy) (defScope sWy) .none kV10 dc10 pm10 an10 cd10 ct10), sl10⟩)
    (d10 : PySem.W.codeIn K cd10 "way" = true)
    (k10 : PySem.W.keepIn K (.ref f10) = true)
    (a11 : PySem.W.nsIn K mainGlobals "far" = some (some (.ref f11)))
    (l11 : K.lookup f11 = some ⟨oc11, od11, .func (PySem.W.fnOf "far" "far" (defArgs sFar) (defBody sFar) (defScope sFar) .none kV11 dc11 pm11 an11 cd11 ct11), sl11⟩)
    (d11 : PySem.W.codeIn K cd11 "far" = true)
    (k11 : PySem.W.keepIn K (.ref f11) = true)
    (a12 : PySem.W.nsIn K mainGlobals "is_stuck" = some (some (.ref f12)))
    (l12 : K.lookup f12 = some ⟨oc12, od12, .func (PySem.W.fnOf "is_stuck" "is_stuck" (defArgs sIk) (defBody sIk) (defScope sIk) .none kV12 dc12 pm12 an12 cd12 ct12), sl12⟩)
    (d12 : PySem.W.codeIn K cd12 "is_stuck" = true)
    (k12 : PySem.W.keepIn K (.ref f12) = true)
    (a13 : PySem.W.nsIn K mainGlobals "_law_box" = some (some (.ref f13)))
    (l13 : K.lookup f13 = some ⟨oc13, od13, .func (PySem.W.fnOf "_law_box" "_law_box" (defArgs sBox) (defBody sBox) (defScope sBox) .none kV13 dc13 pm13 an13 cd13 ct13), sl13⟩)
    (d13 : PySem.W.codeIn K cd13 "_law_box" = true)
    (k13 : PySem.W.keepIn K (.ref f13) = true)
    (a14 : PySem.W.nsIn K mainGlobals "_law_take" = some (some (.ref f14)))
    (l14 : K.lookup f14 = some ⟨oc14, od14, .func (PySem.W.fnOf "_law_take" "_law_take" (defArgs sTake) (defBody sTake) (defScope sTake) .none kV14 dc14 pm14 an14 cd14 ct14), sl14⟩)
    (d14 : PySem.W.codeIn K cd14 "_law_take" = true)
    (k14 : PySem.W.keepIn K (.ref f14) = true)
    (a15 : PySem.W.nsIn K mainGlobals "_law_cells" = some (some (.ref f15)))
    (l15 : K.lookup f15 = some ⟨oc15, od15, .func (PySem.W.fnOf "_law_cells" "_law_cells" (defArgs sCells) (defBody sCells) (defScope sCells) .none kV15 dc15 pm15 an15 cd15 ct15), sl15⟩)
    (d15 : PySem.W.codeIn K cd15 "_law_cells" = true)
    (k15 : PySem.W.keepIn K (.ref f15) = true)
    (a16 : PySem.W.nsIn K mainGlobals "_law_of" = some (some (.ref f16)))
    (l16 : K.lookup f16 = some ⟨oc16, od16, .func (PySem.W.fnOf "_law_of" "_law_of" (defArgs sOf) (defBody sOf) (defScope sOf) .none kV16 dc16 pm16 an16 cd16 ct16), sl16⟩)
    (d16 : PySem.W.codeIn K cd16 "_law_of" = true)
    (k16 : PySem.W.keepIn K (.ref f16) = true)
    (a17 : PySem.W.nsIn K mainGlobals "_law_same" = some (some (.ref f17)))
    (l17 : K.lookup f17 = some ⟨oc17, od17, .func (PySem.W.fnOf "_law_same" "_law_same" (defArgs sSame) (defBody sSame) (defScope sSame) .none kV17 dc17 pm17 an17 cd17 ct17), sl17⟩)
    (d17 : PySem.W.codeIn K cd17 "_law_same" = true)
    (k17 : PySem.W.keepIn K (.ref f17) = true)
    (a18 : PySem.W.nsIn K mainGlobals "_law_lists" = some (some (.ref f18)))
    (l18 : K.lookup f18 = some ⟨oc18, od18, .func (PySem.W.fnOf "_law_lists" "_law_lists" (defArgs sLists) (defBody sLists) (defScope sLists) .none kV18 dc18 pm18 an18 cd18 ct18), sl18⟩)
    (d18 : PySem.W.codeIn K cd18 "_law_lists" = true)
    (k18 : PySem.W.keepIn K (.ref f18) = true)
    (a19 : PySem.W.nsIn K mainGlobals "_law_canal" = some (some (.ref f19)))
    (l19 : K.lookup f19 = some ⟨oc19, od19, .func (PySem.W.fnOf "_law_canal" "_law_canal" (defArgs sCanal) (defBody sCanal) (defScope sCanal) .none kV19 dc19 pm19 an19 cd19 ct19), sl19⟩)
    (d19 : PySem.W.codeIn K cd19 "_law_canal" = true)
    (k19 : PySem.W.keepIn K (.ref f19) = true)
    (a20 : PySem.W.nsIn K mainGlobals "_law_lying" = some (some (.ref f20)))
    (l20 : K.lookup f20 = some ⟨oc20, od20, .func (PySem.W.fnOf "_law_lying" "_law_lying" (defArgs sLying) (defBody sLying) (defScope sLying) .none kV20 dc20 pm20 an20 cd20 ct20), sl20⟩)
    (d20 : PySem.W.codeIn K cd20 "_law_lying" = true)
    (k20 : PySem.W.keepIn K (.ref f20) = true)
    (a21 : PySem.W.nsIn K mainGlobals "_law_from_to" = some (some (.ref f21)))
    (l21 : K.lookup f21 = some ⟨oc21, od21, .func (PySem.W.fnOf "_law_from_to" "_law_from_to" (defArgs sLF) (defBody sLF) (defScope sLF) .none kV21 dc21 pm21 an21 cd21 ct21), sl21⟩)
    (d21 : PySem.W.codeIn K cd21 "_law_from_to" = true)
    (k21 : PySem.W.keepIn K (.ref f21) = true)
    (a22 : PySem.W.nsIn K mainGlobals "_law_steps" = some (some (.ref f22)))
    (l22 : K.lookup f22 = some ⟨oc22, od22, .func (PySem.W.fnOf "_law_steps" "_law_steps" (defArgs sSt) (defBody sSt) (defScope sSt) .none kV22 dc22 pm22 an22 cd22 ct22), sl22⟩)
    (d22 : PySem.W.codeIn K cd22 "_law_steps" = true)
    (k22 : PySem.W.keepIn K (.ref f22) = true)
    (a23 : PySem.W.nsIn K mainGlobals "_law_behind" = some (some (.ref f23)))
    (l23 : K.lookup f23 = some ⟨oc23, od23, .func (PySem.W.fnOf "_law_behind" "_law_behind" (defArgs sBe) (defBody sBe) (defScope sBe) .none kV23 dc23 pm23 an23 cd23 ct23), sl23⟩)
    (d23 : PySem.W.codeIn K cd23 "_law_behind" = true)
    (k23 : PySem.W.keepIn K (.ref f23) = true)
    (a24 : PySem.W.nsIn K mainGlobals "_law_layers" = some (some (.ref f24)))
    (l24 : K.lookup f24 = some ⟨oc24, od24, .func (PySem.W.fnOf "_law_layers" "_law_layers" (defArgs sLy) (defBody sLy) (defScope sLy) .none kV24 dc24 pm24 an24 cd24 ct24), sl24⟩)
    (d24 : PySem.W.codeIn K cd24 "_law_layers" = true)
    (k24 : PySem.W.keepIn K (.ref f24) = true)
    (a25 : PySem.W.nsIn K mainGlobals "_law_told" = some (some (.ref f25)))
    (l25 : K.lookup f25 = some ⟨oc25, od25, .func (PySem.W.fnOf "_law_told" "_law_told" (defArgs sTd) (defBody sTd) (defScope sTd) .none kV25 dc25 pm25 an25 cd25 ct25), sl25⟩)
    (d25 : PySem.W.codeIn K cd25 "_law_told" = true)
    (k25 : PySem.W.keepIn K (.ref f25) = true)
    (a26 : PySem.W.nsIn K mainGlobals "_law_far_right" = some (some (.ref f26)))
    (l26 : K.lookup f26 = some ⟨oc26, od26, .func (PySem.W.fnOf "_law_far_right" "_law_far_right" (defArgs sFr) (defBody sFr) (defScope sFr) .none kV26 dc26 pm26 an26 (.ref cF) ct26), sl26⟩)
    (d26 : PySem.W.codeIn K (.ref cF) "_law_far_right" = true)
    (k26 : PySem.W.keepIn K (.ref f26) = true)
    (a27 : PySem.W.nsIn K mainGlobals "_law_right" = some (some (.ref f27)))
    (l27 : K.lookup f27 = some ⟨oc27, od27, .func (PySem.W.fnOf "_law_right" "_law_right" (defArgs sRight) (defBody sRight) (defScope sRight) .none kV27 dc27 pm27 an27 (.ref cR) ct27), sl27⟩)
    (d27 : PySem.W.codeIn K (.ref cR) "_law_right" = true)
    (k27 : PySem.W.keepIn K (.ref f27) = true)
    (a28 : PySem.W.nsIn K mainGlobals "law" = some (some (.ref f28)))
    (l28 : K.lookup f28 = some ⟨oc28, od28, .func (PySem.W.fnOf "law" "law" (defArgs sLaw) (defBody sLaw) (defScope sLaw) .none kV28 dc28 pm28 an28 cd28 ct28), sl28⟩)
    (d28 : PySem.W.codeIn K cd28 "law" = true)
    (k28 : PySem.W.keepIn K (.ref f28) = true)
    (z_isinstance : PySem.W.nsIn K mainGlobals "isinstance" = some none)
    (z_list : PySem.W.nsIn K mainGlobals "list" = some none)
    (z_tuple : PySem.W.nsIn K mainGlobals "tuple" = some none)
    (z_zip : PySem.W.nsIn K mainGlobals "zip" = some none)
    (z_len : PySem.W.nsIn K mainGlobals "len" = some none)
    (z_all : PySem.W.nsIn K mainGlobals "all" = some none)
    (z_bool : PySem.W.nsIn K mainGlobals "bool" = some none)
    (z_str : PySem.W.nsIn K mainGlobals "str" = some none)
    (z_int : PySem.W.nsIn K mainGlobals "int" = some none)
    (z_range : PySem.W.nsIn K mainGlobals "range" = some none)
    (z_enumerate : PySem.W.nsIn K mainGlobals "enumerate" = some none)
    (z_abs : PySem.W.nsIn K mainGlobals "abs" = some none)
    (z_min : PySem.W.nsIn K mainGlobals "min" = some none)
    (z_sorted : PySem.W.nsIn K mainGlobals "sorted" = some none)
    (z_repr : PySem.W.nsIn K mainGlobals "repr" = some none)
    (z_RuntimeError : PySem.W.nsIn K mainGlobals "RuntimeError" = some none)
    (z_OverflowError : PySem.W.nsIn K mainGlobals "OverflowError" = some none)
    (v_RED : PySem.W.nsIn K mainGlobals "RED" = some (some (.str "red" t_RED)))
    (v_BLUE : PySem.W.nsIn K mainGlobals "BLUE" = some (some (.str "blue" t_BLUE)))
    (v_MOST : PySem.W.nsIn K mainGlobals "MOST" = some (some (.int 400 t_MOST)))
    (caB : PySem.W.nsIn K mainGlobals "NoBoat" = some (some (.ref cB)))
    (clB : K.lookup cB = some (excClassObj nmB qB cB NB bbB [.type "RuntimeError", .type "Exception", .type "BaseException", .type "object"] true snB subB abB colB ddB maB mbB mcB mdB meB "RuntimeError.__new__"))
    (csB : PySem.W.findIn K (.ref cB) "__setattr__" = some (some (.builtin "object.__setattr__")))
    (cgB : PySem.W.findIn K (.ref cB) "__getattribute__" = some (some (.builtin "BaseException.__getattribute__")))
    (ctB_ : PySem.W.findIn K (.ref cB) "__getattr__" = some none)
    (ckB : PySem.W.keepIn K (.ref cB) = true)
    (ccB : PySem.W.findIn K (.ref cB) "__class__" = some (some (.builtin "object.__class__")))
    (ciB : PySem.W.findIn K (.ref cB) "__init__" = some (some (.ref eB)))
    (cfB : PySem.W.typeIn K (.ref eB) = some (.type "function"))
    (cyB : PySem.W.typeIn K (.ref cB) = some (.type "type"))
    (chB : PySem.W.hasDictIn K cB = true)
    (cnB : PySem.W.findIn K (.ref cB) "going" = some none)
    (elB : K.lookup eB = some ⟨xocB, xodB, .func (PySem.W.fnOf "__init__" "NoBoat.__init__" (defArgs sIB) (defBody sIB) (defScope sIB) .none xkVB xdcB xpmB xanB xcdB xctB), xslB⟩)
    (edB : PySem.W.codeIn K xcdB "NoBoat.__init__" = true)
    (ekB : PySem.W.keepIn K (.ref eB) = true)
    (caM : PySem.W.nsIn K mainGlobals "TooMany" = some (some (.ref cM)))
    (clM : K.lookup cM = some (excClassObj nmM qM cM NM bbM [.type "OverflowError", .type "ArithmeticError", .type "Exception", .type "BaseException", .type "object"] true snM subM abM colM ddM maM mbM mcM mdM meM "OverflowError.__new__"))
    (csM : PySem.W.findIn K (.ref cM) "__setattr__" = some (some (.builtin "object.__setattr__")))
    (cgM : PySem.W.findIn K (.ref cM) "__getattribute__" = some (some (.builtin "BaseException.__getattribute__")))
    (ctM_ : PySem.W.findIn K (.ref cM) "__getattr__" = some none)
    (ckM : PySem.W.keepIn K (.ref cM) = true)
    (ccM : PySem.W.findIn K (.ref cM) "__class__" = some (some (.builtin "object.__class__")))
    (ciM : PySem.W.findIn K (.ref cM) "__init__" = some (some (.ref eM)))
    (cfM : PySem.W.typeIn K (.ref eM) = some (.type "function"))
    (cyM : PySem.W.typeIn K (.ref cM) = some (.type "type"))
    (chM : PySem.W.hasDictIn K cM = true)
    (cnM : PySem.W.findIn K (.ref cM) "many" = some none)
    (elM : K.lookup eM = some ⟨xocM, xodM, .func (PySem.W.fnOf "__init__" "TooMany.__init__" (defArgs sIM) (defBody sIM) (defScope sIM) .none xkVM xdcM xpmM xanM xcdM xctM), xslM⟩)
    (edM : PySem.W.codeIn K xcdM "TooMany.__init__" = true)
    (ekM : PySem.W.keepIn K (.ref eM) = true)
    (caC : PySem.W.nsIn K mainGlobals "NoCounts" = some (some (.ref cC)))
    (clC : K.lookup cC = some (excClassObj nmC qC cC NC bbC bmmC true snC subC abC colC ddC maC mbC mcC mdC meC nwC))
    (cyC : PySem.W.typeIn K (.ref cC) = some (.type "type"))
    (cbC : PySem.W.subIn K (.ref cC) (.type "BaseException") = some true)
    (chC : PySem.W.hasDictIn K cC = true)
    (sg : PySem.W.specialIn K (.builtin "object.__class__") "__get__" = some (some (.builtin "getset_descriptor.__get__")))
    (st : PySem.W.takesIn K (.builtin "object.__class__") = some true)
    (xs1 : PySem.W.subIn K (.ref cM) (.ref cB) = some false)
    (xs2 : PySem.W.subIn K (.ref cM) (.ref cC) = some false)
    (xs3 : PySem.W.subIn K (.ref cM) (.ref cM) = some true)
    (lcF : K.lookup cF = some ⟨obF, ooF, .fields vsF, osF⟩)
    (vpF : (vsF[11]? : Option Value) = some (.ref pF))
    (rqF : (recsOf q).find? (fun e => e.name == PySem.Str.ofString "_law_far_right") = some drF)
    (npF : K.lookup pF = none)
    (lcR : K.lookup cR = some ⟨obR, ooR, .fields vsR, osR⟩)
    (vpR : (vsR[11]? : Option Value) = some (.ref pR))
    (rqR : (recsOf q).find? (fun e => e.name == PySem.Str.ofString "_law_right") = some drR)
    (npR : K.lookup pR = none)
    (xpnd : pF ≠ pR)
    (xBnd : cB ≠ cM)
    (xCnd : cC ≠ cM)
    (TP : Top q loose mean mg mb h) : LawT l.prog w K 14 63 "_law_script" mg fa h := by
  have G := TP.g
  have tF := tab_mk TP X rqF a26 l26 lcF vpF
  have tR := tab_mk TP X rqR a27 l27 lcR vpR
  have e := hfa.symm.trans (PySem.W.mg_of X G a28)
  cases e
  have F1 := fun_mk (st := sTupled) l1 d1 k1
  have b1 := F1.binds (ps := ["thing"]) fun _ _ _ _ _ _ us hl => match us, hl with | [_], _ => rfl
  have g1 := PySem.W.mg_of X G a1
  have F2 := fun_mk (st := sEnds) l2 d2 k2
  have b2 := F2.binds (ps := ["lock", "water"]) fun _ _ _ _ _ _ us hl => match us, hl with | [_, _], _ => rfl
  have g2 := PySem.W.mg_of X G a2
  have F3 := fun_mk (st := sFT) l3 d3 k3
  have b3 := F3.binds (ps := ["canal", "standing", "lock", "water"]) fun _ _ _ _ _ _ us hl => match us, hl with | [_, _, _, _], _ => rfl
  have g3 := PySem.W.mg_of X G a3
  have F4 := fun_mk (st := sHas) l4 d4 k4
  have b4 := F4.binds (ps := ["canal", "standing", "lock", "water"]) fun _ _ _ _ _ _ us hl => match us, hl with | [_, _, _, _], _ => rfl
  have g4 := PySem.W.mg_of X G a4
  have F5 := fun_mk (st := sMay) l5 d5 k5
  have b5 := F5.binds (ps := ["canal", "standing"]) fun _ _ _ _ _ _ us hl => match us, hl with | [_, _], _ => rfl
  have g5 := PySem.W.mg_of X G a5
  have F6 := fun_mk (st := sGone) l6 d6 k6
  have b6 := F6.binds (ps := ["canal", "standing", "going"]) fun _ _ _ _ _ _ us hl => match us, hl with | [_, _, _], _ => rfl
  have g6 := PySem.W.mg_of X G a6
  have F7 := fun_mk (st := sCT) l7 d7 k7
  have b7 := F7.binds (ps := ["canal", "standing", "most"]) fun _ _ _ _ _ _ us hl => match us, hl with | [_, _, _], _ => rfl
  have g7 := PySem.W.mg_of X G a7
  have F8 := fun_mk (st := sFw) l8 d8 k8
  have b8 := F8.binds (ps := ["canal", "standing"]) fun _ _ _ _ _ _ us hl => match us, hl with | [_, _], _ => rfl
  have g8 := PySem.W.mg_of X G a8
  have F9 := fun_mk (st := sLo) l9 d9 k9
  have b9 := F9.binds (ps := ["canal", "standing"]) fun _ _ _ _ _ _ us hl => match us, hl with | [_, _], _ => rfl
  have g9 := PySem.W.mg_of X G a9
  have F10 := fun_mk (st := sWy) l10 d10 k10
  have b10 := F10.binds (ps := ["canal", "one", "other"]) fun _ _ _ _ _ _ us hl => match us, hl with | [_, _, _], _ => rfl
  have g10 := PySem.W.mg_of X G a10
  have F11 := fun_mk (st := sFar) l11 d11 k11
  have b11 := F11.binds (ps := ["canal", "one", "other"]) fun _ _ _ _ _ _ us hl => match us, hl with | [_, _, _], _ => rfl
  have g11 := PySem.W.mg_of X G a11
  have F12 := fun_mk (st := sIk) l12 d12 k12
  have b12 := F12.binds (ps := ["canal", "standing"]) fun _ _ _ _ _ _ us hl => match us, hl with | [_, _], _ => rfl
  have g12 := PySem.W.mg_of X G a12
  have F13 := fun_mk (st := sBox) l13 d13 k13
  have b13 := F13.binds (ps := ["_law_cells_here", "_law_k"]) fun _ _ _ _ _ _ us hl => match us, hl with | [_, _], _ => rfl
  have g13 := PySem.W.mg_of X G a13
  have F14 := fun_mk (st := sTake) l14 d14 k14
  have b14 := F14.binds (ps := ["_law_box_here", "_law_size"]) fun _ _ _ _ _ _ us hl => match us, hl with | [_, _], _ => rfl
  have g14 := PySem.W.mg_of X G a14
  have F15 := fun_mk (st := sCells) l15 d15 k15
  have b15 := F15.binds (ps := ["_law_script", "_law_utmost"]) fun _ _ _ _ _ _ us hl => match us, hl with | [_, _], _ => rfl
  have g15 := PySem.W.mg_of X G a15
  have F16 := fun_mk (st := sOf) l16 d16 k16
  have b16 := F16.binds (ps := ["_law_box_here", "_law_some"]) fun _ _ _ _ _ _ us hl => match us, hl with | [_, _], _ => rfl
  have g16 := PySem.W.mg_of X G a16
  have F17 := fun_mk (st := sSame) l17 d17 k17
  have b17 := F17.binds (ps := ["_law_found", "_law_due"]) fun _ _ _ _ _ _ us hl => match us, hl with | [_, _], _ => rfl
  have g17 := PySem.W.mg_of X G a17
  have F18 := fun_mk (st := sLists) l18 d18 k18
  have b18 := F18.binds (ps := ["_law_what"]) fun _ _ _ _ _ _ us hl => match us, hl with | [_], _ => rfl
  have g18 := PySem.W.mg_of X G a18
  have F19 := fun_mk (st := sCanal) l19 d19 k19
  have b19 := F19.binds (ps := ["_law_box_here", "_law_wide", "_law_utmost"]) fun _ _ _ _ _ _ us hl => match us, hl with | [_, _, _], _ => rfl
  have g19 := PySem.W.mg_of X G a19
  have F20 := fun_mk (st := sLying) l20 d20 k20
  have b20 := F20.binds (ps := ["_law_box_here", "_law_ship_way", "_law_most"]) fun _ _ _ _ _ _ us hl => match us, hl with | [_, _, _], _ => rfl
  have g20 := PySem.W.mg_of X G a20
  have F21 := fun_mk (st := sLF) l21 d21 k21
  have b21 := F21.binds (ps := ["_law_ship_way", "_law_lying_here", "_law_move"]) fun _ _ _ _ _ _ us hl => match us, hl with | [_, _, _], _ => rfl
  have g21 := PySem.W.mg_of X G a21
  have F22 := fun_mk (st := sSt) l22 d22 k22
  have b22 := F22.binds (ps := ["_law_ship_way", "_law_lying_here"]) fun _ _ _ _ _ _ us hl => match us, hl with | [_, _], _ => rfl
  have g22 := PySem.W.mg_of X G a22
  have F23 := fun_mk (st := sBe) l23 d23 k23
  have b23 := F23.binds (ps := ["_law_ship_way", "_law_lying_here", "_law_move"]) fun _ _ _ _ _ _ us hl => match us, hl with | [_, _, _], _ => rfl
  have g23 := PySem.W.mg_of X G a23
  have F24 := fun_mk (st := sLy) l24 d24 k24
  have b24 := F24.binds (ps := ["_law_ship_way", "_law_lying_here"]) fun _ _ _ _ _ _ us hl => match us, hl with | [_, _], _ => rfl
  have g24 := PySem.W.mg_of X G a24
  have F25 := fun_mk (st := sTd) l25 d25 k25
  have b25 := F25.binds (ps := ["_law_ask"]) fun _ _ _ _ _ _ us hl => match us, hl with | [_], _ => rfl
  have g25 := PySem.W.mg_of X G a25
  have F26 := fun_mk (st := sFr) l26 d26 k26
  have b26 := F26.binds (ps := ["_law_box_here", "_law_ship_way", "_law_lying_here", "_law_found"]) fun _ _ _ _ _ _ us hl => match us, hl with | [_, _, _, _], _ => rfl
  have g26 := PySem.W.mg_of X G a26
  have F27 := fun_mk (st := sRight) l27 d27 k27
  have b27 := F27.binds (ps := ["_law_box_here"]) fun _ _ _ _ _ _ us hl => match us, hl with | [_], _ => rfl
  have g27 := PySem.W.mg_of X G a27
  have F28 := fun_mk (st := sLaw) l28 d28 k28
  have m_isinstance := PySem.W.mg_none_of X G z_isinstance
  have m_list := PySem.W.mg_none_of X G z_list
  have m_tuple := PySem.W.mg_none_of X G z_tuple
  have m_zip := PySem.W.mg_none_of X G z_zip
  have m_len := PySem.W.mg_none_of X G z_len
  have m_all := PySem.W.mg_none_of X G z_all
  have m_bool := PySem.W.mg_none_of X G z_bool
  have m_str := PySem.W.mg_none_of X G z_str
  have m_int := PySem.W.mg_none_of X G z_int
  have m_range := PySem.W.mg_none_of X G z_range
  have m_enumerate := PySem.W.mg_none_of X G z_enumerate
  have m_abs := PySem.W.mg_none_of X G z_abs
  have m_min := PySem.W.mg_none_of X G z_min
  have m_sorted := PySem.W.mg_none_of X G z_sorted
  have m_repr := PySem.W.mg_none_of X G z_repr
  have m_RuntimeError := PySem.W.mg_none_of X G z_RuntimeError
  have m_OverflowError := PySem.W.mg_none_of X G z_OverflowError
  have c_RED := PySem.W.mg_of X G v_RED
  have c_BLUE := PySem.W.mg_of X G v_BLUE
  have c_MOST := PySem.W.mg_of X G v_MOST
  refine ⟨PySem.W.fnOf "law" "law" (defArgs sLaw) (defBody sLaw) (defScope sLaw) .none kV28 dc28 pm28 an28 cd28 ct28, [(cF, pF), (cR, pR)], spLaw K [(pF, qFr), (pR, qRight)], fun p hp => ?_, fun p hp => ?_, fun s v => .of_eq rfl, fun H a ns hl ht hS => ⟨a, ns, rfl, hS, hl, fun p hp => ?_, fun _ => rfl⟩, fun base _ _ hTB => ?_⟩
  · rcases two_mem hp with rfl | rfl
    · exact tF
    · exact tR
  · rcases two_mem hp with rfl | rfl
    · exact npF
    · exact npR
  · rcases two_mem hp with rfl | rfl
    · exact TabS.nil (ht (cF, pF) (List.mem_cons_self ..))
    · exact TabS.nil (ht (cR, pR) (List.mem_cons_of_mem _ (List.mem_cons_self ..)))
  have TBF := hTB (cF, pF) (List.mem_cons_self ..)
  have TBR := hTB (cR, pR) (List.mem_cons_of_mem _ (List.mem_cons_self ..))
  have hmF : (pF, qFr) ∈ [(pF, qFr), (pR, qRight)] := List.mem_cons_self ..
  have hmR : (pR, qRight) ∈ [(pF, qFr), (pR, qRight)] := List.mem_cons_of_mem _ (List.mem_cons_self ..)
  have huF : ∀ p ∈ [(pF, qFr), (pR, qRight)], p.1 = pF → p.2 = qFr := fun p hp e => by
    rcases two_mem hp with rfl | rfl
    · rfl
    · exact absurd e.symm xpnd
  have huR : ∀ p ∈ [(pF, qFr), (pR, qRight)], p.1 = pR → p.2 = qRight := fun p hp e => by
    rcases two_mem hp with rfl | rfl
    · exact absurd e xpnd
    · rfl
  have xxB : ExK K cB 2 := exk_mk F.excBase_RuntimeError F.store_RuntimeError.passes (by decide +kernel) (by decide +kernel) clB csB cgB ctB_ ckB ccB chB sg st
  have yyB := fun_mk (st := sIB) elB edB ekB
  have ybB := yyB.binds (ps := ["self", "going"]) fun _ _ _ _ _ _ us hl => match us, hl with | [_, _], _ => rfl
  have TB : Er l.prog w K mg base "NoBoat" 2 cB eB _ ["self", "going"] (spI cB "going") := ⟨xxB, cyB, ciB, cfB, PySem.W.mg_of X G caB, ok_IB yyB xxB cnB m_RuntimeError, ybB⟩
  have xxM : ExK K cM 3 := exk_mk F.excBase_OverflowError F.store_OverflowError.passes (by decide +kernel) (by decide +kernel) clM csM cgM ctM_ ckM ccM chM sg st
  have yyM := fun_mk (st := sIM) elM edM ekM
  have ybM := yyM.binds (ps := ["self", "many"]) fun _ _ _ _ _ _ us hl => match us, hl with | [_, _], _ => rfl
  have TM : Er l.prog w K mg base "TooMany" 3 cM eM _ ["self", "many"] (spI cM "many") := ⟨xxM, cyM, ciM, cfM, PySem.W.mg_of X G caM, ok_IM yyM xxM cnM m_OverflowError, ybM⟩
  have KB : Cl K cB := ⟨⟨_, _, _, _, _, _, _, _, _, _, _, _, _, _, _, _, clB⟩, cyB, xxB.exC, chB⟩
  have KM : Cl K cM := ⟨⟨_, _, _, _, _, _, _, _, _, _, _, _, _, _, _, _, clM⟩, cyM, xxM.exC, chM⟩
  have KC : Cl K cC := ⟨⟨_, _, _, _, _, _, _, _, _, _, _, _, _, _, _, _, clC⟩, cyC, cbC, chC⟩
  have TT : Tell K mg cM cB cC := ⟨PySem.W.mg_of X G caB, PySem.W.mg_of X G caC, PySem.W.mg_of X G caM, xxM, exm_cons (exm_of_sub KB xs1) (exm_cons (exm_of_sub KC xs2) (exm_cons (exm_of_sub KM xs3) rfl)), kit_self, kit_cons (kit_ne xxM KB xBnd) (kit_cons (kit_ne xxM KC xCnd) kit_nil), kit_py xxM (by decide +kernel) (by decide +kernel), cnM⟩
  have TO : ToldK K mg cM cB cC f25 _ := ⟨F25, b25, g25, TT, m_isinstance, m_OverflowError⟩
  have FCF : FunC K "_law_far_right" "_law_far_right" sFr f26 _ cF := ⟨⟨_, _, _, _, _, _, _, _, rfl, l26, d26⟩⟩
  have FCR : FunC K "_law_right" "_law_right" sRight f27 _ cR := ⟨⟨_, _, _, _, _, _, _, _, rfl, l27, d27⟩⟩
  have v0_law_canal_spCanal_12 : Fns l.prog w K mg base 12 "_law_canal" ["_law_box_here", "_law_wide", "_law_utmost"] (spCanal K) f19 _ := ⟨ok_canal (k := 9) F19 F14 b14 g14 F16 b16 g16 m_len m_list m_tuple m_range, g19, k19, b19⟩
  have v1_law_lying_spLying_12 : Fns l.prog w K mg base 12 "_law_lying" ["_law_box_here", "_law_ship_way", "_law_most"] (spLying K) f20 _ := ⟨ok_lying (k := 9) F20 F14 b14 g14 F16 b16 g16 m_len m_tuple m_range, g20, k20, b20⟩
  have v4_law_from_to_spLF_10 : Fns l.prog w K mg base 10 "_law_from_to" ["_law_ship_way", "_law_lying_here", "_law_move"] (spLF K) f21 _ := ⟨ok_lf (k := 9) F21, g21, k21, b21⟩
  have v3_law_steps_spSt_11 : Fns l.prog w K mg base 11 "_law_steps" ["_law_ship_way", "_law_lying_here"] (spSt K) f22 _ := ⟨ok_st (k := 10) F22 v4_law_from_to_spLF_10 m_range m_len m_enumerate, g22, k22, b22⟩
  have v5_law_behind_spBe_11 : Fns l.prog w K mg base 11 "_law_behind" ["_law_ship_way", "_law_lying_here", "_law_move"] (spBe K) f23 _ := ⟨ok_be (k := 10) F23 v4_law_from_to_spLF_10 m_list m_int m_tuple, g23, k23, b23⟩
  have v2_law_layers_spLy_12 : Fns l.prog w K mg base 12 "_law_layers" ["_law_ship_way", "_law_lying_here"] (spLy l.prog w K) f24 _ := ⟨ok_ly (k := 11) F24 v3_law_steps_spSt_11 v5_law_behind_spBe_11 m_len m_range, g24, k24, b24⟩
  have v7_law_from_to_spLF_11 : Fns l.prog w K mg base 11 "_law_from_to" ["_law_ship_way", "_law_lying_here", "_law_move"] (spLF K) f21 _ := ⟨ok_lf (k := 10) F21, g21, k21, b21⟩
  have v6_law_steps_spSt_12 : Fns l.prog w K mg base 12 "_law_steps" ["_law_ship_way", "_law_lying_here"] (spSt K) f22 _ := ⟨ok_st (k := 11) F22 v7_law_from_to_spLF_11 m_range m_len m_enumerate, g22, k22, b22⟩
  have v8_law_same_spSame_12 : Fns l.prog w K mg base 12 "_law_same" ["_law_found", "_law_due"] (spSame K 12) f17 _ := ⟨ok_same F17 b17 g17 m_isinstance m_list m_tuple m_zip m_len m_all m_bool m_str m_int 12, g17, k17, b17⟩
  have v9_law_lists_spLists_12 : Fns l.prog w K mg base 12 "_law_lists" ["_law_what"] (spLists K 12) f18 _ := ⟨ok_lists F18 b18 g18 m_isinstance m_list m_tuple 12, g18, k18, b18⟩
  have v14_ends_of_spEnds_8 : Fns l.prog w K mg base 8 "ends_of" ["lock", "water"] (spEnds K) f2 _ := ⟨ok_ends (k := 7) F2 c_RED, g2, k2, b2⟩
  have v13_from_and_to_spFT_9 : Fns l.prog w K mg base 9 "from_and_to" ["canal", "standing", "lock", "water"] (spFT K) f3 _ := ⟨ok_ft (k := 8) F3 v14_ends_of_spEnds_8, g3, k3, b3⟩
  have v12_has_boat_spHas_10 : Fns l.prog w K mg base 10 "has_boat" ["canal", "standing", "lock", "water"] (spHas K) f4 _ := ⟨ok_has (k := 9) F4 v13_from_and_to_spFT_9 c_RED, g4, k4, b4⟩
  have v11_may_go_spMay_11 : Fns l.prog w K mg base 11 "may_go" ["canal", "standing"] (spMay K) f5 _ := ⟨ok_may (k := 10) F5 v12_has_boat_spHas_10 c_RED c_BLUE m_range m_len, g5, k5, b5⟩
  have v10_is_stuck_spIk_12 : Fns l.prog w K mg base 12 "is_stuck" ["canal", "standing"] (spIk K) f12 _ := ⟨ok_ik (k := 11) F12 v11_may_go_spMay_11, g12, k12, b12⟩
  have v21_ends_of_spEnds_4 : Fns l.prog w K mg base 4 "ends_of" ["lock", "water"] (spEnds K) f2 _ := ⟨ok_ends (k := 3) F2 c_RED, g2, k2, b2⟩
  have v20_from_and_to_spFT_5 : Fns l.prog w K mg base 5 "from_and_to" ["canal", "standing", "lock", "water"] (spFT K) f3 _ := ⟨ok_ft (k := 4) F3 v21_ends_of_spEnds_4, g3, k3, b3⟩
  have v19_has_boat_spHas_6 : Fns l.prog w K mg base 6 "has_boat" ["canal", "standing", "lock", "water"] (spHas K) f4 _ := ⟨ok_has (k := 5) F4 v20_from_and_to_spFT_5 c_RED, g4, k4, b4⟩
  have v18_may_go_spMay_7 : Fns l.prog w K mg base 7 "may_go" ["canal", "standing"] (spMay K) f5 _ := ⟨ok_may (k := 6) F5 v19_has_boat_spHas_6 c_RED c_BLUE m_range m_len, g5, k5, b5⟩
  have v25_ends_of_spEnds_3 : Fns l.prog w K mg base 3 "ends_of" ["lock", "water"] (spEnds K) f2 _ := ⟨ok_ends (k := 2) F2 c_RED, g2, k2, b2⟩
  have v24_from_and_to_spFT_4 : Fns l.prog w K mg base 4 "from_and_to" ["canal", "standing", "lock", "water"] (spFT K) f3 _ := ⟨ok_ft (k := 3) F3 v25_ends_of_spEnds_3, g3, k3, b3⟩
  have v23_has_boat_spHas_5 : Fns l.prog w K mg base 5 "has_boat" ["canal", "standing", "lock", "water"] (spHas K) f4 _ := ⟨ok_has (k := 4) F4 v24_from_and_to_spFT_4 c_RED, g4, k4, b4⟩
  have v22_gone_spGone_7 : FnX l.prog w K mg base 7 "gone" ["canal", "standing", "going"] (spGone K cB) f6 _ := ⟨ok_gone (k := 4) F6 v23_has_boat_spHas_5 v20_from_and_to_spFT_5 TB c_RED m_list m_tuple, g6, k6, b6⟩
  have v26_tupled_spTupled_4 : Fns l.prog w K mg base 4 "tupled" ["thing"] (spTupled K 4) f1 _ := ⟨ok_tupled F1 b1 g1 m_isinstance m_list m_tuple 4, g1, k1, b1⟩
  have v17_come_to_spCT_8 : Fns l.prog w K mg base 8 "come_to" ["canal", "standing", "most"] (spCT l.prog w K) f7 _ := ⟨ok_ct (k := 3) F7 v18_may_go_spMay_7 v22_gone_spGone_7 v26_tupled_spTupled_4 m_sorted m_len, g7, k7, b7⟩
  have v16_come_to_few_spFw_9 : FnX l.prog w K mg base 9 "come_to_few" ["canal", "standing"] (spFw l.prog w K cM) f8 _ := ⟨ok_fw (k := 4) F8 v17_come_to_spCT_8 TM c_MOST, g8, k8, b8⟩
  have v15_lot_of_spLo_10 : FnX l.prog w K mg base 10 "lot_of" ["canal", "standing"] (spLo K cM) f9 _ := ⟨ok_lo (k := 9) F9 v16_come_to_few_spFw_9 m_sorted m_list, g9, k9, b9⟩
  have v27_law_lying_spLying_11 : Fns l.prog w K mg base 11 "_law_lying" ["_law_box_here", "_law_ship_way", "_law_most"] (spLying K) f20 _ := ⟨ok_lying (k := 8) F20 F14 b14 g14 F16 b16 g16 m_len m_tuple m_range, g20, k20, b20⟩
  have v28_law_of_spOf_11 : Fns l.prog w K mg base 11 "_law_of" ["_law_box_here", "_law_some"] (spOf K) f16 _ := ⟨ok_of (k := 9) F16 F14 b14 g14 m_len, g16, k16, b16⟩
  have v29_law_same_spSame_11 : Fns l.prog w K mg base 11 "_law_same" ["_law_found", "_law_due"] (spSame K 11) f17 _ := ⟨ok_same F17 b17 g17 m_isinstance m_list m_tuple m_zip m_len m_all m_bool m_str m_int 11, g17, k17, b17⟩
  have v30_law_lists_spLists_9 : Fns l.prog w K mg base 9 "_law_lists" ["_law_what"] (spLists K 9) f18 _ := ⟨ok_lists F18 b18 g18 m_isinstance m_list m_tuple 9, g18, k18, b18⟩
  have v38_ends_of_spEnds_2 : Fns l.prog w K mg base 2 "ends_of" ["lock", "water"] (spEnds K) f2 _ := ⟨ok_ends (k := 1) F2 c_RED, g2, k2, b2⟩
  have v37_from_and_to_spFT_3 : Fns l.prog w K mg base 3 "from_and_to" ["canal", "standing", "lock", "water"] (spFT K) f3 _ := ⟨ok_ft (k := 2) F3 v38_ends_of_spEnds_2, g3, k3, b3⟩
  have v36_has_boat_spHas_4 : Fns l.prog w K mg base 4 "has_boat" ["canal", "standing", "lock", "water"] (spHas K) f4 _ := ⟨ok_has (k := 3) F4 v37_from_and_to_spFT_3 c_RED, g4, k4, b4⟩
  have v35_may_go_spMay_5 : Fns l.prog w K mg base 5 "may_go" ["canal", "standing"] (spMay K) f5 _ := ⟨ok_may (k := 4) F5 v36_has_boat_spHas_4 c_RED c_BLUE m_range m_len, g5, k5, b5⟩
  have v42_ends_of_spEnds_1 : Fns l.prog w K mg base 1 "ends_of" ["lock", "water"] (spEnds K) f2 _ := ⟨ok_ends (k := 0) F2 c_RED, g2, k2, b2⟩
  have v41_from_and_to_spFT_2 : Fns l.prog w K mg base 2 "from_and_to" ["canal", "standing", "lock", "water"] (spFT K) f3 _ := ⟨ok_ft (k := 1) F3 v42_ends_of_spEnds_1, g3, k3, b3⟩
  have v40_has_boat_spHas_3 : Fns l.prog w K mg base 3 "has_boat" ["canal", "standing", "lock", "water"] (spHas K) f4 _ := ⟨ok_has (k := 2) F4 v41_from_and_to_spFT_2 c_RED, g4, k4, b4⟩
  have v39_gone_spGone_5 : FnX l.prog w K mg base 5 "gone" ["canal", "standing", "going"] (spGone K cB) f6 _ := ⟨ok_gone (k := 2) F6 v40_has_boat_spHas_3 v37_from_and_to_spFT_3 TB c_RED m_list m_tuple, g6, k6, b6⟩
  have v34_come_to_spCT_6 : Fns l.prog w K mg base 6 "come_to" ["canal", "standing", "most"] (spCT l.prog w K) f7 _ := ⟨ok_ct (k := 1) F7 v35_may_go_spMay_5 v39_gone_spGone_5 v26_tupled_spTupled_4 m_sorted m_len, g7, k7, b7⟩
  have v33_come_to_few_spFw_7 : FnX l.prog w K mg base 7 "come_to_few" ["canal", "standing"] (spFw l.prog w K cM) f8 _ := ⟨ok_fw (k := 2) F8 v34_come_to_spCT_6 TM c_MOST, g8, k8, b8⟩
  have v32_way_spWy_8 : FnX l.prog w K mg base 8 "way" ["canal", "one", "other"] (spWy K cM) f10 _ := ⟨ok_wy (k := 3) F10 v33_come_to_few_spFw_7 v26_tupled_spTupled_4, g10, k10, b10⟩
  have v31_far_spFar_9 : FnX l.prog w K mg base 9 "far" ["canal", "one", "other"] (spFar K cM) f11 _ := ⟨ok_far (k := 7) F11 v32_way_spWy_8 m_len, g11, k11, b11⟩
  have Ce : Fns l.prog w K mg base 13 "_law_cells" ["_law_script", "_law_utmost"] (spCells K) f15 _ := ⟨ok_cells (k := 12) F15 m_list m_enumerate, g15, k15, b15⟩
  have Bx : Fns l.prog w K mg base 13 "_law_box" ["_law_cells_here", "_law_k"] (spBox K) f13 _ := ⟨ok_box (k := 12) F13 m_abs m_int, g13, k13, b13⟩
  have R := ok_right FCR v0_law_canal_spCanal_12 v1_law_lying_spLying_12 v2_law_layers_spLy_12 v6_law_steps_spSt_12 v8_law_same_spSame_12 v9_law_lists_spLists_12 v10_is_stuck_spIk_12 (kb2 F12 fun _ _ _ _ _ _ _ _ => rfl) v15_lot_of_spLo_10 (kb2 F9 fun _ _ _ _ _ _ _ _ => rfl) (ok_fr FCF v27_law_lying_spLying_11 v28_law_of_spOf_11 v29_law_same_spSame_11 v30_law_lists_spLists_9 v31_far_spFar_9 (kb3r F11 fun _ _ _ _ _ _ _ _ _ => rfl) TO TBF hmF huF m_range m_sorted) g26 k26 b26 TO TBR hmR huR m_range m_sorted m_repr m_isinstance m_list
  exact ok_law F28 Ce Bx R g27 k27 b27 m_len m_all m_range
end XL
open PySem PySem.W PyProof.Rows
set_option maxRecDepth 100000 in
set_option maxHeartbeats 0 in
theorem PySem.Challenge.cw_crosslocks_k31_small_lots_gone_through_holds : PySem.Challenge.rw_crosslocks_k31_small_lots_gone_through.Holds := by
  w_on; o_law; k_head; (case hw => w_witness2)
  k_fill
  refine XL.walkTG (l := PySem.Challenge.rw_crosslocks_k31_small_lots_gone_through) (n := 63) (k := 14) (x := "_law_script") rfl (by decide) rfl ⟨rfl, by decide, by decide⟩ (fun w h Y => PySem.W.km_in_of Y) ?F
  case F =>
    intro w mean mg mb fa h KX G hmg
    refine' XL.all_mk KX hmg ?a1 ?l1 ?d1 ?k1 ?a2 ?l2 ?d2 ?k2 ?a3 ?l3 ?d3 ?k3 ?a4 ?l4 ?d4 ?k4 ?a5 ?l5 ?d5 ?k5 ?a6 ?l6 ?d6 ?k6 ?a7 ?l7 ?d7 ?k7 ?a8 ?l8 ?d8 ?k8 ?a9 ?l9 ?d9 ?k9 ?a10 ?l10 ?d10 ?k10 ?a11 ?l11 ?d11 ?k11 ?a12 ?l12 ?d12 ?k12 ?a13 ?l13 ?d13 ?k13 ?a14 ?l14 ?d14 ?k14 ?a15 ?l15 ?d15 ?k15 ?a16 ?l16 ?d16 ?k16 ?a17 ?l17 ?d17 ?k17 ?a18 ?l18 ?d18 ?k18 ?a19 ?l19 ?d19 ?k19 ?a20 ?l20 ?d20 ?k20 ?a21 ?l21 ?d21 ?k21 ?a22 ?l22 ?d22 ?k22 ?a23 ?l23 ?d23 ?k23 ?a24 ?l24 ?d24 ?k24 ?a25 ?l25 ?d25 ?k25 ?a26 ?l26 ?d26 ?k26 ?a27 ?l27 ?d27 ?k27 ?a28 ?l28 ?d28 ?k28 ?z_isinstance ?z_list ?z_tuple ?z_zip ?z_len ?z_all ?z_bool ?z_str ?z_int ?z_range ?z_enumerate ?z_abs ?z_min ?z_sorted ?z_repr ?z_RuntimeError ?z_OverflowError ?v_RED ?v_BLUE ?v_MOST ?caB ?clB ?csB ?cgB ?ctB_ ?ckB ?ccB ?ciB ?cfB ?cyB ?chB ?cnB ?elB ?edB ?ekB ?caM ?clM ?csM ?cgM ?ctM_ ?ckM ?ccM ?ciM ?cfM ?cyM ?chM ?cnM ?elM ?edM ?ekM ?caC ?clC ?cyC ?cbC ?chC ?sg ?st ?xs1 ?xs2 ?xs3 ?lcF ?vpF ?rqF ?npF ?lcR ?vpR ?rqR ?npR ?xpnd ?xBnd ?xCnd G
    (case a1 => k_is)
    (case l1 => k_is)
    (case d1 => k_is)
    (case k1 => k_is)
    (case a2 => k_is)
    (case l2 => k_is)
    (case d2 => k_is)
    (case k2 => k_is)
    (case a3 => k_is)
    (case l3 => k_is)
    (case d3 => k_is)
    (case k3 => k_is)
    (case a4 => k_is)
    (case l4 => k_is)
    (case d4 => k_is)
    (case k4 => k_is)
    (case a5 => k_is)
    (case l5 => k_is)
    (case d5 => k_is)
    (case k5 => k_is)
    (case a6 => k_is)
    (case l6 => k_is)
    (case d6 => k_is)
    (case k6 => k_is)
    (case a7 => k_is)
    (case l7 => k_is)
    (case d7 => k_is)
    (case k7 => k_is)
    (case a8 => k_is)
    (case l8 => k_is)
    (case d8 => k_is)
    (case k8 => k_is)
    (case a9 => k_is)
    (case l9 => k_is)
    (case d9 => k_is)
    (case k9 => k_is)
    (case a10 => k_is)
    (case l10 => k_is)
    (case d10 => k_is)
    (case k10 => k_is)
    (case a11 => k_is)
    (case l11 => k_is)
    (case d11 => k_is)
    (case k11 => k_is)
    (case a12 => k_is)
    (case l12 => k_is)
    (case d12 => k_is)
    (case k12 => k_is)
    (case a13 => k_is)
    (case l13 => k_is)
    (case d13 => k_is)
    (case k13 => k_is)
    (case a14 => k_is)
    (case l14 => k_is)
    (case d14 => k_is)
    (case k14 => k_is)
    (case a15 => k_is)
    (case l15 => k_is)
    (case d15 => k_is)
    (case k15 => k_is)
    (case a16 => k_is)
    (case l16 => k_is)
    (case d16 => k_is)
    (case k16 => k_is)
    (case a17 => k_is)
    (case l17 => k_is)
    (case d17 => k_is)
    (case k17 => k_is)
    (case a18 => k_is)
    (case l18 => k_is)
    (case d18 => k_is)
    (case k18 => k_is)
    (case a19 => k_is)
    (case l19 => k_is)
    (case d19 => k_is)
    (case k19 => k_is)
    (case a20 => k_is)
    (case l20 => k_is)
    (case d20 => k_is)
    (case k20 => k_is)
    (case a21 => k_is)
    (case l21 => k_is)
    (case d21 => k_is)
    (case k21 => k_is)
    (case a22 => k_is)
    (case l22 => k_is)
    (case d22 => k_is)
    (case k22 => k_is)
    (case a23 => k_is)
    (case l23 => k_is)
    (case d23 => k_is)
    (case k23 => k_is)
    (case a24 => k_is)
    (case l24 => k_is)
    (case d24 => k_is)
    (case k24 => k_is)
    (case a25 => k_is)
    (case l25 => k_is)
    (case d25 => k_is)
    (case k25 => k_is)
    (case a26 => k_is)
    (case l26 => k_is)
    (case d26 => k_is)
    (case k26 => k_is)
    (case a27 => k_is)
    (case l27 => k_is)
    (case d27 => k_is)
    (case k27 => k_is)
    (case a28 => k_is)
    (case l28 => k_is)
    (case d28 => k_is)
    (case k28 => k_is)
    (case z_isinstance => k_is)
    (case z_list => k_is)
    (case z_tuple => k_is)
    (case z_zip => k_is)
    (case z_len => k_is)
    (case z_all => k_is)
    (case z_bool => k_is)
    (case z_str => k_is)
    (case z_int => k_is)
    (case z_range => k_is)
    (case z_enumerate => k_is)
    (case z_abs => k_is)
    (case z_min => k_is)
    (case z_sorted => k_is)
    (case z_repr => k_is)
    (case z_RuntimeError => k_is)
    (case z_OverflowError => k_is)
    (case v_RED => k_is)
    (case v_BLUE => k_is)
    (case v_MOST => k_is)
    (case caB => k_is)
    (case clB => k_is)
    (case csB => k_is)
    (case cgB => k_is)
    (case ctB_ => k_is)
    (case ckB => k_is)
    (case ccB => k_is)
    (case ciB => k_is)
    (case cfB => k_is)
    (case cyB => k_is)
    (case chB => k_is)
    (case cnB => k_is)
    (case elB => k_is)
    (case edB => k_is)
    (case ekB => k_is)
    (case caM => k_is)
    (case clM => k_is)
    (case csM => k_is)
    (case cgM => k_is)
    (case ctM_ => k_is)
    (case ckM => k_is)
    (case ccM => k_is)
    (case ciM => k_is)
    (case cfM => k_is)
    (case cyM => k_is)
    (case chM => k_is)
    (case cnM => k_is)
    (case elM => k_is)
    (case edM => k_is)
    (case ekM => k_is)
    (case caC => k_is)
    (case clC => k_is)
    (case cyC => k_is)
    (case cbC => k_is)
    (case chC => k_is)
    (case sg => k_is)
    (case st => k_is)
    (case xs1 => k_is)
    (case xs2 => k_is)
    (case xs3 => k_is)
    (case lcF => k_is)
    (case vpF => rfl)
    (case rqF => rfl)
    (case npF => kernel_rfl)
    (case lcR => k_is)
    (case vpR => rfl)
    (case rqR => rfl)
    (case npR => kernel_rfl)
    (case xpnd => decide)
    (case xBnd => decide)
    (case xCnd => decide)

import PyProof.Rows.All
import Wide.All
import OpenK.AllK
import Wide.FinOn
import KE.GoesMore
import KE.KDictZip
import PyProof.ListNew
import PyProof.SeqWrite
import KE.GoesEnum
import HandS.ForMost
import HandS.Zip
import PyProof.ReprRoads
import HandS.Wide
import HandS.IsInst
import HandS.TupAny
import HandS.NoneIn
import HandS.Flow
import HandS.Conv
import HandS.Walk
import HandS.ExcValue
import KE.KeyNested
import KE.KDictKeyed
import KE.KDictDisplayH
import HandS.Dict
import HandS.TupLen
import HandS.Deep
import HandS.Iter
import HandS.TupMul
import KE.KTupSum
import HandS.Style
import HandS.ExcInit
import HandS.ExcField
import KE.KExcIs
import KE.KExcInit
import KE.KExcSuper
import HandS.ExcIs
import KE.KTryMore
import HandS.WordsExc
import HandS.ExcOwn
import HandS.DictComp
import KE.DataMinMax
import HandS.SortKw
import KE.KMinKey
import HandS.SetFor
import KE.KSortTupAny
import PySem.Challenge.RW_crosslocks_k86_whole_one_water_gone_thro
set_option Elab.async false
set_option linter.all false
set_option maxRecDepth 100000
namespace XL
open PySem PyProof.Rows
section
variable {prog : Program} {w : World} {A : Around} {E : Value → Shared → Prop} {s : Shared} {z TI TO T i1 i2 : Addr}
variable {fp1 fp2 : List Addr} {n1 n2 i : Nat} {P1 P2 : Nat → Value → Prop} {St1 St2 : Nat → Heap → Prop} {a1 a2 : Value} {f : Bool} {oT : Obj}

/-- one more pair while the one given out before is held -/
theorem held_item {Q : Value → Shared → Prop} (S : ZipSep2 z TI TO i1 i2 fp1 fp2)
    (D1 : Draws prog w A i1 fp1 n1 P1 St1) (D2 : Draws prog w A i2 fp2 n2 P2 St2)
    (hz : IsZipHeld s.heap z TI TO T f) (hT : s.heap.get? T = some oT) (hTI : IsTupOf2 s.heap TI (.ref i1) (.ref i2))
    (st1 : St1 i s.heap) (st2 : St2 i s.heap) (l1 : i < n1) (l2 : i < n2)
    (hQ : ∀ x1 x2 h' tk, P1 i x1 → P2 i x2 → IsZipHeld h' z TI TO T true → St1 (i + 1) h' → St2 (i + 1) h' →
      IsTupOf2 h' s.heap.objs.size x1 x2 → h'.objs.size = s.heap.objs.size + 1 →
      (∀ c o, c ≠ z → c ≠ i1 → c ≠ i2 → s.heap.get? c = some o → h'.get? c = some o) →
      Q (.ref s.heap.objs.size) { s with heap := h', toks := tk }) :
    wpAny (model prog w) A (Builtin.«zip.__next__» ⟨[.ref z], []⟩) (fun fin s' => ∃ v, fin = .done (.ret v) ∧ Q v s') E s := by
  obtain ⟨hp, g, d, tk0, os⟩ := s
  show wpAny _ _ (field (.ref z) 2 >>= _) _ _ _
  refine wpAny_bind (wpAny_field hz rfl (x := .bool false) rfl ?_); show wpAny _ _ (field (.ref z) 3 >>= _) _ _ _
  refine wpAny_bind (wpAny_field hz rfl (x := .ref TI) rfl ?_); refine wpAny_bind (wpAny_seqItems hTI rfl ?_)
  show wpAny _ _ (Builtin.SmallTypes.ownedTupleIsFree (.ref z) >>= _) _ _ _
  refine wpAny_bind (wpAny_tupleHeld_zip hz hT fun g0 hz0 hs0 => ?_); simp only [Bool.false_eq_true, if_false]; refine wpAny_bind ?_
  replace hs0 : Heap.SameBut z hp g0 := hs0
  rw [← Array.forIn_toList]; simp only [List.forIn_cons, List.forIn_nil]
  refine wpAny_bind (wpAny_bind (wpAny_holding ?_)); show wpAny _ _ (Builtin.SmallTypes.nextOf (.ref i1) >>= _) _ _ ⟨g0, g, d, tk0, os⟩
  refine wpAny_bind (D1.item i _ _ _ l1 (D1.over st1 hs0 S.zf1) fun x1 p1 tk1 hx1 sn1 hp1 => wpAny_pure ?_)
  replace hp1 : Heap.SameBut i1 g0 p1 := hp1
  refine wpAny_pure ?_
  refine wpAny_bind (wpAny_bind (wpAny_holding ?_)); show wpAny _ _ (Builtin.SmallTypes.nextOf (.ref i2) >>= _) _ _ ⟨p1, g, d, tk1, os⟩
  refine wpAny_bind (D2.item i _ _ _ l2 (D2.over (D2.over st2 hs0 S.zf2) hp1 S.sep1_2) fun x2 p2 tk2 hx2 sn2 hp2 => wpAny_pure ?_)
  replace hp2 : Heap.SameBut i2 p1 p2 := hp2
  refine wpAny_pure (wpAny_pure ?_); show wpAny _ _ (newTuple [x1, x2] >>= _) _ _ _
  refine wpAny_bind (wpAny_newTuple ?_)
  have hsz : p2.objs.size = hp.objs.size := by rw [hp2.1, hp1.1, hs0.1]
  have hz2 : IsZipHeld p2 z TI TO T true := hp2.extBut _ _ S.zi2 (hp1.extBut _ _ S.zi1 hz0)
  have hk : ∀ c o, c ≠ z → c ≠ i1 → c ≠ i2 → hp.get? c = some o → p2.get? c = some o := fun c o c0 c1 c2 e =>
    hp2.extBut _ _ c2 (hp1.extBut _ _ c1 (hs0.extBut _ _ c0 e))
  have j1 : St1 (i + 1) p2 := D1.over sn1 hp2 S.sep2_1
  refine wpAny_pure ⟨_, rfl, ?_⟩; show Q (.ref p2.objs.size) _
  have hpr : IsTupOf2 (p2.push { cls := .type "tuple", data := .seq #[x1, x2] }) p2.objs.size x1 x2 := Heap.get?_push_size _ rfl
  have hz4 : (p2.push { cls := .type "tuple", data := .seq #[x1, x2] }).objs.size = p2.objs.size + 1 := Heap.size_push ..
  rw [hsz] at hpr hz4 ⊢
  exact hQ x1 x2 _ tk2 hx1 hx2 (Heap.get?_push_of_some _ hz2) (D1.frame _ _ _ j1 fun b _ o e => Heap.get?_push_of_some _ e)
    (D2.frame _ _ _ sn2 fun b _ o e => Heap.get?_push_of_some _ e) hpr hz4 fun c o c0 c1 c2 e => Heap.get?_push_of_some _ (hk c o c0 c1 c2 e)

/-- the end while the last pair is held -/
theorem held_end {Q : Fin → Shared → Prop} (S : ZipSep2 z TI TO i1 i2 fp1 fp2)
    (D1 : Draws prog w A i1 fp1 n1 P1 St1) (D2 : Draws prog w A i2 fp2 n2 P2 St2)
    (hz : IsZipHeld s.heap z TI TO T f) (hT : s.heap.get? T = some oT) (hTI : IsTupOf2 s.heap TI (.ref i1) (.ref i2))
    (st1 : St1 i s.heap) (st2 : St2 i s.heap) (e1 : i ≤ n1) (e2 : i ≤ n2) (hend : i = n1 ∨ i = n2)
    (hE : ∀ h' tk e, (∀ c o, c ≠ z → c ≠ i1 → c ≠ i2 → s.heap.get? c = some o → h'.get? c = some o) →
      (∃ o, h'.get? e = some o ∧ o.cls = .type "StopIteration") → E (.ref e) { s with heap := h', toks := tk }) :
    wpAny (model prog w) A (Builtin.«zip.__next__» ⟨[.ref z], []⟩) Q E s := by
  obtain ⟨hp, g, d, tk0, os⟩ := s
  show wpAny _ _ (field (.ref z) 2 >>= _) _ _ _
  refine wpAny_bind (wpAny_field hz rfl (x := .bool false) rfl ?_); show wpAny _ _ (field (.ref z) 3 >>= _) _ _ _
  refine wpAny_bind (wpAny_field hz rfl (x := .ref TI) rfl ?_); refine wpAny_bind (wpAny_seqItems hTI rfl ?_)
  show wpAny _ _ (Builtin.SmallTypes.ownedTupleIsFree (.ref z) >>= _) _ _ _
  refine wpAny_bind (wpAny_tupleHeld_zip hz hT fun g0 hz0 hs0 => ?_); simp only [Bool.false_eq_true, if_false]; refine wpAny_bind ?_
  replace hs0 : Heap.SameBut z hp g0 := hs0
  rw [← Array.forIn_toList]; simp only [List.forIn_cons, List.forIn_nil]
  refine wpAny_bind (wpAny_bind (wpAny_holding ?_)); show wpAny _ _ (Builtin.SmallTypes.nextOf (.ref i1) >>= _) _ _ ⟨g0, g, d, tk0, os⟩
  by_cases l1 : i < n1
  · refine wpAny_bind (D1.item i _ _ _ l1 (D1.over st1 hs0 S.zf1) fun x1 p1 tk1 hx1 sn1 hp1 => wpAny_pure ?_)
    replace hp1 : Heap.SameBut i1 g0 p1 := hp1
    have hi2 : i = n2 := by omega
    refine wpAny_pure ?_
    refine wpAny_bind (wpAny_bind (wpAny_holding ?_)); show wpAny _ _ (Builtin.SmallTypes.nextOf (.ref i2) >>= _) _ _ ⟨p1, g, d, tk1, os⟩
    refine wpAny_bind (D2.done ⟨p1, g, d, tk1, os⟩ _ _ (by rw [← hi2]; exact D2.over (D2.over st2 hs0 S.zf2) hp1 S.sep1_2) fun q e hq he => ?_)
    exact hE q tk1 e (fun c o c0 c1 c2 x => hq _ _ c2 (hp1.extBut _ _ c1 (hs0.extBut _ _ c0 x))) he
  · have hi1 : i = n1 := by omega
    refine wpAny_bind (D1.done ⟨g0, g, d, tk0, os⟩ _ _ (by rw [← hi1]; exact D1.over st1 hs0 S.zf1) fun q e hq he => ?_)
    exact hE q tk0 e (fun c o c0 c1 c2 x => hq _ _ c1 (hs0.extBut _ _ c0 x)) he
end
end XL
namespace XL
open PySem PyProof.Rows
/-- the zip between two nexts: nothing given out yet, or the last pair is held -/
def ZNow (h : Heap) (z TI TO L : Addr) : Prop :=
  (IsZip h z TI TO .none ∧ ∃ a1 a2, IsTupOf2 h TO a1 a2) ∨ ∃ T f oT, IsZipHeld h z TI TO T f ∧ h.get? T = some oT ∧ T ≠ z ∧ T ≠ L
theorem ZNow.typ {s : Shared} {z TI TO L : Addr} (h : ZNow s.heap z TI TO L) : s.TypeIs (.ref z) "zip" := by
  rcases h with ⟨h, _⟩ | ⟨T, f, oT, h, _⟩
  · exact ⟨_, h, rfl⟩
  · exact ⟨_, h, rfl⟩
theorem ZNow.lt {h : Heap} {z TI TO L : Addr} (q : ZNow h z TI TO L) : z < h.objs.size := by
  rcases q with ⟨h, _⟩ | ⟨T, f, oT, h, _⟩
  · exact Heap.lt_size h
  · exact Heap.lt_size h
section
variable {prog : Program} {w : World} {A : Around} {E : Value → Shared → Prop} {s : Shared} {z TI TO L i1 i2 : Addr}
variable {fp1 fp2 : List Addr} {n1 n2 i : Nat} {P1 P2 : Nat → Value → Prop} {St1 St2 : Nat → Heap → Prop}
theorem next_item {Q : Option Value → Shared → Prop} (S : ZipSep2 z TI TO i1 i2 fp1 fp2)
    (D1 : Draws prog w A.in1 i1 fp1 n1 P1 St1) (D2 : Draws prog w A.in1 i2 fp2 n2 P2 St2)
    (hz : ZNow s.heap z TI TO L) (hTI : IsTupOf2 s.heap TI (.ref i1) (.ref i2)) (hL : L < s.heap.objs.size)
    (st1 : St1 i s.heap) (st2 : St2 i s.heap) (l1 : i < n1) (l2 : i < n2)
    (hQ : ∀ x1 x2 h' tk, P1 i x1 → P2 i x2 → ZNow h' z TI TO L → St1 (i + 1) h' → St2 (i + 1) h' →
      IsTupOf2 h' s.heap.objs.size x1 x2 → h'.objs.size = s.heap.objs.size + 1 →
      (∀ c o, c ≠ z → c ≠ TO → c ≠ i1 → c ≠ i2 → s.heap.get? c = some o → h'.get? c = some o) →
      Q (some (.ref s.heap.objs.size)) { s with heap := h', toks := tk }) :
    wpAny (model prog w) A (pyNext (.ref z)) Q E s := by
  have hTy := hz.typ
  have zl : z < s.heap.objs.size := hz.lt
  have zne : s.heap.objs.size ≠ z := Nat.ne_of_gt zl
  have lne : s.heap.objs.size ≠ L := Nat.ne_of_gt hL
  rcases hz with ⟨hz, a1, a2, hTO⟩ | ⟨T, f, oT, hz, hT, hTz, hTL⟩
  · refine wpAny_pyNext_zipD2_item S D1 D2 hz hTI hTO st1 st2 l1 l2 fun x1 x2 h' tk y1 y2 b1 b2 d1 d2 b5 b6 b7 => ?_
    exact hQ x1 x2 h' tk y1 y2 (.inr ⟨s.heap.objs.size, false, _, b1, b5, zne, lne⟩) d1 d2 b5 b6 b7
  · unfold pyNext
    refine wpAny_bind (wpAny_attempt (wpAny_callSpecial?_slot (name := Str.ofString "__next__") hTy F.slot_zip_next
      (wpAny_call_entry F.slot_zip_next hTy F.entry_zip_next (held_item S D1 D2 hz hT hTI st1 st2 l1 l2
        fun x1 x2 h' tk y1 y2 b1 d1 d2 b5 b6 b7 => wpAny_pure ?_) (F.args_zip_next_1 _))))
    have hT' : ∃ o, h'.get? T = some o := by
      by_cases c1 : T = i1
      · rw [c1]; exact D1.live _ _ d1
      · by_cases c2 : T = i2
        · rw [c2]; exact D2.live _ _ d2
        · exact ⟨_, b7 T oT hTz c1 c2 hT⟩
    obtain ⟨o', hT'⟩ := hT'
    exact hQ x1 x2 h' tk y1 y2 (.inr ⟨T, true, o', b1, hT', hTz, hTL⟩) d1 d2 b5 b6 fun c o c0 _ c1 c2 e => b7 c o c0 c1 c2 e
theorem next_end {Q : Option Value → Shared → Prop} (S : ZipSep2 z TI TO i1 i2 fp1 fp2)
    (D1 : Draws prog w A.in1 i1 fp1 n1 P1 St1) (D2 : Draws prog w A.in1 i2 fp2 n2 P2 St2)
    (hz : ZNow s.heap z TI TO L) (hTI : IsTupOf2 s.heap TI (.ref i1) (.ref i2))
    (st1 : St1 i s.heap) (st2 : St2 i s.heap) (e1 : i ≤ n1) (e2 : i ≤ n2) (hend : i = n1 ∨ i = n2)
    (hQ : ∀ h' tk, (∀ c o, c ≠ z → c ≠ TO → c ≠ i1 → c ≠ i2 → s.heap.get? c = some o → h'.get? c = some o) →
      Q none { s with heap := h', toks := tk }) :
    wpAny (model prog w) A (pyNext (.ref z)) Q E s := by
  have hTy := hz.typ
  rcases hz with ⟨hz, a1, a2, hTO⟩ | ⟨T, f, oT, hz, hT, hTz, hTL⟩
  · exact wpAny_pyNext_zipD2_end S D1 D2 hz hTI hTO st1 st2 e1 e2 hend hQ
  · unfold pyNext
    refine wpAny_bind (wpAny_attempt (wpAny_callSpecial?_slot (name := Str.ofString "__next__") hTy F.slot_zip_next
      (wpAny_call_entry F.slot_zip_next hTy F.entry_zip_next (held_end S D1 D2 hz hT hTI st1 st2 e1 e2 hend fun h' tk e hk he => ?_) (F.args_zip_next_1 _))))
    obtain ⟨o, ho, hc⟩ := he
    refine wpAny_bind (wpAny_isInstance (T := "StopIteration") (b := true) ⟨o, ho, hc⟩ isSubtype_stop ?_)
    exact wpAny_pure (hQ _ _ fun c o c0 _ c1 c2 e => hk c o c0 c1 c2 e)
end

/-- the pairs laid so far: at Ts, new, apart from the zip's own cells and the list -/
structure Laid (N L : Nat) (P1 P2 : Nat → Value → Prop) (cells : List Addr) (h : Heap) (Ts : List Addr) : Prop where
  nd : Ts.Nodup
  at_ : ∀ j T, Ts[j]? = some T → N ≤ T ∧ T < h.objs.size ∧ T ≠ L ∧ T ∉ cells ∧ ∃ x y, P1 j x ∧ P2 j y ∧ IsTupOf2 h T x y
theorem Laid.nil {N L : Nat} {P1 P2 : Nat → Value → Prop} {cells : List Addr} {h : Heap} : Laid N L P1 P2 cells h [] := ⟨List.nodup_nil, fun j T e => by simp at e⟩
theorem Laid.over {N L : Nat} {P1 P2 : Nat → Value → Prop} {cells : List Addr} {h h' : Heap} {Ts : List Addr} (q : Laid N L P1 P2 cells h Ts)
    (hs : h.objs.size ≤ h'.objs.size) (hk : ∀ c o, c ∉ cells → c ≠ L → h.get? c = some o → h'.get? c = some o) : Laid N L P1 P2 cells h' Ts :=
  ⟨q.nd, fun j T e => by
    obtain ⟨a, b, c, d, x, y, px, py, t⟩ := q.at_ j T e
    exact ⟨a, Nat.lt_of_lt_of_le b hs, c, d, x, y, px, py, hk _ _ d c t⟩⟩
theorem Laid.push {N L : Nat} {P1 P2 : Nat → Value → Prop} {cells : List Addr} {h h' : Heap} {Ts : List Addr} {x y : Value} (q : Laid N L P1 P2 cells h Ts)
    (hs : h'.objs.size = h.objs.size + 1) (hk : ∀ c o, c ∉ cells → c ≠ L → h.get? c = some o → h'.get? c = some o)
    (hN : N ≤ h.objs.size) (hL : L < h.objs.size) (hc : ∀ c ∈ cells, c < h.objs.size) (px : P1 Ts.length x) (py : P2 Ts.length y) (t : IsTupOf2 h' h.objs.size x y) :
    Laid N L P1 P2 cells h' (Ts ++ [h.objs.size]) := by
  have q' := q.over (h' := h') (by omega) hk
  refine ⟨?_, fun j T e => ?_⟩
  · rw [List.nodup_append]
    refine ⟨q.nd, by simp, fun a ha b hb e => ?_⟩
    simp at hb
    obtain ⟨j, hj⟩ := List.getElem?_of_mem ha
    have := (q.at_ j a hj).2.1
    rw [e, hb] at this
    exact Nat.lt_irrefl _ this
  · by_cases hj : j < Ts.length
    · rw [List.getElem?_append_left hj] at e
      exact q'.at_ j T e
    · rw [List.getElem?_append_right (by omega)] at e
      have hj0 : j - Ts.length = 0 := by
        rcases Nat.eq_zero_or_pos (j - Ts.length) with z | z
        · exact z
        · rw [List.getElem?_eq_none (by simp; omega)] at e
          cases e
      rw [hj0] at e
      have e' : h.objs.size = T := by simpa using e
      subst e'
      have ej : j = Ts.length := by omega
      refine ⟨hN, by rw [hs]; exact Nat.lt_succ_self _, Nat.ne_of_gt hL, fun hm => Nat.lt_irrefl _ (hc _ hm), x, y, ?_, ?_, t⟩
      · rw [ej]; exact px
      · rw [ej]; exact py
section
variable {prog : Program} {w : World} {A : Around} {R : Result → Shared → Prop} {z TI TO i1 i2 : Addr} {N L : Nat}
variable {fp1 fp2 : List Addr} {n1 n2 n : Nat} {P1 P2 : Nat → Value → Prop} {St1 St2 : Nat → Heap → Prop}
theorem loop_zip (S : ZipSep2 z TI TO i1 i2 fp1 fp2) (D1 : Draws prog w A.in1.in1 i1 fp1 n1 P1 St1) (D2 : Draws prog w A.in1.in1 i2 fp2 n2 P2 St2)
    (hn : n = min n1 n2) (hsz : n ≤ sizeLine) (res : Value) (hL1 : L ∉ fp1) (hL2 : L ∉ fp2) (hLz : L ≠ z) (hLTI : L ≠ TI) (hLTO : L ≠ TO) (hNz : N ≤ z) (hNT : N ≤ TO) (hN1 : N ≤ i1) (hN2 : N ≤ i2) (hNL : N ≤ L) :
    ∀ (k : Nat) (s : Shared) (Ts : List Addr) (c : Nat), n - Ts.length = k → Ts.length ≤ n → ZNow s.heap z TI TO L → IsTupOf2 s.heap TI (.ref i1) (.ref i2) → TO < s.heap.objs.size →
      St1 Ts.length s.heap → St2 Ts.length s.heap → N ≤ s.heap.objs.size → s.heap.get? L = some { cls := .type "list", dict := none, data := .seq (Ts.map Value.ref).toArray c, slots := #[] } →
      Laid N L P1 P2 [z, TO, i1, i2] s.heap Ts →
      (∀ h' tk Ts' c', Ts'.length = n → (∀ b o, b < N → s.heap.get? b = some o → h'.get? b = some o) →
        h'.get? L = some { cls := .type "list", dict := none, data := .seq (Ts'.map Value.ref).toArray c', slots := #[] } → Laid N L P1 P2 [z, TO, i1, i2] h' Ts' →
        R (.ok (.ret res)) { s with heap := h', toks := tk }) →
      codeAny (model prog w) A (.builtin "list.extend.loop" ⟨[.ref L, .ref z, res], []⟩) R s := by
  intro k
  have S' := S
  induction k with
  | zero =>
    intro s Ts c hk hle hz hTI hTO st1 st2 hN hLs hld hR
    have hin : Ts.length = n := by omega
    refine codeAny_builtin F.entry_extend_loop ?_
    rw [Around.under_plainId F.plain_extend_loop _]
    show wpAny _ A.in1 (pyNext (.ref z) >>= _) _ _ s
    have hend : Ts.length = n1 ∨ Ts.length = n2 := by omega
    refine wpAny_bind (next_end S D1 D2 hz hTI st1 st2 (by omega) (by omega) hend fun h' tk hk' => ?_)
    have ne : ∀ c, c ∉ [z, TO, i1, i2] → c ≠ z ∧ c ≠ TO ∧ c ≠ i1 ∧ c ≠ i2 := fun c hc => by simpa using hc
    have Li : L ≠ i1 ∧ L ≠ i2 := ⟨fun e => hL1 (e ▸ S.mem1), fun e => hL2 (e ▸ S.mem2)⟩
    refine wpAny_pure (hR h' tk Ts c hin (fun b o hb e => ?_) (hk' L _ hLz hLTO Li.1 Li.2 hLs) ?_)
    · exact hk' b o (Nat.ne_of_lt (Nat.lt_of_lt_of_le hb hNz)) (Nat.ne_of_lt (Nat.lt_of_lt_of_le hb hNT)) (Nat.ne_of_lt (Nat.lt_of_lt_of_le hb hN1)) (Nat.ne_of_lt (Nat.lt_of_lt_of_le hb hN2)) e
    · refine ⟨hld.nd, fun j T e => ?_⟩
      obtain ⟨a, b, c, d, x, y, px, py, t⟩ := hld.at_ j T e
      have t' : IsTupOf2 h' T x y := hk' _ _ (ne T d).1 (ne T d).2.1 (ne T d).2.2.1 (ne T d).2.2.2 t
      exact ⟨a, Heap.lt_size t', c, d, x, y, px, py, t'⟩
  | succ k ih =>
    intro s Ts c hk hle hz hTI hTO st1 st2 hN hLs hld hR
    have hlt1 : Ts.length < n1 := by omega
    have hlt2 : Ts.length < n2 := by omega
    refine codeAny_builtin F.entry_extend_loop ?_
    rw [Around.under_plainId F.plain_extend_loop _]
    show wpAny _ A.in1 (pyNext (.ref z) >>= _) _ _ s
    have hLlt : L < s.heap.objs.size := Heap.lt_size hLs
    refine wpAny_bind (next_item S D1 D2 hz hTI hLlt st1 st2 hlt1 hlt2 fun x1 x2 h' tk px py hz' d1 d2 ht hsz' hk' => ?_)
    have ne : ∀ c, c ∉ [z, TO, i1, i2] → c ≠ z ∧ c ≠ TO ∧ c ≠ i1 ∧ c ≠ i2 := fun c hc => by simpa using hc
    have Li : L ≠ i1 ∧ L ≠ i2 := ⟨fun e => hL1 (e ▸ S.mem1), fun e => hL2 (e ▸ S.mem2)⟩
    have hL' := hk' L _ hLz hLTO Li.1 Li.2 hLs
    have hTI' : IsTupOf2 h' TI (.ref i1) (.ref i2) := hk' TI _ S.TIz S.TITO S.TIi1 S.TIi2 hTI
    have hcells : ∀ b ∈ [z, TO, i1, i2], b < s.heap.objs.size := fun b hb => by
      have hb' : b = z ∨ b = TO ∨ b = i1 ∨ b = i2 := by simpa using hb
      rcases hb' with e | e | e | e
      · rw [e]; exact hz.lt
      · rw [e]; exact hTO
      · rw [e]; obtain ⟨o, q⟩ := D1.live _ _ st1; exact Heap.lt_size q
      · rw [e]; obtain ⟨o, q⟩ := D2.live _ _ st2; exact Heap.lt_size q
    have hld' : Laid N L P1 P2 [z, TO, i1, i2] h' (Ts ++ [s.heap.objs.size]) :=
      hld.push hsz' (fun c o hc _ e => hk' c o (ne c hc).1 (ne c hc).2.1 (ne c hc).2.2.1 (ne c hc).2.2.2 e) hN hLlt hcells px py ht
    show wpAny _ A.in1 (updateSeq L (·.push (Value.ref s.heap.objs.size)) >>= _) _ _ _
    refine wpAny_bind ?_
    have hlen : (Ts ++ [s.heap.objs.size]).length = Ts.length + 1 := by simp
    have hzs : ((Ts.map Value.ref).toArray : Array Value).size = Ts.length := by simp
    refine wpAny_updateSeq hL' rfl (wpAny_pure ⟨plainId_quiet F.plain_extend_loop _, ?_⟩) (by rw [hzs]; omega)
      (by show ((Ts.map Value.ref).toArray.push (Value.ref s.heap.objs.size)).size ≤ sizeLine + 1; rw [Array.size_push, hzs]; omega)
    have hself := Heap.get?_update_self (Obj.mapSeq (·.push (Value.ref s.heap.objs.size))) hL' rfl
    have hoth : ∀ b o, b ≠ L → h'.get? b = some o → (h'.update L (Obj.mapSeq (·.push (Value.ref s.heap.objs.size)))).get? b = some o :=
      fun b o hb e => (Heap.get?_update_other _ _ (Ne.symm hb)).trans e
    have hus : (h'.update L (Obj.mapSeq (·.push (Value.ref s.heap.objs.size)))).objs.size = h'.objs.size := (Heap.SameBut.update ..).1
    obtain ⟨c3, hc3⟩ : ∃ c3, (h'.update L (Obj.mapSeq (·.push (Value.ref s.heap.objs.size)))).get? L = some { cls := .type "list", dict := none, data := .seq ((Ts ++ [s.heap.objs.size]).map Value.ref).toArray c3, slots := #[] } := by
      have eA : ((Ts ++ [s.heap.objs.size]).map Value.ref).toArray = (Ts.map Value.ref).toArray.push (Value.ref s.heap.objs.size) := by simp
      rw [eA, hself]; exact ⟨_, rfl⟩
    refine ih { s with heap := h'.update L (Obj.mapSeq (·.push (Value.ref s.heap.objs.size))), toks := tk } (Ts ++ [s.heap.objs.size]) c3 (by rw [hlen]; omega) (by rw [hlen]; omega) ?_ (hoth TI _ (Ne.symm hLTI) hTI') ?_ ?_ ?_ ?_ ?_ ?_ fun h2 tk2 Ts2 c2 hl2 hk2 hL2' hld2 => ?_
    · rcases hz' with ⟨q, a1, a2, q2⟩ | ⟨T, f, oT, q, q2, q3, q4⟩
      · exact .inl ⟨hoth z _ (Ne.symm hLz) q, a1, a2, hoth TO _ (Ne.symm hLTO) q2⟩
      · exact .inr ⟨T, f, oT, hoth z _ (Ne.symm hLz) q, hoth T _ q4 q2, q3, q4⟩
    · show TO < (h'.update L _).objs.size
      rw [hus, hsz']; exact Nat.lt_succ_of_lt hTO
    · rw [hlen]; exact D1.frame _ _ _ d1 fun b hb o e => hoth b o (fun q => hL1 (q ▸ hb)) e
    · rw [hlen]; exact D2.frame _ _ _ d2 fun b hb o e => hoth b o (fun q => hL2 (q ▸ hb)) e
    · show N ≤ (h'.update L _).objs.size
      rw [hus, hsz']; exact Nat.le_succ_of_le hN
    · exact hc3
    · exact hld'.over (by rw [hus]; exact Nat.le_refl _) fun b o _ hb e => hoth b o hb e
    · refine hR h2 tk2 Ts2 c2 hl2 (fun b o hb e => hk2 b o hb (hoth b o (Nat.ne_of_lt (Nat.lt_of_lt_of_le hb hNL)) ?_)) hL2' hld2
      exact hk' b o (Nat.ne_of_lt (Nat.lt_of_lt_of_le hb hNz)) (Nat.ne_of_lt (Nat.lt_of_lt_of_le hb hNT)) (Nat.ne_of_lt (Nat.lt_of_lt_of_le hb hN1)) (Nat.ne_of_lt (Nat.lt_of_lt_of_le hb hN2)) e
theorem zip_no_len : typeLookup (.type "zip") "__len__" = pure none := am_miss_of_fast (by decide +kernel)
theorem zip_no_hint : typeLookup (.type "zip") "__length_hint__" = pure none := am_miss_of_fast (by decide +kernel)
end
end XL
namespace XL
open PySem PyProof.Rows
section
variable {prog : Program} {w : World} {A : Around} {E : Value → Shared → Prop} {s : Shared}
/-- list(zip(v1, v2)): a new list of new pairs -/
theorem call_list_zip {Q : Value → Shared → Prop} {v1 v2 : Value} {o1 o2 : Obj} {H1 H2 : Heap → Prop} {fp1 fp2 : List Addr} {n1 n2 n : Nat} {P1 P2 : Nat → Value → Prop} {St1 St2 : Nat → Heap → Prop}
    (B1 : Begins v1 o1 H1) (B2 : Begins v2 o2 H2) (h1 : H1 s.heap) (h2 : H2 s.heap) (hf1 : ∀ b ∈ fp1, b < s.heap.objs.size) (hf2 : ∀ b ∈ fp2, b < s.heap.objs.size)
    (D1 : ∀ A', A'.handled = none → Draws prog w A' s.heap.objs.size (s.heap.objs.size :: fp1) n1 P1 St1)
    (D2 : ∀ A', A'.handled = none → Draws prog w A' (s.heap.objs.size + 1) ((s.heap.objs.size + 1) :: fp2) n2 P2 St2)
    (b1 : ∀ h', (∀ b o, s.heap.get? b = some o → h'.get? b = some o) → h'.get? s.heap.objs.size = some o1 → St1 0 h')
    (b2 : ∀ h', (∀ b o, s.heap.get? b = some o → h'.get? b = some o) → h'.get? (s.heap.objs.size + 1) = some o2 → St2 0 h')
    (hA : A.handled = none) (hn : n = min n1 n2) (hz : n ≤ sizeLine)
    (hQ : ∀ (h' : Heap) (tk : Nat) (Ts : List Addr) (c : Nat) (L : Addr), Ts.length = n → (∀ b o, s.heap.get? b = some o → h'.get? b = some o) → s.heap.objs.size ≤ L →
      h'.get? L = some { cls := .type "list", dict := none, data := .seq (Ts.map Value.ref).toArray c, slots := #[] } → Ts.Nodup →
      (∀ j T, Ts[j]? = some T → s.heap.objs.size ≤ T ∧ T ≠ L ∧ ∃ x y, P1 j x ∧ P2 j y ∧ IsTupOf2 h' T x y) → Q (.ref L) { s with heap := h', toks := tk }) :
    wpAny (model prog w) A (call (.type "zip") [v1, v2]) (fun v s1 => wpAny (model prog w) A (call (.type "list") [v]) Q E s1) E s := by
  refine zip_begins2 B1 B2 h1 h2 fun g hz0 hTI hTO e1 e2 hsz hk => ?_
  have hgN : g.objs.size = s.heap.objs.size + 5 := hsz
  generalize hNN : s.heap.objs.size = N at *
  refine callType_codes (Q₁ := fun obj s₁ => obj = .ref g.objs.size ∧ s₁ = { s with heap := g.push { cls := .type "list", data := .seq #[] } }) F.called_list (F.typeCall_list_1 _) F.entry_list_init
    (code_list_new _ ⟨rfl, rfl⟩) fun obj s₁ q₁ => ?_
  obtain ⟨rfl, rfl⟩ := q₁
  have hS : (g.push { cls := .type "list", data := .seq #[] }).get? g.objs.size = some { cls := .type "list", data := .seq #[] } := Heap.get?_push_size _ rfl
  refine ⟨⟨_, hS, rfl⟩, F.args_list_init_2 _ _, ?_⟩
  have SS := zip_sep2 hf1 hf2
  have kp : ∀ b o, g.get? b = some o → (g.push { cls := .type "list", data := .seq #[] }).get? b = some o := fun b o e => Heap.get?_push_of_some _ e
  generalize hG : g.push { cls := .type "list", data := .seq #[] } = G at *
  have hGz : G.objs.size = g.objs.size + 1 := by rw [← hG]; exact Heap.size_push ..
  have hLv : g.objs.size = N + 5 := hgN
  generalize hLL : g.objs.size = L at *
  show wpAny _ _ (do let old ← Builtin.List.listItems (.ref L); Builtin.List.listUpdate (.ref L) (fun _ => #[]); letGo old.toList.reverse; Builtin.List.listExtendWith (.ref L) (.ref (N + 4)) .none) _ _ _
  refine wpAny_bind ?_
  unfold Builtin.List.listItems
  refine wpAny_bind (wpAny_seqItems hS rfl (wpAny_pure ?_))
  show wpAny _ _ (updateSeq L (fun _ => #[]) >>= fun _ => letGo (#[] : Array Value).toList.reverse >>= fun _ => Builtin.List.listExtendWith (.ref L) (.ref (N + 4)) .none) _ _ _
  refine wpAny_bind (wpAny_updateSeq hS rfl ?_)
  have hS₂ := Heap.get?_update_self (Obj.mapSeq (fun _ => (#[] : Array Value))) hS rfl
  have oth : ∀ b o, b ≠ L → G.get? b = some o → (G.update L (Obj.mapSeq (fun _ => (#[] : Array Value)))).get? b = some o :=
    fun b o hb e => (Heap.get?_update_other _ _ (Ne.symm hb)).trans e
  have hG2 : (G.update L (Obj.mapSeq (fun _ => (#[] : Array Value)))).objs.size = G.objs.size := (Heap.SameBut.update ..).1
  generalize hGG : G.update L (Obj.mapSeq (fun _ => (#[] : Array Value))) = G2 at *
  refine wpAny_bind (wpAny_letGo ?_)
  have hNL : N ≤ L := by omega
  have nL : ∀ j : Nat, j < 5 → N + j ≠ L := fun j hj => by omega
  have hz2 : IsZip G2 (N + 4) (N + 2) (N + 3) .none := oth _ _ (nL 4 (by omega)) (kp _ _ hz0)
  have hT2 : IsTupOf2 G2 (N + 2) (.ref N) (.ref (N + 1)) := oth _ _ (nL 2 (by omega)) (kp _ _ hTI)
  have hO2 : IsTupOf2 G2 (N + 3) .none .none := oth _ _ (nL 3 (by omega)) (kp _ _ hTO)
  unfold Builtin.List.listExtendWith
  have hTy : ({ s with heap := G2 } : Shared).TypeIs (.ref (N + 4)) "zip" := ⟨_, hz2, rfl⟩
  refine wpAny_bind (wpAny_typeOf hTy ?_)
  have q1 : Builtin.List.listSameRef (.ref L) (.ref (N + 4)) = false := by simp only [Builtin.List.listSameRef]; exact beq_eq_false_iff_ne.mpr (nL 4 (by omega)).symm
  have q2 : (Value.type "zip" == Value.type "list") = false := by decide
  have q3 : (Value.type "zip" == Value.type "tuple") = false := by decide
  simp only [q1, q2, q3, Bool.or_false, Bool.false_eq_true, if_false]
  refine wpAny_bind (wpAny_pyIter_zip hz2 ?_)
  refine wpAny_bind (wpAny_holding ?_)
  unfold Builtin.List.listLengthHint
  refine wpAny_bind (wpAny_specialOf hTy zip_no_len ?_)
  show wpAny _ _ (specialOf (Value.ref (N + 4)) (Str.ofString "__length_hint__") >>= _) _ _ _
  refine wpAny_bind (wpAny_specialOf hTy zip_no_hint ?_)
  refine wpAny_pure ?_
  show wpAny _ _ (rule "list.extend.makes-room" >>= fun _ => Builtin.List.listTouch (.ref L) >>= fun _ => again (.builtin "list.extend.loop" ⟨[.ref L, .ref (N + 4), .none], []⟩)) _ _ _
  refine wpAny_bind (wpAny_rule ?_)
  refine wpAny_bind ?_
  show wpAny _ _ (updateSeq L (·.push .none) >>= fun _ => updateSeq L (·.pop)) _ _ _
  refine wpAny_bind (wpAny_updateSeq hS₂ rfl ?_)
  have hS₃ := Heap.get?_update_self (Obj.mapSeq (·.push Value.none)) hS₂ rfl
  refine wpAny_updateSeq (hz := by seq_fits) hS₃ rfl ?_
  have hS₄ := Heap.get?_update_self (Obj.mapSeq (·.pop)) hS₃ rfl
  have oth2 : ∀ b o, b ≠ L → G2.get? b = some o → ((G2.update L (Obj.mapSeq (·.push Value.none))).update L (Obj.mapSeq (·.pop))).get? b = some o :=
    fun b o hb e => (Heap.get?_update_other _ _ (Ne.symm hb)).trans ((Heap.get?_update_other _ _ (Ne.symm hb)).trans e)
  have hG3 : ((G2.update L (Obj.mapSeq (·.push Value.none))).update L (Obj.mapSeq (·.pop))).objs.size = G2.objs.size := ((Heap.SameBut.update ..).1).trans ((Heap.SameBut.update ..).1)
  generalize hGGG : (G2.update L (Obj.mapSeq (·.push Value.none))).update L (Obj.mapSeq (·.pop)) = G3 at *
  have old : ∀ b o, s.heap.get? b = some o → G3.get? b = some o := fun b o e => by
    have hb : b < N := by rw [← hNN]; exact Heap.lt_size e
    have hb' : b ≠ L := Nat.ne_of_lt (Nat.lt_of_lt_of_le hb hNL)
    exact oth2 b o hb' (oth b o hb' (kp b o (hk b o e)))
  have at1 : G3.get? N = some o1 := oth2 _ _ (nL 0 (by omega)) (oth _ _ (nL 0 (by omega)) (kp _ _ e1))
  have at2 : G3.get? (N + 1) = some o2 := oth2 _ _ (nL 1 (by omega)) (oth _ _ (nL 1 (by omega)) (kp _ _ e2))
  have hLn1 : L ∉ N :: fp1 := fun hm => by
    rcases List.mem_cons.mp hm with e | hm
    · exact nL 0 (by omega) e.symm
    · exact Nat.lt_irrefl _ (Nat.lt_of_lt_of_le (hf1 _ hm) hNL)
  have hLn2 : L ∉ (N + 1) :: fp2 := fun hm => by
    rcases List.mem_cons.mp hm with e | hm
    · exact nL 1 (by omega) e.symm
    · exact Nat.lt_irrefl _ (Nat.lt_of_lt_of_le (hf2 _ hm) hNL)
  refine wpAny_pure ⟨plainId_quiet F.plain_extend_loop _, loop_zip (A := A.in1) (N := N) (L := L) SS (D1 _ (show A.in1.in1.in1.handled = none from hA)) (D2 _ (show A.in1.in1.in1.handled = none from hA)) hn hz .none hLn1 hLn2 (nL 4 (by omega)).symm (nL 2 (by omega)).symm (nL 3 (by omega)).symm (Nat.le_add_right _ _) (Nat.le_add_right _ _) (Nat.le_refl _) (Nat.le_add_right _ _) (by omega)
    n _ [] _ (by simp) (Nat.zero_le _) (.inl ⟨oth2 _ _ (nL 4 (by omega)) hz2, _, _, oth2 _ _ (nL 3 (by omega)) hO2⟩) (oth2 _ _ (nL 2 (by omega)) hT2) ?_ (b1 G3 old at1) (b2 G3 old at2) ?_ hS₄ .nil fun h' tk Ts c hl hk' hL' hld => ?_⟩
  · show (N + 3 : Nat) < G3.objs.size
    rw [hG3, hG2, hGz]; omega
  · show N ≤ G3.objs.size
    rw [hG3, hG2, hGz]; omega
  · refine ⟨rfl, hQ h' tk Ts c L hl (fun b o e => hk' b o (by rw [← hNN]; exact Heap.lt_size e) (old b o e)) (by omega) hL' hld.nd fun j T e => ?_⟩
    obtain ⟨a, _, b, _, c⟩ := hld.at_ j T e
    exact ⟨a, b, c⟩
end
end XL
namespace XL
open PySem PySem.Spec PyProof.Rows L2
/-- a list or a tuple -/
def Sq2 (K : PySem.W.Frag) (H : Hp) (a : Addr) (xs : List V) : Prop := SqL K H a xs ∨ SqT K H a xs
theorem Same.tup {K : PySem.W.Frag} {H H' : Hp} {a : Addr} {xs : List V} (e : Same H H') (h : SqT K H a xs) : SqT K H' a xs := by
  rcases h with (h | ⟨o, h⟩) | h
  · exact .inl (.inl (e _ _ h))
  · exact .inl (.inr ⟨o, e _ _ h⟩)
  · exact .inr h
theorem Same.sq2 {K : PySem.W.Frag} {H H' : Hp} {a : Addr} {xs : List V} (e : Same H H') (h : Sq2 K H a xs) : Sq2 K H' a xs := h.imp (fun q => e.seq q) (fun q => Same.tup e q)
theorem same_new {H : Hp} {p : Addr} {o : HO} (h : H p = none) : Same H (upd H p o) := fun b x e => by
  rw [upd_ne (ne_of_none e h)]
  exact e
section
variable {X : Cx} {pins : List (Addr × Obj)} {σ : L2.St} {H : Hp} {s : Shared} {a : Addr} {xs : List V}
theorem seq_draws (I : Inv X pins σ H s) (h : Sq2 X.K H a xs) : ∃ (its : List Value) (o : Obj) (B : Heap → Prop) (fp : List Addr), Vals xs its ∧ xs.length ≤ sizeLine ∧ Begins (.ref a) o B ∧ B s.heap ∧
    (∀ b ∈ fp, b < s.heap.objs.size) ∧ ∀ it, s.heap.objs.size ≤ it → ∃ St : Nat → Heap → Prop, (∀ A' : Around, A'.handled = none → Draws X.prog X.w A' it (it :: fp) its.length (fun i v => its[i]? = some v) St) ∧
      ∀ h' : Heap, (∀ b o, s.heap.get? b = some o → h'.get? b = some o) → h'.get? it = some o → St 0 h' := by
  rcases h with h | h
  · obtain ⟨its, rv, p, hz⟩ := I.list h
    have la : a < s.heap.objs.size := p.lt
    refine ⟨its, _, _, [a], rv, hz, begins_list a its.toArray, p.isList, fun b hb => by rw [List.mem_singleton.mp hb]; exact la, fun it hit => ?_⟩
    have hne : a ≠ it := Nat.ne_of_lt (Nat.lt_of_lt_of_le la hit)
    refine ⟨fun i h => h.IsListIter it a i ∧ h.IsList a its.toArray, fun A' hA => ?_, fun h' hk e => ?_⟩
    · have D := Draws.list (prog := X.prog) (w := X.w) hA it a hne its.toArray
      simpa using D
    · exact ⟨⟨_, e, rfl, rfl⟩, p.isList.at fun o q => hk a o q⟩
  · obtain ⟨its, rv, p, hz⟩ := I.tuple h
    have la : a < s.heap.objs.size := by
      obtain ⟨o, e, _⟩ := p
      exact Heap.lt_size e
    have p' : s.heap.IsTuple a its.toArray := p
    refine ⟨its, _, _, [a], rv, hz, begins_tuple a its.toArray, p', fun b hb => by rw [List.mem_singleton.mp hb]; exact la, fun it hit => ?_⟩
    have hne : a ≠ it := Nat.ne_of_lt (Nat.lt_of_lt_of_le la hit)
    refine ⟨fun i h => h.IsTupleIter it a i ∧ h.IsTuple a its.toArray, fun A' hA => ?_, fun h' hk e => ?_⟩
    · have D := Draws.tuple (prog := X.prog) (w := X.w) hA it a hne its.toArray
      simpa using D
    · exact ⟨⟨_, e, rfl, rfl⟩, p'.at fun o q => hk a o q⟩
end
/-- pairs laid at Ts -/
def layP (H : Hp) : List Addr → List V → List V → Hp
  | T :: Ts, x :: xs, y :: ys => upd (layP H Ts xs ys) T (.tup [x, y])
  | _, _, _ => H
theorem layP_off (H : Hp) {c : Addr} : ∀ (Ts : List Addr) (xs ys : List V), c ∉ Ts → layP H Ts xs ys c = H c
  | [], xs, ys, _ => by cases xs <;> cases ys <;> rfl
  | T :: Ts, [], ys, _ => rfl
  | T :: Ts, _ :: _, [], _ => rfl
  | T :: Ts, x :: xs, y :: ys, h => by
    have h1 : c ≠ T := fun e => h (by rw [e]; exact List.mem_cons_self ..)
    show upd (layP H Ts xs ys) T _ c = H c
    rw [upd_ne h1]
    exact layP_off H Ts xs ys fun q => h (List.mem_cons_of_mem _ q)
theorem layP_at (H : Hp) : ∀ (Ts : List Addr) (xs ys : List V) (j : Nat) (T : Addr) (x y : V), Ts.Nodup → Ts[j]? = some T → xs[j]? = some x → ys[j]? = some y → layP H Ts xs ys T = some (.tup [x, y])
  | [], _, _, _, _, _, _, _, h, _, _ => by simp at h
  | T :: Ts, [], _, _, _, _, _, _, _, h, _ => by simp at h
  | T :: Ts, _ :: _, [], _, _, _, _, _, _, _, h => by simp at h
  | T :: Ts, x :: xs, y :: ys, 0, T', x', y', _, h, hx, hy => by
    have e1 : T = T' := Option.some.inj h
    have e2 : x = x' := Option.some.inj hx
    have e3 : y = y' := Option.some.inj hy
    subst e1 e2 e3
    exact upd_same
  | T :: Ts, x :: xs, y :: ys, j + 1, T', x', y', nd, h, hx, hy => by
    have h' : Ts[j]? = some T' := h
    have hne : T' ≠ T := fun e => (List.nodup_cons.mp nd).1 (by rw [← e]; exact List.mem_of_getElem? h')
    show upd (layP H Ts xs ys) T _ T' = _
    rw [upd_ne hne]
    exact layP_at H Ts xs ys j T' x' y' (List.nodup_cons.mp nd).2 h' hx hy
/-- list(zip(e, e2)) -/
def tLZ (K : PySem.W.Frag) (ta : TA) : TE := fun σ H Q => ta σ H fun vs H1 => ∃ a b xs ys, vs = [.ref a, .ref b] ∧ Sq2 K H1 a xs ∧ Sq2 K H1 b ys ∧
  ∀ (L : Addr) (Ts : List Addr) (H2 : Hp), Same H1 H2 → H1 L = none → H2 L = some (.lst (Ts.map V.ref)) → Ts.length = min xs.length ys.length →
    (∀ (j : Nat) (T : Addr), Ts[j]? = some T → ∃ x y, xs[j]? = some x ∧ ys[j]? = some y ∧ H2 T = some (.tup [x, y])) → Q (.ref L) H2
theorem pe_listZip {X : Cx} {e e2 : Expr} {ta : TA} {p p2 pos pos2 : Pos} (hc : X.calm = true) (hg : Gl X "list") (hm : X.mg "list" = none) (hg2 : Gl X "zip") (hm2 : X.mg "zip" = none) (ha : PA X [e, e2] ta)
    (hs : starEach [e, e2] X.env = (false, eval e X.env) :: starEach [e2] X.env := by rfl) (hpl : (backTo pos2 (starEach [e2] X.env)).any (·.1) = false := by rfl)
    (na : starEach [(Expr.Call (.Name "zip" p2) [e, e2] [] pos2)] X.env = (false, eval (.Call (.Name "zip" p2) [e, e2] [] pos2) X.env) :: starEach [] X.env := by rfl) :
    PE X (.Call (.Name "list" p) [.Call (.Name "zip" p2) [e, e2] [] pos2] [] pos) (tLZ X.K ta) := by
  refine ⟨fun pins s σ H Q I h => ?_⟩
  refine Call_ (ld_blt I hg hm boot_list (PyProof.Rows.callWith_type1 (args_cons ?_ na) na))
  obtain ⟨tk0, I0⟩ : ∃ t : Nat, Inv X pins σ H s := ⟨0, I⟩
  refine Call_ (ld_blt I hg2 hm2 PyProof.Rows.boot_zip (PyProof.Rows.callWith_type1 (thn (ha.run pos2 pins s σ H _ I h) fun us s1 ⟨vs, H1, I1, r1, q1⟩ => ?_) hs hpl))
  obtain ⟨a, b, xs, ys, ex, hx, hy, q⟩ := q1
  subst ex
  obtain ⟨u1, u2, rfl, r1, r2⟩ := vals2 r1
  cases (show u1 = Value.ref a from r1)
  cases (show u2 = Value.ref b from r2)
  obtain ⟨its, o1, B1, fp1, rv1, z1, b1, hb1, f1, d1⟩ := seq_draws I1 hx
  obtain ⟨its2, o2, B2, fp2, rv2, z2, b2, hb2, f2, d2⟩ := seq_draws I1 hy
  obtain ⟨St1, D1, s1'⟩ := d1 s1.heap.objs.size (Nat.le_refl _)
  obtain ⟨St2, D2, s2'⟩ := d2 (s1.heap.objs.size + 1) (Nat.le_succ _)
  have l1 := rv1.length
  have l2 := rv2.length
  refine thn (call_list_zip (n := min its.length its2.length) (Q := fun v s2 => ∃ v' H', Inv X pins σ H' s2 ∧ RelV v' v ∧ Q v' H') (E := X.xe) b1 b2 hb1 hb2 f1 f2 D1 D2 s1' s2' (I1.ok.hd hc) rfl (by omega) fun h' tk Ts c L hl hk hLn hL nd hT => ?_) fun v s2 hq => args_nil hq
  have hT' : ∀ (j : Nat) (T : Addr), Ts[j]? = some T → ∃ x y u v, xs[j]? = some x ∧ ys[j]? = some y ∧ RelV x u ∧ RelV y v ∧ s1.heap.objs.size ≤ T ∧ T ≠ L ∧ IsTupOf2 h' T u v := fun j T e => by
    obtain ⟨g1, g2, u, v, pu, pv, t⟩ := hT j T e
    have hj1 : j < xs.length := by
      rw [l1]; exact (List.getElem?_eq_some_iff.mp pu).1
    have hj2 : j < ys.length := by
      rw [l2]; exact (List.getElem?_eq_some_iff.mp pv).1
    obtain ⟨u', eu, ru⟩ := rv1.get (List.getElem?_eq_getElem hj1)
    obtain ⟨v', ev, rv⟩ := rv2.get (List.getElem?_eq_getElem hj2)
    rw [eu] at pu
    rw [ev] at pv
    cases pu
    cases pv
    exact ⟨_, _, _, _, List.getElem?_eq_getElem hj1, List.getElem?_eq_getElem hj2, ru, rv, g1, g2, t⟩
  have hLT : L ∉ Ts := fun hm => by
    obtain ⟨j, e⟩ := List.getElem?_of_mem hm
    obtain ⟨_, _, _, _, _, _, _, _, _, ne, _⟩ := hT' j L e
    exact ne rfl
  have nTs : ∀ c, c < s1.heap.objs.size → c ∉ Ts := fun c hc hm => by
    obtain ⟨j, e⟩ := List.getElem?_of_mem hm
    obtain ⟨_, _, _, _, _, _, _, _, g, _⟩ := hT' j c e
    exact Nat.lt_irrefl _ (Nat.lt_of_lt_of_le hc g)
  have fr : ∀ c, s1.heap.objs.size ≤ c → H1 c = none := fun c hc => I1.hok.fresh hc
  have old : ∀ c o, H1 c = some o → upd (layP H1 Ts xs ys) L (.lst (Ts.map V.ref)) c = some o := fun c o e => by
    have h1 : c ≠ L := fun z => by rw [z, fr L hLn] at e; cases e
    have h2 : c ∉ Ts := fun hm => by
      obtain ⟨j, e'⟩ := List.getElem?_of_mem hm
      obtain ⟨_, _, _, _, _, _, _, _, g, _⟩ := hT' j c e'
      rw [fr c g] at e; cases e
    rw [upd_ne h1, layP_off H1 Ts xs ys h2]; exact e
  have U : Un X.fs [] H1 (upd (layP H1 Ts xs ys) L (.lst (Ts.map V.ref))) s1.heap h' := {
    keep := fun b o e _ _ _ => hk b o e
    slot := fun b o e _ _ _ => ⟨o.slots, hk b o e⟩
    free := fun b o e n _ => by
      have lb := Heap.lt_size e
      rw [upd_ne (Nat.ne_of_lt (Nat.lt_of_lt_of_le lb hLn)), layP_off H1 Ts xs ys (nTs b lb)]; exact n
    there := fun b o e _ => ⟨o, hk b o e⟩
    tups := fun b xs e => old b _ e
    frzs := fun b o u e => old b _ e
    tbls := fun b ps e => ⟨#[], by rw [old b _ e]; simp⟩ }
  have OK : HOk X.prog X.w (upd (layP H1 Ts xs ys) L (.lst (Ts.map V.ref))) h' := fun b o e => by
    by_cases hb : b = L
    · subst hb
      rw [upd_same] at e
      cases e
      refine ⟨by rw [List.length_map, hl]; omega, Ts.map Value.ref, c, ?_, hL⟩
      clear hT hT' hLT nTs old U hL nd hl q
      induction Ts with
      | nil => exact .nil
      | cons T r ih => exact .cons rfl ih
    · rw [upd_ne hb] at e
      by_cases hbT : b ∈ Ts
      · obtain ⟨j, ej⟩ := List.getElem?_of_mem hbT
        obtain ⟨x, y, u, v, ex, ey, ru, rv, g1, g2, t⟩ := hT' j b ej
        rw [layP_at H1 Ts xs ys j b x y nd ej ex ey] at e
        cases e
        exact ⟨by show 2 ≤ sizeLine; decide, [u, v], .cons ru (.cons rv .nil), ⟨_, t, rfl, _, rfl⟩⟩
      · rw [layP_off H1 Ts xs ys hbT] at e
        exact (I1.hok b o e).stay (fun c v _ q => hk c v q) (fun c q => old c _ q) fun c xs q => old c _ q
  refine ⟨.ref L, _, I1.un (t' := tk) U OK, rfl, q L Ts _ (fun c o e => old c o e) (fr L hLn) upd_same (by rw [hl]; omega) fun j T e => ?_⟩
  obtain ⟨x, y, u, v, ex, ey, ru, rv, g1, g2, t⟩ := hT' j T e
  exact ⟨x, y, ex, ey, by rw [upd_ne g2, layP_at H1 Ts xs ys j T x y nd e ex ey]⟩
end XL
namespace XL
open PySem PySem.Spec PyProof.Rows L2
/-- a def that keeps its promise where no repr is under way -/
structure FnG (P : Program) (w : World) (K : PySem.W.Frag) (mg : Str → Option Value) (base : Heap) (k : Nat) (f : Addr) (fd : FuncData) (ps : List Str) (sp : Sp) : Prop where
  len : ∀ vs H Q E, sp vs H Q E → vs.length = ps.length
  run : ∀ (A : Around) (outer : List Env) (s : Shared) (H : Hp) (args : Args) (us : List Value) (vs : List V) (Q : VK) (E : XK),
    A.guards = some [] → Room k A → Env0 P w K mg base A outer s H → BindsTo s fd args (ps.zip us) → Vals vs us → sp vs H Q E →
    codeAny (model P w) A (.call (.ref f) args) (CR CX0 outer P w H s Q E) s
section
variable {P : Program} {w : World} {K : PySem.W.Frag} {mg : Str → Option Value} {base : Heap}
theorem okG {x qual : Str} {st : Stmt} {f : Addr} {fd : FuncData} {N ps : List Str} {k : Nat} {sp : Sp} (F : Fun K x qual st f fd) (S : FnScope N ps (defScope st)) (len : ∀ vs H Q E, sp vs H Q E → vs.length = ps.length)
    (hbody : ∀ (cdv : Value) (A : Around) (outer : List Env) (s : Shared) (H : Hp) (vs : List V) (Q : VK) (E : XK),
      (A.deeper (envOfC qual (defScope st) s.heap.objs.size f cdv)).guards = some [] → Room k (A.deeper (envOfC qual (defScope st) s.heap.objs.size f cdv)) → sp vs H Q E →
      ∃ t, PSs (cxOf CX0 P w K mg base N qual (defScope st) f cdv A outer s H E).nox (defBody st) t ∧ t { nx := fun _ H' => Q .non H', rt := Q } (start N vs) H) : FnG P w K mg base (k + 1) f fd ps sp := by
  obtain ⟨oc, od, kV, doc, pm, an, cdv, ct, osl, rfl, lk, hcd⟩ := F.ex
  refine ⟨len, fun A outer s H args us vs Q E hgd hr e0 hb r hsp => ?_⟩
  have hl := len _ _ _ _ hsp; have KX : K.In s.heap := e0.mod.kin.keeps fun b o e => (e0.bs b o e).1
  have lim : s.heap.NoLimit := e0.mod.nolimit.keeps fun b o e => (e0.bs b o e).1
  have hkind : ∀ y ∈ ps.zip us, (defScope st).names.lookup y.1 = some .local ∨ ((defScope st).names.lookup y.1 = some .cell ∧ ((cellsFrom (s.heap.objs.size + 1) (defScope st).names []).lookup y.1).isSome = true) := fun ⟨n, v⟩ hy => by
    rcases S.par n (List.of_mem_zip hy).1 with q | q
    · exact .inl q
    · exact .inr ⟨q, PySem.W.cellsFrom_some _ _ _ (.inl q)⟩
  refine codeAny_call_function hr.depth (KX _ _ lk) rfl S.co S.gen rfl (PySem.W.codeRec_of KX hcd) (hb _ _ _ _ (wpAny_newFunctionEnv_cells S.kind hkind fun env he s1 x => ?_))
  subst he
  refine ⟨lim.keeps x.toInCall.keep, codeAny_func ?_⟩
  obtain ⟨t, ht, hq⟩ := hbody cdv A outer s H vs Q E hgd (hr.deeper _) hsp
  have I : Inv (cxOf CX0 P w K mg base N qual (defScope st) f cdv A outer s H E) [] (start N vs) H s1 := inv_start S hr.hd e0 hl r x
  refine wpAny_mono (ht.nox.run [] s1 (start N vs) H _ I hq) (fun fl s' hs => ?_) fun e s' hs => hs
  have fin : ∀ {σ' : L2.St} {H' : Hp} {v : V} {u : Value}, Inv (cxOf CX0 P w K mg base N qual (defScope st) f cdv A outer s H E) [] σ' H' s' → RelV v u → Q v H' → CE outer P w H s Q u s' := fun {σ' H' v u} J rv q =>
    ⟨v, H', J.os, J.bare, J.base, J.hok, rv, q⟩
  cases fl with
  | ret u => obtain ⟨v, σ', H', J, rv, q⟩ := hs; exact fin J rv q
  | next => obtain ⟨σ', H', J, q⟩ := hs; exact fin (v := V.non) (u := Value.none) J rfl q
  | brk => obtain ⟨_, _, _, q⟩ := hs; exact False.elim q
  | cont => obtain ⟨_, _, _, q⟩ := hs; exact False.elim q
theorem FnG.of {k : Nat} {f : Addr} {fd : FuncData} {ps : List Str} {sp : Sp} (F : FnOk P w K mg base CX0 k f fd ps sp) : FnG P w K mg base k f fd ps sp :=
  ⟨F.len, fun A outer s H args us vs Q E _ hr e0 hb r h => F.run A outer s H args us vs Q E hr e0 hb r h⟩
end
section
variable {X : Cx} {k : Nat} {f C : Addr} {fd : FuncData} {ps ks : List Str} {sp : Sp} {x m : Str} {p pos apos : Pos} {e o : Expr} {es : List Expr} {ta : TE} {t tk : TA} {kws : List Keyword}
/-- f(e, ..) of such a def -/
theorem pe_callG (hG : X.A.guards = some []) (F : FnG X.prog X.w X.K X.mg X.base k f fd ps sp) (hr : Room k X.A) (hg : Gl X x) (hm : X.mg x = some (.ref f)) (hk : PySem.W.keepIn X.K (.ref f) = true) (hb : Binds X.K fd ps [])
    (ha : PA X (e :: es) t) (hdb : (x == ("__debug__" : Str)) = false := by decide) (he : starEach (e :: es) X.env = (false, eval e X.env) :: starEach es X.env := by rfl)
    (hpl : (backTo pos (starEach es X.env)).any (·.1) = false := by rfl) : PE X (.Call (.Name x p) (e :: es) [] pos) (tCall sp [] E0 t) := by
  refine ⟨fun pins s σ H Q I h => wpAny_Call_Name_kw (ld_glob I hg hm ?_ hdb)⟩
  refine PySem.W.callWith_K (h₀ := X.base) I.ok.mod.kin hk (thn (ha.run pos pins s σ H _ I h) fun us s1 ⟨vs, H1, I1, r, q⟩ => ⟨I1.kIn, ?_⟩) he hpl
  have q' : sp vs H1 Q E0 := by have q2 : sp (vs ++ []) H1 Q E0 := q; rwa [List.append_nil] at q2
  have hl : us.length = ps.length := by rw [← r.length]; exact F.len _ _ _ _ q'
  have hb' : BindsTo s1 fd ⟨us, []⟩ (ps.zip us) := by have b2 := hb s1 us I1.kIn (by rw [List.append_nil]; exact hl); rwa [List.append_nil] at b2
  refine wpAny_call (codeAny_mono (F.run X.A X.stack s1 H1 ⟨us, []⟩ us vs Q E0 hG hr I1.env0 hb' r q') fun r s' hq => ?_)
  cases r with
  | error e => exact False.elim hq
  | ok fl =>
    cases fl with
    | ret u => exact I1.after hq
    | next => exact False.elim hq
    | brk => exact False.elim hq
    | cont => exact False.elim hq
variable {CX : CXT} {E : XK} {g : List Value → List Value → List Value} {gV : List V → List V → List V}
/-- f(k = v, ..), no argument by place -/
theorem pe_callK0 (F : FnOk X.prog X.w X.K X.mg X.base CX k f fd ps sp) (hr : Room k X.A) (hg : Gl X x) (hm : X.mg x = some (.ref f)) (hk : PySem.W.keepIn X.K (.ref f) = true) (hb : KBinds X.K fd ps ks g gV) (hx : Passes CX X E)
    (hkw : PK X kws tk) (hall : (backToKw pos (keywordEach kws X.env)).all (·.1.isSome) = true := by rfl) (hks : (backToKw pos (keywordEach kws X.env)).filterMap (·.1) = ks := by rfl)
    (hdb : (x == ("__debug__" : Str)) = false := by decide)
    (hpl : ((backTo pos (starEach [] X.env)).any (·.1) || (backToKw pos (keywordEach kws X.env)).any (·.1.isNone)) = false := by rfl) :
    PE X (.Call (.Name x p) [] kws pos) (fun σ H Q => tk σ H fun zs H2 => sp (gV [] zs) H2 Q E) := by
  refine ⟨fun pins s σ H Q I h => wpAny_Call_Name_kw (ld_glob I hg hm ?_ hdb)⟩
  refine PySem.W.callWith_KW0 (h₀ := X.base) I.ok.mod.kin hk hall (thn (hkw.run pos pins s σ H _ I h) fun ws s2 ⟨zs, H2, I2, rz, q2⟩ => ⟨I2.kIn, ?_⟩) hpl
  rw [hks]
  exact run_fnk F hr hb hx I2 .nil rz q2
end
/-! ### the head -/
theorem law_callG {P : Program} {w : World} {K : PySem.W.Frag} {mg mb : Str → Option Value} {k : Nat} {fa a : Addr} {fd : FuncData} {x : Str} {sp : Sp} {s₁ : Shared} {vs : List Value} {ns : List Int}
    (KX : K.In s₁.heap) (hns : s₁.heap.Ns mainGlobals mg) (hb : s₁.heap.Ns builtinsNs mb) (hbb : ∀ x : Str, x ≠ "__name__" → mb x = bootBuiltins x) (hlim : s₁.heap.NoLimit) (hg : s₁.gens = #[])
    (ha : s₁.heap.get? a = some { cls := .type "list", data := .seq vs.toArray }) (hi : IntsAre vs ns) (hl : ns.length ≤ sizeLine) (hr : Room k callerA)
    (F : ∀ base : Heap, K.In base → base.Ns mainGlobals mg → FnG P w K mg base k fa fd [x] sp) (hbind : ∀ (s : Shared) (u : Value), BindsTo s fd ⟨[u], []⟩ [(x, u)])
    (hsp : ∀ H : Hp, Only H → SqL K H a (ns.map V.int) → sp [.ref a] H (fun v _ => v = .bl true) fun _ _ _ => False) :
    codeAny (model P w) callerA (.call (.ref fa) ⟨[.ref a], []⟩) (fun r s' => r = .ok (.ret (.bool true)) ∧ OldK s₁.heap s'.heap ∧ s'.os = s₁.os ∧ AllBare s'.gens) s₁ := by
  have rv := vals_ints hi; have lenV := hi.length
  have core : ∀ H : Hp, Only H → SqL K H a (ns.map V.int) → HOk P w H s₁.heap → (∀ b, H b ≠ none → b = a) → (H a ≠ none → K.lookup a = none) → codeAny (model P w) callerA (.call (.ref fa) ⟨[.ref a], []⟩)
      (fun r s' => r = .ok (.ret (.bool true)) ∧ OldK s₁.heap s'.heap ∧ s'.os = s₁.os ∧ AllBare s'.gens) s₁ := by
    intro H hO hS hok hA hK
    have noA : ∀ {b : Addr} {o : Obj} {es : Array DictEntry} {ep : Nat}, s₁.heap.get? b = some o → o.data = .dict es ep → H b = none := by
      intro b o es ep e d
      cases q : H b with
      | none => rfl
      | some u =>
        have e' : b = a := hA b (by rw [q]; simp)
        subst e'; rw [ha] at e; cases e
        exact absurd (show Data.seq vs.toArray _ = Data.dict es ep from d) (by simp)
    have nsK : ∀ {b : Addr} {m : Str → Option Value}, s₁.heap.Ns b m → (hidT s₁.heap H).Ns b m := by
      intro b m hm
      obtain ⟨o, es, ep, e, d, r⟩ := hm
      exact ⟨o, es, ep, hidT_get e (noA e d), d, r⟩
    have hKb : K.In (hidT s₁.heap H) := by
      intro b o e
      refine hidT_get (KX b o e) ?_
      cases q : H b with
      | none => rfl
      | some u =>
        have e' : b = a := hA b (by rw [q]; simp)
        subst e'; rw [hK (by rw [q]; simp)] at e; cases e
    have hM : Mod K mg (hidT s₁.heap H) := by
      obtain ⟨mc, c1, c2⟩ := hlim
      exact ⟨hKb, nsK hns, ⟨mb, nsK hb, hbb⟩, ⟨mc, nsK c1, c2⟩⟩
    have e0 : Env0 P w K mg (hidT s₁.heap H) callerA [] s₁ H := by
      refine ⟨rfl, hM, fun b o e => of_hidT e, Nat.le_of_eq (hidT_size _ _), trivial, fun b hb => ?_, hok, .of_eq hg⟩
      exact absurd (show b ∈ ([] : List Addr) from hb) (by simp)
    refine codeAny_mono ((F _ hKb (nsK hns)).run callerA [] s₁ H ⟨[.ref a], []⟩ [.ref a] [.ref a] _ _ rfl hr e0 (hbind s₁ (.ref a)) (.cons rfl .nil) (hsp H hO hS)) fun r s' h => ?_
    cases r with
    | error e => exact False.elim h
    | ok fl =>
      cases fl with
      | next => exact False.elim h
      | brk => exact False.elim h
      | cont => exact False.elim h
      | ret u =>
        obtain ⟨v, H', os, bare, un, hok', r', q⟩ := h
        have q' : v = .bl true := q
        subst q'
        obtain rfl : u = Value.bool true := r'
        refine ⟨rfl, OldK.of_keep fun b o e => ?_, os, bare⟩
        cases q : H b with
        | none => exact un.keep b o e q (by intro z; exact absurd (show b ∈ ([] : List Addr) from z) (by simp)) (by simp)
        | some u =>
          rcases hO b with z | ⟨ob, xs, z⟩
          · rw [q] at z; cases z
          · have z2 := un.frzs b ob _ z
            obtain ⟨e1, _⟩ := hok b _ z; obtain ⟨e2, _⟩ := hok' b _ z2
            rw [e] at e1; cases e1; exact e2
  cases hk : K.lookup a with
  | some o =>
    have e := KX a o hk
    rw [ha] at e; cases e
    refine core (fun _ => none) (fun _ => .inl rfl) ?_ (fun b u z => nomatch z) (fun b z => absurd rfl z) fun z => absurd rfl z
    exact .inr ⟨_, vs.toArray, _, hk, rfl, rfl, rfl, by rw [List.size_toArray, lenV]; exact hl, by simpa using rv⟩
  | none =>
    refine core (fun b => if b = a then some (.frz { cls := .type "list", data := .seq vs.toArray } (.lst (ns.map V.int))) else none) (fun b => ?_) (.inl (.inr ⟨_, if_pos rfl⟩)) (fun b u z => ?_) (fun b z => ?_) fun _ => hk
    · by_cases hb : b = a
      · exact .inr ⟨_, _, if_pos hb⟩
      · exact .inl (if_neg hb)
    · by_cases hb : b = a
      · have z' := (if_pos hb).symm.trans z
        cases z'; subst hb
        exact ⟨ha, by rw [List.length_map]; exact hl, vs, _, rv, ha⟩
      · have z' := (if_neg hb).symm.trans z
        cases z'
    · by_cases hb : b = a
      · exact hb
      · exact absurd (if_neg hb) z
theorem walkG {l : PySem.W.OpenLaw} {n k : Nat} {q : Program} {loose : List Str} {XP : (Str → Option Value) → Heap → Prop} {YP : World → Heap → Prop} {d : DefRec} {K : Params → PySem.W.Frag} {sp : PySem.W.Frag → Sp} {x : Str}
    (hn : l.most = some n) (hn2 : n ≤ sizeLine) (hdf : d.params.defaults = []) (hr : Room k callerA) (hY : ∀ (w : World) (h : Heap), YP w h → (K w.params).In h)
    (F : ∀ (w : World) (mg : Str → Option Value) (fa : Addr) (h : Heap), (K w.params).In h → h.Ns mainGlobals mg → mg d.name = some (.ref fa) →
      ∃ fd : FuncData, (∀ (s : Shared) (u : Value), BindsTo s fd ⟨[u], []⟩ [(x, u)]) ∧ ∀ base : Heap, (K w.params).In base → base.Ns mainGlobals mg → FnG l.prog w (K w.params) mg base k fa fd [x] (sp (K w.params)))
    (hsp : ∀ (K : PySem.W.Frag) (H : Hp) (a : Addr) (ns : List Int), ns.length ≤ n → Only H → SqL K H a (ns.map V.int) → sp K [.ref a] H (fun v _ => v = .bl true) fun _ _ _ => False) :
    PySem.W.WalkO q loose XP YP l.row.toRowW d [] (fun f vs => PySem.call f vs) := by
  refine Att.attach_call hn hdf fun w s₀ s₁ mg mb fa o pm cd doc a vs ns G Y ho hd hcd hmg hobj hints hlen hg => ?_
  have KX := hY w _ Y
  obtain ⟨fd, hb, hF⟩ := F w mg fa _ KX G.T.g hmg
  exact law_callG KX G.T.g G.T.b G.T.builtins G.T.nolimit hg hobj hints (Nat.le_trans hlen hn2) hr hF hb fun H hO hS => hsp (K w.params) H a ns hlen hO hS
/-! ### repr of data -/
def tRep (K : PySem.W.Frag) (te : TE) : TE := fun σ H Q => te σ H fun x H1 => ∃ a d, x = .ref a ∧ Dp K H1 x d ∧ d.showable = true ∧ d.hasDict = false ∧ d.depth ≤ 50 ∧ d.shown.length ≤ sizeLine ∧ Q (.str d.shown) H1
theorem pe_rep {X : Cx} {k : Nat} {e : Expr} {te : TE} {p pos : Pos} (hG : X.A.guards = some []) (hr : Room k X.A) (hg : Gl X "repr") (hm : X.mg "repr" = none) (hb : bootBuiltins "repr" = some (.builtin "repr")) (ha : PE X e te)
    (he : starEach [e] X.env = (false, eval e X.env) :: starEach [] X.env := by rfl) : PE X (.Call (.Name "repr" p) [e] [] pos) (tRep X.K te) := by
  refine ⟨fun pins s σ H Q I h => wpAny_Call_Name_kw (ld_blt I hg hm hb ?_)⟩
  refine PyProof.Rows.callWith_builtin1 (args_cons (thn (ha.run pins s σ H _ I h) fun u s1 ⟨v, H1, I1, r1, q1⟩ => args_nil ?_) he) he rfl
  obtain ⟨a, d, ex, hd, hs, hno, hdp, hz, q⟩ := q1
  subst ex
  obtain ⟨as, rd⟩ := Dp.reads I1 d _ u hd r1
  cases (show u = Value.ref a from r1)
  have hu := hr.un
  refine repr_of_reads' rd hs (fun z => absurd z (by rw [hno]; decide)) hG (by omega) (fun b o e => e) (fun h' u tk hk => ?_) hz
  exact ⟨.str d.shown, H1, I1.kept hk, ⟨_, rfl⟩, q⟩
end XL
namespace XL
open PySem PySem.Spec PyProof.Rows L2
def topS (i : Nat) : Stmt := PySem.Challenge.pw_crosslocks_k86_whole_one_water_gone_thro.main.body.getD i (.Pass ⟨0, 0, 0, 0⟩)
abbrev sTake : Stmt := topS 29
abbrev sOf : Stmt := topS 31
theorem atI_int {α : Type} {xs : List α} {i : Int} {v : α} (h0 : 0 ≤ i) (h : xs[i.toNat]? = some v) : atI xs i = some v := by
  have q := atI_nat h
  rwa [show ((i.toNat : Nat) : Int) = i by omega] at q
/-! ### the box: a list of three numbers -/
def Bx (H : Hp) (b : Addr) : Prop := ∃ x y z : Int, H b = some (.lst [.int x, .int y, .int z])
/-- all that was tracked but the box is as it was, the box is a box -/
structure Dr (b : Addr) (H H' : Hp) : Prop where
  box : Bx H' b
  same : ∀ a o, a ≠ b → H a = some o → H' a = some o
theorem Dr.refl {b : Addr} {H : Hp} (h : Bx H b) : Dr b H H := ⟨h, fun _ _ _ e => e⟩
theorem Dr.trans {b : Addr} {H H1 H2 : Hp} (p : Dr b H H1) (q : Dr b H1 H2) : Dr b H H2 := ⟨q.box, fun a o n e => q.same a o n (p.same a o n e)⟩
theorem Dr.new {b p : Addr} {H : Hp} {o : HO} (h : Bx H b) (n : H p = none) : Dr b H (upd H p o) := by
  obtain ⟨x, y, z, e⟩ := h
  exact ⟨⟨x, y, z, same_new n b _ e⟩, fun a o _ e => same_new n a o e⟩
theorem Dr.put {b : Addr} {H : Hp} {x y z : Int} : Dr b H (upd H b (.lst [.int x, .int y, .int z])) := ⟨⟨x, y, z, upd_same⟩, fun a o n e => by rw [upd_ne n]; exact e⟩
theorem Dr.of {b : Addr} {H H' : Hp} (h : Bx H b) (s : Same H H') : Dr b H H' := by
  obtain ⟨x, y, z, e⟩ := h
  exact ⟨⟨x, y, z, s _ _ e⟩, fun a o _ e => s a o e⟩
section
variable {P : Program} {w : World} {K : PySem.W.Frag} {mg : Str → Option Value} {base : Heap}
/-! ### _law_take -/
theorem scTake : FnScope ["_law_box_here", "_law_size", "_law_found", "_law_blend"] ["_law_box_here", "_law_size"] (defScope sTake) := ⟨rfl, rfl, rfl, by decide +kernel, rfl, by decide +kernel, by decide +kernel⟩
def spTake : Sp := fun vs H Q _ => ∃ (b : Addr) (n : Int), vs = [.ref b, .int n] ∧ Bx H b ∧ 0 < n ∧ n < 10000000000000 ∧ ∀ (v : Int) (H' : Hp), 0 ≤ v → v < n → Dr b H H' → Q (.int v) H'
theorem fmod_lt {a n : Int} (h : 0 < n) : 0 ≤ a.fmod n ∧ a.fmod n < n := by
  rw [Int.fmod_eq_emod_of_nonneg _ (Int.le_of_lt h)]
  exact ⟨Int.emod_nonneg _ (by omega), Int.emod_lt_of_pos _ h⟩
theorem div_log {n : Int} (h0 : 0 < n) (h1 : n < 10000000000000) : n.natAbs.log2 < 9000 := by
  have : n.natAbs.log2 < 44 := (Nat.log2_lt (by omega)).mpr (Nat.lt_trans (m := 10000000000000) (by omega) (by decide))
  omega
theorem ok_take {f : Addr} {fd : FuncData} {k : Nat} (F : Fun K "_law_take" "_law_take" sTake f fd) : FnOk P w K mg base CX0 (k + 1) f fd ["_law_box_here", "_law_size"] spTake := by
  refine F.ok scTake (fun vs H Q E h => ?_) (fun cdv A outer s H vs Q E hr h => ?_)
  · obtain ⟨b, n, rfl, _⟩ := h
    rfl
  obtain ⟨b, n, rfl, ⟨x, y, z, eb⟩, h0, h1, q⟩ := h
  refine ⟨_, pss_cons (ps_if (pt_cmpR op_gt (pe_ix ix_list (pv 0) pe_int (fun _ _ => rfl)) pe_int (nomark _))
      (pss_cons (ps_set (i := 2) scTake.nd rfl (.inl rfl) (pe_op op_modN (pe_ix ix_list (pv 0) pe_int (fun _ _ => rfl)) (pv 1)))
      (pss_cons (ps_asg (pe_op op_fdivW (pe_ix ix_list (pv 0) pe_int (fun _ _ => rfl)) (pv 1)) (pg_sub (pv 0) pe_int set_list))
      (pss_one (ps_ret (pv 2))))) pss_nil)
    (pss_cons (ps_asg (pe_op op_add (pe_ix ix_list (pv 0) pe_int (fun _ _ => rfl)) pe_int) (pg_sub (pv 0) pe_int set_list))
    (pss_cons (ps_set (i := 3) scTake.nd rfl (.inl rfl) (pe_op op_modN (pe_op op_add (pe_ix ix_list (pv 0) pe_int (fun _ _ => rfl)) (pe_op op_mul pe_int (pe_ix ix_list (pv 0) pe_int (fun _ _ => rfl)))) pe_int))
    (pss_cons (ps_set (i := 3) scTake.nd rfl (.inl rfl) (pe_op op_modN (pe_op op_add (pe_op op_add (pe_op op_mul (pv 3) (pv 3)) (pe_op op_mul pe_int (pe_ix ix_list (pv 0) pe_int (fun _ _ => rfl)))) pe_int) pe_int))
    (pss_cons (ps_set (i := 3) scTake.nd rfl (.inl rfl) (pe_op op_modN (pe_op op_add (pe_op op_mul (pv 3) (pe_op op_add (pe_op op_fdivN (pv 3) pe_int) pe_int)) (pe_ix ix_list (pv 0) pe_int (fun _ _ => rfl))) pe_int))
    (pss_one (ps_ret (pe_op op_modN (pe_op op_fdivN (pv 3) pe_int) (pv 1)))))))), ?_⟩
  have sq : SqL K H b [.int x, .int y, .int z] := SqL.of eb
  -- box[0] > 0
  refine ⟨_, rfl, b, _, _, _, rfl, rfl, sq, rfl, _, _, rfl, rfl, _, rfl, ite2 (fun c => ?_) (fun c => ?_)⟩
  · refine ⟨_, rfl, b, _, _, _, rfl, rfl, sq, rfl, _, rfl, _, _, rfl, rfl, by omega, ?_⟩
    refine ⟨_, rfl, b, _, _, _, rfl, rfl, sq, rfl, _, rfl, _, _, rfl, rfl, ⟨h0, div_log h0 h1⟩, ?_⟩
    refine ⟨_, rfl, b, _, _, 0, rfl, rfl, eb, rfl, ?_⟩
    refine ⟨_, rfl, ?_⟩
    exact q _ _ (fmod_lt h0).1 (fmod_lt h0).2 Dr.put
  · refine ⟨_, rfl, b, _, _, _, rfl, rfl, sq, rfl, _, _, rfl, rfl, ?_⟩
    refine ⟨_, rfl, b, _, _, 2, rfl, rfl, eb, rfl, ?_⟩
    have sq2 : SqL K (upd H b (.lst [.int x, .int y, .int (z + 1)])) b [.int x, .int y, .int (z + 1)] := SqL.of upd_same
    refine ⟨_, rfl, b, _, _, _, rfl, rfl, sq2, rfl, _, rfl, b, _, _, _, rfl, rfl, sq2, rfl, _, _, rfl, rfl, .inl ⟨by decide, by decide⟩, _, _, rfl, rfl, _, _, rfl, rfl, (by show (2305843009213693951 : Int) ≠ 0; decide), ?_⟩
    have m1 := fmod_lt (a := y + 1442695040888963407 * (z + 1)) (n := 2305843009213693951) (by decide)
    refine ⟨_, rfl, _, rfl, _, _, rfl, rfl, .inl ⟨by omega, by omega⟩, _, rfl, b, _, _, _, rfl, rfl, sq2, rfl, _, _, rfl, rfl, .inl ⟨by decide, by decide⟩, _, _, rfl, rfl, _, _, rfl, rfl, _, _, rfl, rfl, (by show (2305843009213693921 : Int) ≠ 0; decide), ?_⟩
    have m2 := fmod_lt (a := (y + 1442695040888963407 * (z + 1)).fmod 2305843009213693951 * (y + 1442695040888963407 * (z + 1)).fmod 2305843009213693951 + 39373 * (z + 1) + 7) (n := 2305843009213693921) (by decide)
    refine ⟨_, rfl, _, rfl, _, _, rfl, rfl, ⟨by decide, by decide⟩, _, _, rfl, rfl, _, _, rfl, rfl, .inl ⟨by omega, by omega⟩, _, rfl, b, _, _, _, rfl, rfl, sq2, rfl, _, _, rfl, rfl, _, _, rfl, rfl, (by show (2305843009213693907 : Int) ≠ 0; decide), ?_⟩
    refine ⟨_, rfl, _, _, rfl, rfl, ⟨by decide, by decide⟩, _, rfl, _, _, rfl, rfl, by omega, ?_⟩
    exact q _ _ (fmod_lt h0).1 (fmod_lt h0).2 Dr.put
/-! ### _law_of -/
theorem scOf : FnScope ["_law_box_here", "_law_some"] ["_law_box_here", "_law_some"] (defScope sOf) := ⟨rfl, rfl, rfl, by decide +kernel, rfl, by decide +kernel, by decide +kernel⟩
def spOf (K : PySem.W.Frag) : Sp := fun vs H Q _ => ∃ (b l : Addr) (xs : List V), vs = [.ref b, .ref l] ∧ Bx H b ∧ l ≠ b ∧ SqL K H l xs ∧ xs ≠ [] ∧ xs.length < 1000 ∧ ∀ (j : Nat) (v : V) (H' : Hp), xs[j]? = some v → Dr b H H' → Q v H'
theorem Dr.sqL {b a : Addr} {H H' : Hp} {xs : List V} (d : Dr b H H') (n : a ≠ b) (h : SqL K H a xs) : SqL K H' a xs := by
  rcases h with (h | ⟨o, h⟩) | h
  · exact .inl (.inl (d.same _ _ n h))
  · exact .inl (.inr ⟨o, d.same _ _ n h⟩)
  · exact .inr h
theorem Dr.sqT {b a : Addr} {H H' : Hp} {xs : List V} (d : Dr b H H') (n : a ≠ b) (h : SqT K H a xs) : SqT K H' a xs := by
  rcases h with (h | ⟨o, h⟩) | h
  · exact .inl (.inl (d.same _ _ n h))
  · exact .inl (.inr ⟨o, d.same _ _ n h⟩)
  · exact .inr h
theorem ok_of {f ft : Addr} {fd fdt : FuncData} {k : Nat} (F : Fun K "_law_of" "_law_of" sOf f fd) (FT : Fun K "_law_take" "_law_take" sTake ft fdt) (bT : Binds K fdt ["_law_box_here", "_law_size"] []) (gT : mg "_law_take" = some (.ref ft)) (ml : mg "len" = none) :
    FnOk P w K mg base CX0 (k + 1 + 1) f fd ["_law_box_here", "_law_some"] (spOf K) := by
  refine F.ok scOf (fun vs H Q E h => ?_) (fun cdv A outer s H vs Q E hr h => ?_)
  · obtain ⟨b, l, xs, rfl, _⟩ := h
    rfl
  obtain ⟨b, l, xs, rfl, hb, hlb, hl, hne, hz, q⟩ := h
  refine ⟨_, pss_one (ps_ret (pe_ix ix_list (pv 1) (pe_call (ok_take (k := k) FT) hr rfl gT FT.kp bT .nil pass0 (pa_cons (pv 0) (pa_cons (pe_callB call_len_seq rfl ml PySem.boot_len (pa_cons (pv 1) pa_nil)) pa_nil))) (fun _ _ => rfl))), ?_⟩
  have hpos : 0 < xs.length := List.length_pos_iff.mpr hne
  refine ⟨_, rfl, _, rfl, _, rfl, l, xs, rfl, .inl hl, b, _, rfl, hb, by omega, by omega, fun v H' v0 v1 d => ?_⟩
  have hj : v.toNat < xs.length := by omega
  have ha : atI xs v = some xs[v.toNat] := atI_int v0 (List.getElem?_eq_getElem hj)
  refine ⟨l, xs, v, _, rfl, rfl, d.sqL hlb hl, ha, ?_⟩
  exact q v.toNat _ _ (List.getElem?_eq_getElem hj) d
end
end XL
namespace XL
open PySem PySem.Spec PyProof.Rows L2
section
variable {K : PySem.W.Frag} {H H' : Hp}
/-! ### data stays -/
mutual
theorem Dp.same (s : Same H H') : ∀ {v : V} (d : PyData), Dp K H v d → Dp K H' v d
  | _, .none, h => by cases h; exact .non
  | _, .bool b, h => by cases h; exact .bl b
  | _, .int i, h => by cases h; exact .int i
  | _, .str x, h => by cases h; exact .str x
  | _, .list ds, h => by
    cases h with
    | lst hs ha => exact .lst (s.seq hs) (DpAll.same s ds ha)
  | _, .tuple ds, h => by
    cases h with
    | tup hs ha => exact .tup (Same.tup s hs) (DpAll.same s ds ha)
  | _, .dict _, h => by cases h
theorem DpAll.same (s : Same H H') : ∀ {vs : List V} (ds : List PyData), DpAll K H vs ds → DpAll K H' vs ds
  | _, [], h => by cases h; exact .nil
  | _, d :: ds, h => by
    cases h with
    | cons h1 h2 => exact .cons (Dp.same s d h1) (DpAll.same s ds h2)
end
theorem DpAll.length : ∀ {vs : List V} {ds : List PyData}, DpAll K H vs ds → vs.length = ds.length
  | _, _, .nil => rfl
  | _, _, .cons _ h => by rw [List.length_cons, List.length_cons, DpAll.length h]
theorem DpAll.get : ∀ {vs : List V} {ds : List PyData} {i : Nat} {v : V}, DpAll K H vs ds → vs[i]? = some v → ∃ d, ds[i]? = some d ∧ Dp K H v d
  | _, _, i, v, .nil, h => by simp at h
  | _, _, 0, v, .cons a _, h => by cases h; exact ⟨_, rfl, a⟩
  | _, _, i + 1, v, .cons _ r, h => DpAll.get r (i := i) h
theorem DpAll.get' : ∀ {vs : List V} {ds : List PyData} {i : Nat} {d : PyData}, DpAll K H vs ds → ds[i]? = some d → ∃ v, vs[i]? = some v ∧ Dp K H v d
  | _, _, i, v, .nil, h => by simp at h
  | _, _, 0, v, .cons a _, h => by cases h; exact ⟨_, rfl, a⟩
  | _, _, i + 1, v, .cons _ r, h => DpAll.get' r (i := i) h
theorem DpAll.app : ∀ {vs ws : List V} {ds es : List PyData}, DpAll K H vs ds → DpAll K H ws es → DpAll K H (vs ++ ws) (ds ++ es)
  | _, _, _, _, .nil, h => h
  | _, _, _, _, .cons a r, h => .cons a (DpAll.app r h)
theorem DpAll.snoc {vs : List V} {v : V} {ds : List PyData} {d : PyData} (a : DpAll K H vs ds) (h : Dp K H v d) : DpAll K H (vs ++ [v]) (ds ++ [d]) := DpAll.app a (.cons h .nil)
/-! ### kinds -/
def isSeq : PyData → Bool
  | .list _ => true
  | .tuple _ => true
  | _ => false
def tyD : PyData → Value
  | .none => .type "NoneType"
  | .bool _ => .type "bool"
  | .int _ => .type "int"
  | .str _ => .type "str"
  | .list _ => .type "list"
  | .tuple _ => .type "tuple"
  | .dict _ => .type "dict"
theorem tyx_of {v : V} {d : PyData} (h : Dp K H v d) : TyX K H v (tyD d) := by
  cases h with
  | non => exact .base .non
  | bl b => exact .base (.bl b)
  | int i => exact .base (.int i)
  | str x => exact .base (.str x)
  | lst hs _ =>
    rcases hs with (hs | ⟨o, hs⟩) | ⟨o, its, n, hk, hc, _⟩
    · exact .base (.lst hs)
    · exact .base (.frz hs)
    · exact .kList hk hc
  | tup hs _ =>
    rcases hs with (hs | ⟨o, hs⟩) | ⟨o, its, n, hk, hc, _⟩
    · exact .base (.tup hs)
    · exact .fTuple hs
    · exact .kTuple hk hc
theorem kit1 {t : String} {u : String} {b : Bool} (h : kitB t u = some b) : PySem.W.kitOne K (.type t) (.type u) = some b := kit_ty h
theorem kit2 {t u v : String} {a b : Bool} (h : kitB t u = some a) (h2 : kitB t v = some b) : PySem.W.kitAny K (.type t) [.type u, .type v] = some (a || b) := by
  refine kitAny_cons (kit_ty h) (fun e => ?_) (fun e => ?_)
  · subst e
    refine kitAny_cons (kit_ty h2) (fun e => ?_) (fun e => ?_)
    · subst e; rfl
    · subst e; rfl
  · subst e; rfl
theorem seq_kit (d : PyData) (h : ∀ kvs, d ≠ .dict kvs) : PySem.W.kitAny K (tyD d) [.type "list", .type "tuple"] = some (isSeq d) := by
  cases d with
  | none => exact kit2 (a := false) (b := false) (by decide +kernel) (by decide +kernel)
  | bool b => exact kit2 (a := false) (b := false) (by decide +kernel) (by decide +kernel)
  | int i => exact kit2 (a := false) (b := false) (by decide +kernel) (by decide +kernel)
  | str x => exact kit2 (a := false) (b := false) (by decide +kernel) (by decide +kernel)
  | list ds => exact kit2 (a := true) (b := false) (by decide +kernel) (by decide +kernel)
  | tuple ds => exact kit2 (a := false) (b := true) (by decide +kernel) (by decide +kernel)
  | dict kvs => exact absurd rfl (h kvs)
theorem Dp.nodict {v : V} {d : PyData} (h : Dp K H v d) : ∀ kvs, d ≠ .dict kvs := fun kvs e => by subst e; cases h
end
/-! ### data of bounded depth and width -/
def okD : Nat → PyData → Prop
  | 0, _ => False
  | n + 1, .list ds => ds.length ≤ 1000 ∧ ∀ d ∈ ds, okD n d
  | n + 1, .tuple ds => ds.length ≤ 1000 ∧ ∀ d ∈ ds, okD n d
  | _ + 1, _ => True
mutual
/-- lists as tuples -/
def tupD : PyData → PyData
  | .list ds => .tuple (tupDs ds)
  | .tuple ds => .tuple (tupDs ds)
  | .none => .none
  | .bool b => .bool b
  | .int i => .int i
  | .str x => .str x
  | .dict k => .dict k
def tupDs : List PyData → List PyData
  | [] => []
  | d :: ds => tupD d :: tupDs ds
end
mutual
/-- tuples as lists -/
def lstD : PyData → PyData
  | .list ds => .list (lstDs ds)
  | .tuple ds => .list (lstDs ds)
  | .none => .none
  | .bool b => .bool b
  | .int i => .int i
  | .str x => .str x
  | .dict k => .dict k
def lstDs : List PyData → List PyData
  | [] => []
  | d :: ds => lstD d :: lstDs ds
end
theorem tupDs_eq : ∀ ds : List PyData, tupDs ds = ds.map tupD
  | [] => rfl
  | d :: ds => by rw [tupDs, tupDs_eq ds]; rfl
theorem lstDs_eq : ∀ ds : List PyData, lstDs ds = ds.map lstD
  | [] => rfl
  | d :: ds => by rw [lstDs, lstDs_eq ds]; rfl
def itemsD : PyData → List PyData
  | .list ds => ds
  | .tuple ds => ds
  | _ => []
theorem seq_of {K : PySem.W.Frag} {H : Hp} {v : V} {d : PyData} (h : Dp K H v d) (hs : isSeq d = true) : ∃ a xs, v = .ref a ∧ Sq2 K H a xs ∧ DpAll K H xs (itemsD d) := by
  cases h with
  | lst h1 h2 => exact ⟨_, _, rfl, .inl h1, h2⟩
  | tup h1 h2 => exact ⟨_, _, rfl, .inr h1, h2⟩
  | _ => simp [isSeq] at hs
theorem okD_items {n : Nat} {d : PyData} (h : okD (n + 1) d) (hs : isSeq d = true) : (∀ e ∈ itemsD d, okD n e) ∧ (itemsD d).length ≤ 1000 := by
  cases d with
  | list ds => exact ⟨h.2, h.1⟩
  | tuple ds => exact ⟨h.2, h.1⟩
  | _ => simp [isSeq] at hs
theorem small {n : Nat} (h : n ≤ 1000) : n ≤ sizeLine := Nat.le_of_lt (small1000 h)
end XL
namespace XL
open PySem PySem.Spec PyProof.Rows L2
/-! ### a list that is hidden while an expression is evaluated -/
theorem same_delH {H : Hp} {D : Addr} {o : HO} : Same (delH H D) (upd H D o) := fun b x e => by
  by_cases hb : b = D
  · rw [hb, delH_same] at e; cases e
  · rw [delH_ne hb] at e; rw [upd_ne hb]; exact e
theorem delH_none {H : Hp} {D : Addr} (h : H D = none) : delH H D = H := by
  funext b
  by_cases hb : b = D
  · rw [hb, delH_same, h]
  · rw [delH_ne hb]
theorem delH_upd {H : Hp} {D : Addr} {o : HO} (h : H D = none) : delH (upd H D o) D = H := delH_new h
theorem upd_upd {H : Hp} {D : Addr} {o o' : HO} : upd (upd H D o) D o' = upd H D o' := by
  funext b
  by_cases hb : b = D
  · rw [hb, upd_same, upd_same]
  · rw [upd_ne hb, upd_ne hb, upd_ne hb]
theorem upd_comm {H : Hp} {D T : Addr} {o o' : HO} (h : T ≠ D) : upd (upd H D o) T o' = upd (upd H T o') D o := by
  funext b
  by_cases hb : b = D
  · rw [hb, upd_same, upd_ne (fun e => h e.symm), upd_same]
  · by_cases hT : b = T
    · rw [hT, upd_same, upd_ne h, upd_same]
    · rw [upd_ne hT, upd_ne hb, upd_ne hb, upd_ne hT]
section
variable {X : Cx} {pins : List (Addr × Obj)} {σ : L2.St} {H : Hp} {s s' : Shared} {D : Addr} {xs : List V}
theorem Inv.hide (I : Inv X pins σ H s) (hD : H D = some (.lst xs)) : ∃ (its : List Value) (n : Nat), Vals xs its ∧ xs.length ≤ sizeLine ∧
    Inv X ((D, { cls := .type "list", dict := none, data := .seq its.toArray n, slots := #[] }) :: pins) σ (delH H D) s := by
  obtain ⟨hz, its, n, rv, ho⟩ := (show ObjOk X.prog X.w H s.heap D (.lst xs) from I.hok D _ hD)
  have ne : ∀ {b : Addr}, H b = none → b ≠ D := fun {b} h e => by rw [e, hD] at h; cases h
  have hN : ∀ {b : Addr}, H b = none → delH H D b = none := fun {b} h => by rw [delH_ne (ne h)]; exact h
  refine ⟨its, n, rv, hz, ⟨I.ok, I.os, I.bare, ⟨I.base.keep, I.base.slot, fun b o e n hx => hN (I.base.free b o e n hx), I.base.there, fun b ys e => ?_, fun b o u e => ?_, fun b ps e => ?_⟩, I.loc, I.cell, hN I.free, fun x c e => hN (I.freeC x c e), fun p hp => ?_, fun b o e => ?_, I.len⟩⟩
  · have q := I.base.tups b ys e
    rw [delH_ne (fun z => by rw [z, hD] at q; cases q)]; exact q
  · have q := I.base.frzs b o u e
    rw [delH_ne (fun z => by rw [z, hD] at q; cases q)]; exact q
  · obtain ⟨m, q⟩ := I.base.tbls b ps e
    exact ⟨m, by rw [delH_ne (fun z => by rw [z, hD] at q; cases q)]; exact q⟩
  · rcases List.mem_append.mp hp with hp | hp
    · obtain ⟨a1, a2, a3⟩ := I.pin p (List.mem_append_left _ hp)
      exact ⟨a1, hN a2, a3⟩
    · rcases List.mem_cons.mp hp with e | hp
      · subst e
        refine ⟨ho, delH_same, fun e => ?_, fun hf => ?_, fun v e => nomatch e⟩
        · have := I.free; rw [show X.env.locals = D from e.symm, hD] at this; cases this
        · obtain ⟨_, o, q, _⟩ := I.ok.funs.mem hf
          have := I.base.free D o q (I.ok.frf D hf) fun z => I.ok.exfs D z hf
          rw [hD] at this; cases this
      · obtain ⟨a1, a2, a3⟩ := I.pin p (List.mem_append_right _ hp)
        exact ⟨a1, hN a2, a3⟩
  · have hb : b ≠ D := fun z => by rw [z, delH_same] at e; cases e
    rw [delH_ne hb] at e
    refine (I.hok b o e).stay (fun c v _ q => q) (fun c q => ?_) fun c ys q => ?_
    · rw [delH_ne (fun z => by rw [z, hD] at q; cases q)]; exact q
    · rw [delH_ne (fun z => by rw [z, hD] at q; cases q)]; exact q
theorem Inv.unhide {H' : Hp} {its : List Value} {n : Nat} (I : Inv X pins σ H s) (hD : H D = some (.lst xs)) (rv : Vals xs its) (hz : xs.length ≤ sizeLine)
    (J : Inv X ((D, { cls := .type "list", dict := none, data := .seq its.toArray n, slots := #[] }) :: pins) σ H' s') : H' D = none ∧ Inv X pins σ (upd H' D (.lst xs)) s' := by
  obtain ⟨ho, hn, _, _, _⟩ := J.pin (D, _) (List.mem_append_right _ (List.mem_cons_self ..))
  have hn' : H' D = none := hn
  have ne : ∀ {b : Addr}, H b = none → b ≠ D := fun {b} h e => by rw [e, hD] at h; cases h
  refine ⟨hn', ⟨J.ok, J.os, J.bare, ⟨J.base.keep, J.base.slot, fun b o e n hx => ?_, J.base.there, fun b ys e => ?_, fun b o u e => ?_, fun b ps e => ?_⟩, J.loc, J.cell, ?_, fun x c e => ?_, fun p hp => ?_, fun b o e => ?_, J.len⟩⟩
  · rw [upd_ne (ne (I.base.free b o e n hx))]; exact J.base.free b o e n hx
  · have q := J.base.tups b ys e
    rw [upd_ne (fun z => by rw [z, hn'] at q; cases q)]; exact q
  · have q := J.base.frzs b o u e
    rw [upd_ne (fun z => by rw [z, hn'] at q; cases q)]; exact q
  · obtain ⟨m, q⟩ := J.base.tbls b ps e
    exact ⟨m, by rw [upd_ne (fun z => by rw [z, hn'] at q; cases q)]; exact q⟩
  · rw [upd_ne (ne I.free)]; exact J.free
  · rw [upd_ne (ne (I.freeC x c e))]; exact J.freeC x c e
  · obtain ⟨_, a0, _⟩ := I.pin p hp
    have hp' : p ∈ X.pn ++ ((D, ({ cls := .type "list", dict := none, data := .seq its.toArray n, slots := #[] } : Obj)) :: pins) := by
      rcases List.mem_append.mp hp with h | h
      · exact List.mem_append_left _ h
      · exact List.mem_append_right _ (List.mem_cons_of_mem _ h)
    obtain ⟨a1, a2, a3⟩ := J.pin p hp'
    exact ⟨a1, by rw [upd_ne (ne a0)]; exact a2, a3⟩
  · by_cases hb : b = D
    · subst hb
      rw [upd_same] at e
      cases e
      exact ⟨hz, its, n, rv, ho⟩
    · rw [upd_ne hb] at e
      refine (J.hok b o e).stay (fun c v _ q => q) (fun c q => ?_) fun c ys q => ?_
      · rw [upd_ne (fun z => by rw [z, hn'] at q; cases q)]; exact q
      · rw [upd_ne (fun z => by rw [z, hn'] at q; cases q)]; exact q
end
/-- e, evaluated while the list at D is hidden -/
def tHide (t : TE) : TE := fun σ H Q => ∃ D xs, H D = some (.lst xs) ∧ t σ (delH H D) fun v H' => H' D = none → Q v (upd H' D (.lst xs))
theorem pe_hide {X : Cx} {e : Expr} {t : TE} (h : PE X e t) : PE X e (tHide t) := by
  refine ⟨fun pins s σ H Q I q => ?_⟩
  obtain ⟨D, xs, hD, q⟩ := q
  obtain ⟨its, n, rv, hz, J⟩ := Inv.hide I hD
  refine thn (h.run _ s σ _ _ J q) fun u s' hu => ?_
  obtain ⟨v, H', J', r, q'⟩ := hu
  obtain ⟨hn, I'⟩ := Inv.unhide I hD rv hz J'
  exact ⟨v, _, I', r, q' hn⟩
theorem wipe_none {σ : L2.St} {i : Nat} : ∀ {vs : List Nat}, i ∈ vs → (wipe σ vs).set i none = wipe σ vs
  | [], h => by simp at h
  | v :: vs, h => by
    show ((wipe σ vs).set v none).set i none = (wipe σ vs).set v none
    by_cases e : i = v
    · rw [e, List.set_set]
    · have h' : i ∈ vs := by rcases List.mem_cons.mp h with q | q; exact absurd q e; exact q
      rw [List.set_comm _ _ (fun q => e q.symm), wipe_none h']
theorem wipe_put {σ : L2.St} {i : Nat} {x : Option V} : ∀ {vs : List Nat}, i ∉ vs → wipe (σ.set i x) vs = (wipe σ vs).set i x
  | [], _ => rfl
  | v :: vs, h => by
    show (wipe (σ.set i x) vs).set v none = ((wipe σ vs).set v none).set i x
    rw [wipe_put (fun q => h (List.mem_cons_of_mem _ q)), List.set_comm _ _ (fun q => h (by rw [q]; exact List.mem_cons_self ..))]
theorem w1 {σ σ' : L2.St} {i : Nat} {x : Option V} {vs : List Nat} (h : i ∈ vs) (e : wipe σ' vs = wipe σ vs) : wipe (σ'.set i x) vs = wipe σ vs := by
  have key : ∀ {vs : List Nat}, i ∈ vs → wipe (σ'.set i x) vs = wipe σ' vs := by
    intro vs h
    induction vs with
    | nil => simp at h
    | cons v vs ih =>
      show (wipe (σ'.set i x) vs).set v none = (wipe σ' vs).set v none
      by_cases hm : i ∈ vs
      · rw [ih hm]
      · have ev : i = v := by rcases List.mem_cons.mp h with q | q; exact q; exact absurd q hm
        rw [wipe_put hm, ← ev, List.set_set]
  rw [key h, e]
theorem w0 {σ : L2.St} {vs : List Nat} : wipe (wipe σ vs) vs = wipe σ vs := by
  have key : ∀ ws : List Nat, (∀ i ∈ ws, i ∈ vs) → wipe (wipe σ vs) ws = wipe σ vs := by
    intro ws
    induction ws with
    | nil => intro _; rfl
    | cons w ws ih =>
      intro h
      show (wipe (wipe σ vs) ws).set w none = wipe σ vs
      rw [ih (fun i hi => h i (List.mem_cons_of_mem _ hi)), wipe_none (h w (List.mem_cons_self ..))]
  exact key vs fun i h => h
/-- a comprehension that makes one value a turn -/
theorem lc_map {J : It} {n : Nat} {G : Hp → Prop} {Y : Nat → Hp → V → Hp → Prop} (w : Walk J n G Y) (Rl : Hp → Hp → Prop) (tr : ∀ {A B C}, Rl A B → Rl B C → Rl A C)
    (R : Nat → V → Hp → Prop) (st : ∀ i y A B, Rl A B → R i y A → R i y B) {g : TG} {t : TE} {vs : List Nat} {σ : L2.St} {H1 : Hp} {Qd : Addr → Hp → Prop} (hz : n < sizeLine)
    (rf : Rl H1 H1) (hG : ∀ F D acc, Rl H1 F → F D = none → G (upd F D (.lst acc)))
    (hs : ∀ i x D acc F H', i < n → H1 D = none → Rl H1 F → F D = none → Y i (upd F D (.lst acc)) x H' → ∀ B : L2.St → Hp → Prop, (∀ σ2 Fm, wipe σ2 vs = wipe σ vs → Fm D = none →
      (∀ Qt : VK, (∀ y F', Rl F F' → R i y F' → Qt y F') → t σ2 Fm Qt) → B σ2 (upd Fm D (.lst acc))) → g x (wipe σ vs) H' B)
    (hd : ∀ D ys F, H1 D = none → Rl H1 F → F D = none → ys.length = n → (∀ (i : Nat) y, ys[i]? = some y → R i y F) → Qd D (upd F D (.lst ys))) :
    ∀ D, H1 D = none → ∃ W : Nat → Nat → Hp → Prop, (∃ m, W 0 m (upd H1 D (.lst []))) ∧ ∀ i m H, W i m H →
      (J.stop i H ∧ Qd D H) ∨ (J.go i H ∧ ∃ Nx : Hp → Prop, (∀ H', Nx H' → ∃ m', m' < m ∧ W (i + 1) m' H') ∧ ∀ x H', J.yld i H x H' → g x (wipe σ vs) H' fun σ2 H2 => wipe σ2 vs = wipe σ vs ∧ tYes σ2 H2 fun b H3 =>
        if b = true then tHide t σ2 H3 fun y H4 => ∃ acc, H4 D = some (.lst acc) ∧ acc.length < sizeLine ∧ Nx (upd H4 D (.lst (acc ++ [y]))) else Nx H3) := by
  intro D nD
  refine lc_it w (fun i H => ∃ ys F, H = upd F D (.lst ys) ∧ F D = none ∧ Rl H1 F ∧ ys.length = i ∧ ∀ (j : Nat) y, ys[j]? = some y → R j y F) ⟨[], H1, rfl, nD, rf, rfl, fun j y e => by simp at e⟩ ?_ ?_ ?_
  · rintro i H _ ⟨ys, F, rfl, nF, rl, _, _⟩
    exact hG F D ys rl nF
  · rintro i x H H' hi ⟨ys, F, rfl, nF, rl, hl, hR⟩ hy
    refine hs i x D ys F H' hi nD rl nF hy _ fun σ2 Fm hw nm ht => ⟨hw, ?_⟩
    unfold tYes; dsimp only
    rw [if_pos rfl]
    refine ⟨D, ys, upd_same, ?_⟩
    rw [delH_upd nm]
    refine ht _ fun y F' rl' r nF' => ⟨ys, upd_same, by omega, ys ++ [y], F', upd_upd, nF', tr rl rl', by rw [List.length_append, hl]; rfl, fun j z e => ?_⟩
    by_cases hj : j < ys.length
    · rw [List.getElem?_append_left hj] at e
      exact st j z F F' rl' (hR j z e)
    · rw [List.getElem?_append_right (by omega)] at e
      have hj0 : j - ys.length = 0 := by
        rcases Nat.eq_zero_or_pos (j - ys.length) with q | q
        · exact q
        · rw [List.getElem?_eq_none (by simp; omega)] at e; cases e
      rw [hj0] at e
      have e' : y = z := by simpa using e
      have ej : j = i := by omega
      rw [← e', ej]; exact r
  · rintro H ⟨ys, F, rfl, nF, rl, hl, hR⟩
    exact hd D ys F nD rl nF hl hR
/-! ### what is walked: a list or a tuple -/
def iSeq (K : PySem.W.Frag) (tl : TE) : TI := fun σ H R => tl σ H fun x H1 => ∃ a xs, x = .ref a ∧ Sq2 K H1 a xs ∧ ∀ J, Walk J xs.length (fun H => (¬ SqT K H1 a xs → SqL K H1 a xs → SqL K H a xs) ∧ (SqT K H1 a xs → SqT K H a xs)) (YAt xs) → R J H1
theorem pi_seq {X : Cx} {tg l : Expr} {tl : TE} (hl : PE X l tl) : PI X tg l (iSeq X.K tl) := by
  refine ⟨fun pins s σ H R I h => ?_⟩
  refine thn (hl.run pins s σ H _ I h) fun v s1 ⟨x, H1, I1, r1, q1⟩ => ?_
  obtain ⟨a, xs, e, hq, q⟩ := q1
  subst e
  cases r1
  have fp : ∀ b ∈ [s1.heap.objs.size], FpOk X pins H1 b := fun b hb => by
    have e : b = s1.heap.objs.size := by simpa using hb
    subst e
    exact I1.fpOk (Nat.le_refl _) (I1.hok.fresh (Nat.le_refl _))
  by_cases hT : SqT X.K H1 a xs
  rotate_left
  · have hq : SqL X.K H1 a xs := hq.resolve_right hT
    obtain ⟨its, rv, p, hz⟩ := I1.list hq
    refine wpAny_pyIter_list p.isList ⟨s1.heap.objs.size, [s1.heap.objs.size], _, _, H1, rfl, I1.kept (t' := s1.toks) fun b o e => Heap.get?_push_of_some _ e, turn_list a _, ⟨_, Heap.get?_push_size _ rfl, rfl, rfl⟩, fp, q (Itl X.K a) ?_⟩
    exact (walk_list (K := X.K) (a := a) (xs := xs)).mono (fun H g => g.1 hT hq) fun i H x H' _ _ y => y
  · obtain ⟨its, rv, p, hz⟩ := I1.tuple hT
    refine wpAny_pyIter_tuple (show s1.heap.IsTuple a its.toArray from p) ⟨s1.heap.objs.size, [s1.heap.objs.size], _, _, H1, rfl, I1.kept (t' := s1.toks) fun b o e => Heap.get?_push_of_some _ e, turn_tuple a _, ⟨_, Heap.get?_push_size _ rfl, rfl, rfl⟩, fp, q (Itt X.K a) ?_⟩
    exact (walk_tup (K := X.K) (a := a) (xs := xs)).mono (fun H g => g.2 hT) fun i H x H' _ _ y => y
/-- a, b, .. = a list or a tuple -/
def gAny (K : PySem.W.Frag) (n : Nat) (t : TGs) : TG := fun v σ H Q => ∃ a xs, v = .ref a ∧ Sq2 K H a xs ∧ xs.length = n ∧ t xs σ H Q
theorem pg_any {X : Cx} {es : List Expr} {k : Nat} {pos : Pos} {t : TGs} {n : Nat} (hc : X.calm = true) (h : PGs X es t)
    (hn : (assignEach es X.env).length = n := by rfl) (hst : (assignEach es X.env).findIdx? (·.1) = none := by rfl) : PG X (.Tuple es k pos) (gAny X.K n t) := by
  refine ⟨fun pins s σ H v u Q I r hw => ?_⟩
  obtain ⟨a, xs, e, hq, hl, hw⟩ := hw
  rcases hq with hq | hq
  · exact (pg_unl hc h hn hst).run pins s σ H v u Q I r ⟨a, xs, e, hq, hl, hw⟩
  · exact (pg_tup hc h hn hst).run pins s σ H v u Q I r ⟨a, xs, e, hq, hl, hw⟩
end XL
namespace XL
open PySem PySem.Spec PyProof.Rows L2
/-! ### data without lists: it stands while tuples stand -/
structure Tp (H H' : Hp) : Prop where
  t : ∀ a xs, H a = some (.tup xs) → H' a = some (.tup xs)
  f : ∀ a o xs, H a = some (.frz o (.tup xs)) → H' a = some (.frz o (.tup xs))
theorem Tp.of {H H' : Hp} (s : Same H H') : Tp H H' := ⟨fun a xs e => s _ _ e, fun a o xs e => s _ _ e⟩
theorem Tp.trans {A B C : Hp} (p : Tp A B) (q : Tp B C) : Tp A C := ⟨fun a xs e => q.t _ _ (p.t _ _ e), fun a o xs e => q.f _ _ _ (p.f _ _ _ e)⟩
theorem Tp.upd {H : Hp} {a : Addr} {xs : List V} {o : HO} (h : H a = some (.lst xs)) : Tp H (upd H a o) :=
  ⟨fun b ys e => by rw [upd_ne (fun z => by rw [z, h] at e; cases e)]; exact e, fun b o' ys e => by rw [upd_ne (fun z => by rw [z, h] at e; cases e)]; exact e⟩
theorem Tp.sqT {K : PySem.W.Frag} {H H' : Hp} {a : Addr} {xs : List V} (p : Tp H H') (h : SqT K H a xs) : SqT K H' a xs := by
  rcases h with (h | ⟨o, h⟩) | h
  · exact .inl (.inl (p.t _ _ h))
  · exact .inl (.inr ⟨o, p.f _ _ _ h⟩)
  · exact .inr h
mutual
def noL : PyData → Bool
  | .list _ => false
  | .tuple ds => noLs ds
  | _ => true
def noLs : List PyData → Bool
  | [] => true
  | d :: ds => noL d && noLs ds
end
section
variable {K : PySem.W.Frag} {H H' : Hp}
mutual
theorem Dp.tp (p : Tp H H') : ∀ {v : V} (d : PyData), noL d = true → Dp K H v d → Dp K H' v d
  | _, .none, _, h => by cases h; exact .non
  | _, .bool b, _, h => by cases h; exact .bl b
  | _, .int i, _, h => by cases h; exact .int i
  | _, .str x, _, h => by cases h; exact .str x
  | _, .list ds, n, h => by simp [noL] at n
  | _, .tuple ds, n, h => by
    cases h with
    | tup hs ha => exact .tup (p.sqT hs) (DpAll.tp p ds (by simpa [noL] using n) ha)
  | _, .dict _, _, h => by cases h
theorem DpAll.tp (p : Tp H H') : ∀ {vs : List V} (ds : List PyData), noLs ds = true → DpAll K H vs ds → DpAll K H' vs ds
  | _, [], _, h => by cases h; exact .nil
  | _, d :: ds, n, h => by
    cases h with
    | cons h1 h2 =>
      rw [noLs, Bool.and_eq_true] at n
      exact .cons (Dp.tp p d n.1 h1) (DpAll.tp p ds n.2 h2)
end
end
/-! ### canals as data -/
abbrev Lk := Int × Int × Int × Int
def lkD (l : Lk) : PyData := .tuple [.int l.1, .int l.2.1, .int l.2.2.1, .int l.2.2.2]
structure Cn where
  r : Int
  b : Int
  ls : List Lk
def cnD (c : Cn) : PyData := .tuple [.int c.r, .int c.b, .tuple (c.ls.map lkD)]
structure okLk (r b : Int) (l : Lk) : Prop where
  a0 : 0 ≤ l.1
  a1 : l.1 < r
  c0 : 0 ≤ l.2.1
  c1 : l.2.1 < r
  x0 : 0 ≤ l.2.2.1
  x1 : l.2.2.1 < b
  y0 : 0 ≤ l.2.2.2
  y1 : l.2.2.2 < b
structure okCn (wide utmost : Nat) (c : Cn) : Prop where
  r1 : 1 ≤ c.r
  r2 : c.r ≤ wide
  b1 : 1 ≤ c.b
  b2 : c.b ≤ wide
  n : c.ls.length ≤ utmost
  l : ∀ l ∈ c.ls, okLk c.r c.b l
theorem noLs_lk : ∀ ls : List Lk, noLs (ls.map lkD) = true
  | [] => rfl
  | l :: ls => by rw [List.map_cons, noLs, noLs_lk ls]; rfl
theorem noL_cn (c : Cn) : noL (cnD c) = true := by
  show noLs [.int c.r, .int c.b, .tuple (c.ls.map lkD)] = true
  simp [noLs, noL, noLs_lk]
theorem lk_lay (l : Lk) : (lkD l).canLay0 = true := by simp [lkD, PyData.canLay0, PyData.canLayAll0]
theorem lk_depth (l : Lk) : (lkD l).depth = 1 := by simp [lkD, PyData.depth, PyData.depthAll]
theorem lks_lay : ∀ ls : List Lk, PyData.canLayAll0 (ls.map lkD) = true
  | [] => by simp [PyData.canLayAll0]
  | l :: ls => by simp [PyData.canLayAll0, lk_lay l, lks_lay ls]
theorem lks_depth : ∀ ls : List Lk, PyData.depthAll (ls.map lkD) ≤ 1
  | [] => by simp [PyData.depthAll]
  | l :: ls => by
    have h1 := lks_depth ls; have h2 := lk_depth l
    simp only [List.map_cons, PyData.depthAll]; omega
theorem lks_shaped (ls : List Lk) : SeqAt.shaped (.list (ls.map lkD)) = true := by
  have h1 := lks_depth ls
  have h2 : PyData.depth (.list (ls.map lkD)) ≤ 64 := by simp only [PyData.depth]; omega
  show (PyData.canLay0 (.list (ls.map lkD)) && decide (PyData.depth (.list (ls.map lkD)) ≤ 64)) = true
  rw [Bool.and_eq_true]; exact ⟨by simp only [PyData.canLay0]; exact lks_lay ls, decide_eq_true h2⟩
theorem nil_shaped : SeqAt.shaped (.list []) = true := lks_shaped []
theorem eqv_nil (ls : List Lk) : PyData.eqv (.list (ls.map lkD)) (.list []) = ls.isEmpty := by
  cases ls with
  | nil => simp [PyData.eqv, PyData.eqvAll]
  | cons l ls => simp [PyData.eqv, PyData.eqvAll]
end XL
namespace PySem
namespace XEn
open Sem (wp)
set_option maxHeartbeats 1000000 in
theorem meets_new1 {v : Value} {o : Obj} {H : Heap → Prop} (B : Begins v o H) :
    Meets (Builtin.«enumerate.__new__» ⟨[.type "enumerate", v], []⟩) (fun _ R s => H s.heap ∧
      R (.ok (.ret (.ref (s.heap.push o).objs.size))) { s with heap := (s.heap.push o).push { cls := .type "enumerate", data := .fields #[.none, .bool false, .ref s.heap.objs.size, rawInt 0, .none, .none] } }) :=
  .of_wp fun prog w A R s h => by
    obtain ⟨hp, g, d, tk, os⟩ := s; obtain ⟨h1, h⟩ := h
    have hsub := sub_enumerate
    have q1 : ∀ {A' : Around} {E : Value → Shared → Prop} {Q : Value → Shared → Prop}, Q (.ref hp.objs.size) ⟨hp.push o, g, d, tk, os⟩ → wpAny (model prog w) A' (pyIter v) Q E ⟨hp, g, d, tk, os⟩ :=
      fun q => B.iter prog w _ _ ⟨hp, g, d, tk, os⟩ _ h1 q
    wp_walk using q1
    refine wpAny_stack_any fun st => wpAny_pure ?_
    split
    · rename_i c _ _ _ _ _
      cases (c == Value.type "enumerate")
      · wp_walk using q1
        exact ⟨_, rfl, h⟩
      · wp_walk using q1
        exact ⟨_, rfl, h⟩
    · wp_walk using q1
      exact ⟨_, rfl, h⟩
section
variable {prog : Program} {w : World} {A : Around} {E : Value → Shared → Prop} {s : Shared}
theorem begins1 {v : Value} {o : Obj} {H : Heap → Prop} {Q : Value → Shared → Prop} (B : Begins v o H) (h1 : H s.heap)
    (h : ∀ h', IsEnum h' (s.heap.objs.size + 1) s.heap.objs.size 0 .none → h'.get? s.heap.objs.size = some o → h'.objs.size = s.heap.objs.size + 2 →
      (∀ b o, s.heap.get? b = some o → h'.get? b = some o) → Q (.ref (s.heap.objs.size + 1)) { s with heap := h' }) :
    wpAny (model prog w) A (call (.type "enumerate") [v]) Q E s := by
  refine callType_new F.called_enumerate (by decide) (F.typeCall_enumerate_1 _) (F.newCall_enumerate_1 _) (fun obj => F.args_object_init_2 obj _) F.entry_enumerate_new
    (meets_new1 B) ⟨h1, ?_⟩
  have hz : (s.heap.push o).objs.size = s.heap.objs.size + 1 := Heap.size_push ..
  show _ ∧ _
  rw [hz]
  have he : IsEnum ((s.heap.push o).push { cls := .type "enumerate", data := .fields #[.none, .bool false, .ref s.heap.objs.size, rawInt 0, .none, .none] }) (s.heap.objs.size + 1) s.heap.objs.size 0 .none := by
    have := Heap.get?_push_size (s.heap.push o) (o := { cls := .type "enumerate", data := .fields #[.none, .bool false, .ref s.heap.objs.size, rawInt 0, .none, .none] }) rfl
    rw [hz] at this; exact this
  refine ⟨⟨_, he, rfl⟩, h _ he (Heap.get?_push_of_some _ (Heap.get?_push_size _ B.free)) (by rw [Heap.size_push, hz]) fun b o x => Heap.get?_push_of_some _ (Heap.get?_push_of_some _ x)⟩
end
end XEn
end PySem
namespace XL
open PySem PySem.Spec PyProof.Rows L2
/-! ### enumerate(tuple) -/
def IteT (K : PySem.W.Frag) (a : Addr) : It :=
  ⟨fun i H => ∃ (xs : List V) (x : V), SqT K H a xs ∧ xs[i]? = some x, fun i H v H' => ∃ T x, v = .ref T ∧ H T = none ∧ H' = upd H T (.tup [.int (i : Nat), x]) ∧ ∀ xs, SqT K H a xs → xs[i]? = some x, fun i H => ∃ xs : List V, SqT K H a xs ∧ xs.length = i⟩
theorem tup_ne {h : Heap} {it a : Addr} {i : Nat} {its : Array Value} (h1 : h.IsTupleIter it a i) (h2 : h.IsTuple a its) : a ≠ it := fun z => by
  obtain ⟨o, e, c, d⟩ := h1
  obtain ⟨o', e', c', _⟩ := h2
  rw [z, e] at e'
  cases e'
  rw [c] at c'
  exact absurd c' (by decide)
theorem turn_enumT {P : Program} {w : World} {K : PySem.W.Frag} {elts : List Expr} {kk : Nat} {tpos : Pos} (a e it : Addr) :
    Turn P w K (.Tuple elts kk tpos) (IteT K a) [e, it] e (fun i h => (∃ old, IsEnum h e it ((i : Nat) : Int) old) ∧ h.IsTupleIter it a i ∧ e ≠ it) where
  mem := by simp
  obj := fun i h st b hb => by
    obtain ⟨⟨old, he⟩, ⟨o, ho, hc, hd⟩, _⟩ := st
    have e' : b = e ∨ b = it := by simpa using hb
    rcases e' with z | z
    · rw [z]; exact ⟨_, he, fun v q => nomatch q⟩
    · rw [z]; exact ⟨o, ho, fun v q => by rw [hd] at q; cases q⟩
  keep := fun i h h' st k => let ⟨⟨old, he⟩, hi, hne⟩ := st; ⟨⟨old, k e (by simp) _ he⟩, hi.at fun o q => k it (by simp) o q, hne⟩
  item := by
    intro X hP hw hK hc i pins s σ H E I hf st hg
    subst hP hw hK
    obtain ⟨⟨old, he⟩, hit, hne⟩ := st
    obtain ⟨xs, x, hq, hx⟩ := hg
    obtain ⟨its, rv, p, hz⟩ := I.tuple hq
    have p' : s.heap.IsTuple a its.toArray := p
    obtain ⟨u, hu, ru⟩ := rv.get hx
    have hel : e < s.heap.objs.size := Heap.lt_size he
    have hil : it < s.heap.objs.size := by obtain ⟨_, q, _⟩ := hit; exact Heap.lt_size q
    have hai := tup_ne hit p'
    have hae : e ∉ [it, a] := by
      intro z
      have z' : e = it ∨ e = a := by simpa using z
      rcases z' with z | z
      · exact hne z
      · obtain ⟨o', e', c', _⟩ := p'
        rw [← z, he] at e'
        cases e'
        exact absurd (show Value.type "enumerate" = Value.type "tuple" from c') (by decide)
    have hi : i < its.toArray.size := by
      rw [List.size_toArray]
      rcases Nat.lt_or_ge i its.length with q | q
      · exact q
      · rw [List.getElem?_eq_none q] at hu; cases hu
    refine wpAny_pyNext_enum_itemD (Draws.tuple (A := X.A.in1) (I.ok.hd hc) it a hai its.toArray) he ⟨hit, p'⟩ hi hne hae fun u' h' tk hu' ho hit' hT hsz hk => ?_
    have eu : u' = u := by
      have h1 : its.toArray[i]? = some u' := hu'
      rw [List.getElem?_toArray, hu] at h1
      exact (Option.some.inj h1).symm
    subst eu
    refine ⟨_, rfl, wpAny_letOwnedTupleGo_enum (s := { s with heap := h', toks := tk + 1 }) ho fun h'' he' sb => ?_⟩
    have hT2 : h''.get? s.heap.objs.size = some { cls := .type "tuple", data := .seq #[.int i tk, u'] } := (sb.2 _ (Nat.ne_of_gt hel)).trans hT
    have new : ObjOk X.prog X.w (upd H s.heap.objs.size (.tup [.int (i : Nat), x])) h'' s.heap.objs.size (.tup [.int (i : Nat), x]) :=
      ⟨by show 2 ≤ sizeLine; decide, [.int i tk, u'], .cons ⟨_, rfl⟩ (.cons ru .nil), ⟨_, hT2, rfl, _, rfl⟩⟩
    have I1 : Inv X pins σ (upd H s.heap.objs.size (.tup [.int (i : Nat), x])) { s with heap := h'', toks := tk + 1 } :=
      I.turnedNew (ch := [e, it]) (fun b ob hb q => (sb.2 b (fun z => hb (by simp [z]))).trans (hk b ob (fun z => hb (by simp [z])) (fun z => hb (by simp [z])) q)) hf (Nat.le_refl _) new
    refine ⟨.ref s.heap.objs.size, _, I1, rfl, ⟨_, x, rfl, I.hok.fresh (Nat.le_refl _), rfl, fun ys hy => by rw [I.tuple_inj hy hq]; exact hx⟩, ⟨⟨u', ?_⟩, hit'.1.at fun o q => (sb.2 it (Ne.symm hne)).trans q, hne⟩, fun b hb => ?_⟩
    · have e1 : ((i + 1 : Nat) : Int) = (i : Int) + 1 := by omega
      rw [e1]; exact he'
    · have hb' : b < s.heap.objs.size := by
        have e' : b = e ∨ b = it := by simpa using hb
        rcases e' with z | z
        · rw [z]; exact hel
        · rw [z]; exact hil
      rw [upd_ne (Nat.ne_of_lt hb')]
      exact (hf b hb).1
  done := by
    intro X hP hw hK hc i pins s σ H E I hf st hg
    subst hP hw hK
    obtain ⟨⟨old, he⟩, hit, hne⟩ := st
    obtain ⟨xs, hq, hx⟩ := hg
    obtain ⟨its, rv, p, hz⟩ := I.tuple hq
    have p' : s.heap.IsTuple a its.toArray := p
    obtain ⟨f0, f1, f2, f3, f4, f5⟩ := hf it (by simp)
    have hl := rv.length
    have hn : i = its.toArray.size := by rw [List.size_toArray]; omega
    subst hn
    exact wpAny_pyNext_enum_endD (Draws.tuple (A := X.A.in1) (I.ok.hd hc) it a (tup_ne hit p') its.toArray) he ⟨hit, p'⟩ fun h' eb => ⟨rfl, I.turned (t' := s.toks) (fun b o hb q => eb b o hb q) f0 f1 f3 f4 f5⟩
  self := fun A i s Q E st h => let ⟨⟨_, he⟩, _⟩ := st; wpAny_pyIter_enum he h
theorem walk_enumT {K : PySem.W.Frag} {a : Addr} {xs : List V} : Walk (IteT K a) xs.length (fun H => SqT K H a xs) (YPair (fun i => some (.int (i : Nat))) (fun i => xs[i]?)) := by
  refine ⟨fun i _ hi q => ⟨xs, xs[i], q, by simp [hi]⟩, fun _ q => ⟨xs, q, rfl⟩, fun i H v H' _ q y => ?_⟩
  obtain ⟨T, x, h1, h2, h3, h4⟩ := y
  exact ⟨T, .int (i : Nat), x, h1, h2, h3, rfl, h4 xs q⟩
def iEnumT (K : PySem.W.Frag) (ta : TA) : TI := fun σ H R => ta σ H fun vs H1 => ∃ a xs, vs = [.ref a] ∧ SqT K H1 a xs ∧ R (IteT K a) H1
theorem pi_enumT {X : Cx} {e : Expr} {ta : TA} {p pos tpos : Pos} {elts : List Expr} {kk : Nat} (hg : Gl X "enumerate") (hm : X.mg "enumerate" = none) (ha : PA X [e] ta) (hs : starEach [e] X.env = [(false, eval e X.env)] := by rfl) :
    PI X (.Tuple elts kk tpos) (.Call (.Name "enumerate" p) [e] [] pos) (iEnumT X.K ta) := by
  refine ⟨fun pins s σ H R I h => ?_⟩
  refine Call_ (ld_blt I hg hm boot_enumerate (PyProof.Rows.callWith_type1 (thn (ha.run pos pins s σ H _ I h) fun us s1 ⟨vs, H1, I1, r1, q1⟩ => ?_) hs rfl))
  obtain ⟨a, xs, ex, hq, q⟩ := q1
  subst ex
  cases r1 with
  | cons r rr =>
    cases rr
    cases r
    obtain ⟨its, rv, p', hz⟩ := I1.tuple hq
    refine PySem.XEn.begins1 (begins_tuple a its.toArray) (show s1.heap.IsTuple a its.toArray from p') fun h' he hit hsz hk => wpAny_pyIter_enum he ?_
    have I2 : Inv X pins σ H1 { s1 with heap := h' } := I1.kept (t' := s1.toks) hk
    refine ⟨s1.heap.objs.size + 1, [s1.heap.objs.size + 1, s1.heap.objs.size], _, _, H1, rfl, I2, turn_enumT a (s1.heap.objs.size + 1) s1.heap.objs.size, ⟨⟨.none, he⟩, ⟨_, hit, rfl, rfl⟩, Nat.succ_ne_self _⟩, fun b hb => ?_, q⟩
    have e' : b = s1.heap.objs.size + 1 ∨ b = s1.heap.objs.size := by simpa using hb
    have hle : s1.heap.objs.size ≤ b := by
      rcases e' with z | z
      · rw [z]; exact Nat.le_add_right _ _
      · rw [z]; exact Nat.le_refl _
    exact I1.fpOk hle (I1.hok.fresh hle)
end XL
namespace XL
open PySem PySem.Spec PyProof.Rows L2
/-! ### small words that all laws want -/
theorem at_s {T : L2.St → Hp → Prop} {σ σ' : L2.St} {H : Hp} (e : σ = σ') (h : T σ' H) : T σ H := e ▸ h
theorem at_g {i : Nat} {x : V} {σ σ' : L2.St} {H : Hp} {N : L2.St → Hp → Prop} (e : σ.set i (some x) = σ') (h : N σ' H) : gName i x σ H N := by
  subst e; exact h
/-- a heap by what is known of it -/
theorem at_h {T : L2.St → Hp → Prop} {σ : L2.St} {H : Hp} (Pf : Hp → Prop) (hp : Pf H) (h : ∀ G, Pf G → T σ G) : T σ H := h H hp
structure Fns (P : Program) (w : World) (K : PySem.W.Frag) (mg : Str → Option Value) (base : Heap) (n : Nat) (name : Str) (ps : List Str) (sp : Sp) (f : Addr) (fd : FuncData) : Prop where
  ok : FnOk P w K mg base CX0 n f fd ps sp
  g : mg name = some (.ref f)
  k : PySem.W.keepIn K (.ref f) = true
  b : Binds K fd ps []
theorem pe_fn {X : Cx} {n : Nat} {name : Str} {ps : List Str} {sp : Sp} {f : Addr} {fd : FuncData} {p pos : Pos} {e : Expr} {es : List Expr} {t : TA} (F : Fns X.prog X.w X.K X.mg X.base n name ps sp f fd) (hr : Room n X.A) (hg : Gl X name) (ha : PA X (e :: es) t)
    (hdb : (name == ("__debug__" : Str)) = false := by decide) (he : starEach (e :: es) X.env = (false, eval e X.env) :: starEach es X.env := by rfl) (hpl : (backTo pos (starEach es X.env)).any (·.1) = false := by rfl) (hx : Passes CX0 X E0 := by exact pass0) :
    PE X (.Call (.Name name p) (e :: es) [] pos) (tCall sp [] E0 t) := pe_call F.ok hr hg F.g F.k F.b .nil hx ha hdb he hpl
theorem room65 {k : Nat} {A : Around} (r : Room k A) : A.units + 65 < cLine := by have := r.un; omega
/-- an item of a list or a tuple -/
def rIxA (K : PySem.W.Frag) : R2 := fun x y H Q => ∃ p xs i v, x = .ref p ∧ y = .int i ∧ Sq2 K H p xs ∧ atI xs i = some v ∧ Q v H
theorem ix_any {X : Cx} : IxR X (rIxA X.K) := by
  intro value slice pins s σ H x y v u Q I rx ry h hs
  obtain ⟨p, xs, i, z, e1, e2, hq, he, q⟩ := h
  rcases hq with hq | hq
  · exact ix_list value slice pins s σ H x y v u Q I rx ry ⟨p, xs, i, z, e1, e2, hq, he, q⟩ hs
  · exact ix_tup value slice pins s σ H x y v u Q I rx ry ⟨p, xs, i, z, e1, e2, hq, he, q⟩ hs
/-! ### built-ins over lists and tuples, their relations by name (within comprehensions they are given by hand) -/
def rLenA (K : PySem.W.Frag) : List V → Hp → VK → Prop := fun xs H Q => ∃ p ys, xs = [.ref p] ∧ (SqL K H p ys ∨ SqT K H p ys) ∧ Q (.int ys.length) H
theorem call_lenA {X : Cx} : CallR X (.builtin "len") (rLenA X.K) := call_len_seq
def rLstA (K : PySem.W.Frag) : List V → Hp → VK → Prop := fun xs H Q => ∃ p ys, xs = [.ref p] ∧ (SqL K H p ys ∨ SqT K H p ys) ∧ ∀ l, H l = none → Q (.ref l) (upd H l (.lst ys))
theorem call_listA {X : Cx} : CallR X (.type "list") (rLstA X.K) := call_list_of
def rTupA (K : PySem.W.Frag) : List V → Hp → VK → Prop := fun xs H Q => ∃ p ys, xs = [.ref p] ∧ ((SqL K H p ys ∧ ∀ l, H l = none → Q (.ref l) (upd H l (.tup ys))) ∨ SqT K H p ys ∧ Q (.ref p) H)
theorem call_tupleA {X : Cx} : CallR X (.type "tuple") (rTupA X.K) := call_tuple_of
/-- a comprehension, by an invariant over all that was made so far -/
theorem lc_acc {J : It} {n : Nat} {G : Hp → Prop} {Y : Nat → Hp → V → Hp → Prop} (w : Walk J n G Y) (Iv : Nat → List V → Hp → Prop) {g : TG} {t : TE} {vs : List Nat} {σ : L2.St} {H1 : Hp} {Qd : Addr → Hp → Prop} (hz : n < sizeLine)
    (h0 : Iv 0 [] H1) (hG : ∀ i F D acc, Iv i acc F → F D = none → G (upd F D (.lst acc)))
    (hs : ∀ i x D acc F H', i < n → H1 D = none → Iv i acc F → F D = none → Y i (upd F D (.lst acc)) x H' → ∀ B : L2.St → Hp → Prop, (∀ σ2 Fm, wipe σ2 vs = wipe σ vs → Fm D = none →
      (∀ Qt : VK, (∀ y F', Iv (i + 1) (acc ++ [y]) F' → Qt y F') → t σ2 Fm Qt) → B σ2 (upd Fm D (.lst acc))) → g x (wipe σ vs) H' B)
    (hd : ∀ D ys F, H1 D = none → Iv n ys F → F D = none → ys.length = n → Qd D (upd F D (.lst ys))) :
    ∀ D, H1 D = none → ∃ W : Nat → Nat → Hp → Prop, (∃ m, W 0 m (upd H1 D (.lst []))) ∧ ∀ i m H, W i m H →
      (J.stop i H ∧ Qd D H) ∨ (J.go i H ∧ ∃ Nx : Hp → Prop, (∀ H', Nx H' → ∃ m', m' < m ∧ W (i + 1) m' H') ∧ ∀ x H', J.yld i H x H' → g x (wipe σ vs) H' fun σ2 H2 => wipe σ2 vs = wipe σ vs ∧ tYes σ2 H2 fun b H3 =>
        if b = true then tHide t σ2 H3 fun y H4 => ∃ acc, H4 D = some (.lst acc) ∧ acc.length < sizeLine ∧ Nx (upd H4 D (.lst (acc ++ [y]))) else Nx H3) := by
  intro D nD
  refine lc_it w (fun i H => ∃ ys F, H = upd F D (.lst ys) ∧ F D = none ∧ Iv i ys F ∧ ys.length = i) ⟨[], H1, rfl, nD, h0, rfl⟩ ?_ ?_ ?_
  · rintro i H _ ⟨ys, F, rfl, nF, iv, _⟩
    exact hG i F D ys iv nF
  · rintro i x H H' hi ⟨ys, F, rfl, nF, iv, hl⟩ hy
    refine hs i x D ys F H' hi nD iv nF hy _ fun σ2 Fm hw nm ht => ⟨hw, ?_⟩
    unfold tYes; dsimp only
    rw [if_pos rfl]
    refine ⟨D, ys, upd_same, ?_⟩
    rw [delH_upd nm]
    exact ht _ fun y F' iv' nF' => ⟨ys, upd_same, by omega, ys ++ [y], F', upd_upd, nF', iv', by rw [List.length_append, hl]; rfl⟩
  · rintro H ⟨ys, F, rfl, nF, iv, hl⟩
    exact hd D ys F nD iv nF hl
/-! ### calls by keywords alone: one, two in their order or turned -/
def g1 : List α → List α → List α
  | [], [x] => [x]
  | _, _ => []
def g2 : List α → List α → List α
  | [], [x, y] => [y, x]
  | _, _ => []
section
variable {K : PySem.W.Frag}
theorem kb1 {x qual p : Str} {st : Stmt} {f : Addr} {fd : FuncData} (F : Fun K x qual st f fd)
    (h : ∀ (kV doc pm : Value) (an : Option Addr) (cdv ct v : Value), bindArgs (PySem.W.fnOf x qual (defArgs st) (defBody st) (defScope st) .none kV doc pm an cdv ct) ⟨[], [(p, v)]⟩ = pure [(p, v)]) : KBinds K fd [p] [p] g1 g1 := by
  obtain ⟨oc, od, kV, doc, pm, an, cdv, ct, osl, rfl, lk, hcd⟩ := F.ex
  refine ⟨fun s us ws _ hl => ?_, fun {vs us zs ws} r1 r2 => ?_⟩
  · match us, ws, hl with
    | [], [v], _ => exact .of_eq (h kV doc pm an cdv ct v)
  · cases r1 with
    | nil =>
      cases r2 with
      | nil => exact .nil
      | cons a r =>
        cases r with
        | nil => exact .cons a .nil
        | cons _ _ => exact .nil
    | cons _ _ => exact .nil
theorem kb2 {x qual p q : Str} {st : Stmt} {f : Addr} {fd : FuncData} (F : Fun K x qual st f fd)
    (h : ∀ (kV doc pm : Value) (an : Option Addr) (cdv ct v u : Value), bindArgs (PySem.W.fnOf x qual (defArgs st) (defBody st) (defScope st) .none kV doc pm an cdv ct) ⟨[], [(q, v), (p, u)]⟩ = pure [(p, u), (q, v)]) : KBinds K fd [p, q] [q, p] g2 g2 := by
  obtain ⟨oc, od, kV, doc, pm, an, cdv, ct, osl, rfl, lk, hcd⟩ := F.ex
  refine ⟨fun s us ws _ hl => ?_, fun {vs us zs ws} r1 r2 => ?_⟩
  · match us, ws, hl with
    | [], [v, u], _ => exact .of_eq (h kV doc pm an cdv ct v u)
  · cases r1 with
    | nil =>
      cases r2 with
      | nil => exact .nil
      | cons a r =>
        cases r with
        | nil => exact .nil
        | cons a2 r =>
          cases r with
          | nil => exact .cons a2 (.cons a .nil)
          | cons _ _ => exact .nil
    | cons _ _ => exact .nil
/-- three, turned -/
def g3r {α : Type} : List α → List α → List α
  | [], [x, y, z] => [z, y, x]
  | _, _ => []
theorem kb3r {x qual p q r : Str} {st : Stmt} {f : Addr} {fd : FuncData} (F : Fun K x qual st f fd)
    (h : ∀ (kV doc pm : Value) (an : Option Addr) (cdv ct v u z : Value), bindArgs (PySem.W.fnOf x qual (defArgs st) (defBody st) (defScope st) .none kV doc pm an cdv ct) ⟨[], [(r, v), (q, u), (p, z)]⟩ = pure [(p, z), (q, u), (r, v)]) : KBinds K fd [p, q, r] [r, q, p] g3r g3r := by
  obtain ⟨oc, od, kV, doc, pm, an, cdv, ct, osl, rfl, lk, hcd⟩ := F.ex
  refine ⟨fun s us ws _ hl => ?_, fun {vs us zs ws} r1 r2 => ?_⟩
  · match us, ws, hl with
    | [], [v, u, z], _ => exact .of_eq (h kV doc pm an cdv ct v u z)
  · cases r1 with
    | nil =>
      cases r2 with
      | nil => exact .nil
      | cons a r =>
        cases r with
        | nil => exact .nil
        | cons a2 r =>
          cases r with
          | nil => exact .nil
          | cons a3 r =>
            cases r with
            | nil => exact .cons a3 (.cons a2 (.cons a .nil))
            | cons _ _ => exact .nil
    | cons _ _ => exact .nil
end
end XL
namespace XL
open PySem PySem.Spec PyProof.Rows L2
/-! ### dicts whose keys are tuples of tuples -/
abbrev NE := NestedKey × Addr × V
abbrev NR : List NE → List (NestedKey × Addr × Value) → Prop := Paired fun p q => p.1 = q.1 ∧ p.2.1 = q.2.1 ∧ RelV p.2.2 q.2.2
/-- what stands at a key -/
def atN : List NE → NestedKey → Option V
  | [], _ => none
  | e :: es, k => if e.1 = k then some e.2.2 else atN es k
def dnP (P : Program) (w : World) (a : Addr) (es : List NE) (h : Heap) : Prop := es.length ≤ sizeLine ∧ (a == sysModules) = false ∧
  ∃ ys : List (NestedKey × Addr × Value), NR es ys ∧ ∃ o en ep, h.get? a = some o ∧ o.ExactDict ∧ o.data = .dict en ep ∧ en.toList = ys.map (entryOfKey (nestedKind P w)) ∧ (ys.map (·.1)).Nodup
def DNo (P : Program) (w : World) (a : Addr) (es : List NE) : HO := .ext (dnP P w a es)
/-- the tuple at b is the key k -/
def KyAt (K : PySem.W.Frag) (H : Hp) (k : NestedKey) (b : Addr) : Prop := Dp K H (.ref b) k.data ∧ k.depth ≤ 8
section
variable {P : Program} {w : World} {H : Hp} {h : Heap} {a : Addr} {es : List NE} {ys : List (NestedKey × Addr × Value)}
theorem dn_ok (x : dnP P w a es h) : ObjOk P w H h a (DNo P w a es) := by
  refine ⟨x, ?_, fun h1 h2 q k => ?_⟩
  · obtain ⟨_, _, _, _, o, _, _, e, _⟩ := x
    exact ⟨o, e⟩
  · obtain ⟨z, y, ys, r, o, en, ep, e, c⟩ := q
    exact ⟨z, y, ys, r, o, en, ep, k o e, c⟩
theorem dn_rd (ok : HOk P w H h) (e : Rd H a (DNo P w a es)) : dnP P w a es h := (rd_of ok e).1
theorem NR.val (r : NR es ys) (k : NestedKey) : RelO (atN es k) ((atKey ys k).map (·.2)) := by
  induction r with
  | nil => exact True.intro
  | @cons p q ps qs h t ih =>
    obtain ⟨h1, _, h2⟩ := h
    by_cases e : p.1 = k
    · have e' : q.1 = k := h1.symm.trans e
      have b : atKey (q :: qs) k = some q.2 := by simp [atKey, List.find?_cons, e']
      rw [atN, if_pos e, b]; exact h2
    · have e' : ¬ q.1 = k := fun z => e (h1.trans z)
      have b : atKey (q :: qs) k = atKey qs k := by simp [atKey, List.find?_cons, e']
      rw [atN, if_neg e, b]; exact ih
theorem NR.keys (r : NR es ys) : es.map (·.1) = ys.map (·.1) := by
  induction r with
  | nil => rfl
  | cons h t ih => rw [List.map_cons, List.map_cons, h.1, ih]
theorem NR.ent (r : NR es ys) {i : Nat} {e : NE} (h : es[i]? = some e) : ∃ y, ys[i]? = some y ∧ e.1 = y.1 ∧ e.2.1 = y.2.1 ∧ RelV e.2.2 y.2.2 := by
  induction r generalizing i with
  | nil => simp at h
  | cons h1 t ih =>
    cases i with
    | zero => obtain rfl := Option.some.inj h; exact ⟨_, rfl, h1⟩
    | succ i => exact ih h
end
section
variable {X : Cx} {pins : List (Addr × Obj)} {σ : L2.St} {H : Hp} {s : Shared}
mutual
theorem nk_is (I : Inv X pins σ H s) : ∀ (k : NestedKey) (v : V) (u : Value), Dp X.K H v k.data → RelV v u → NestedIs s.heap k u
  | .none, _, _, h, r => by
    cases h; cases r; exact .none
  | .num i, _, _, h, r => by
    cases h
    obtain ⟨t, rfl⟩ := r
    exact .int i t
  | .text x, _, _, h, r => by
    cases h
    obtain ⟨t, rfl⟩ := r
    exact .text x t
  | .tup ks, _, _, h, r => by
    cases h with
    | tup hs ha =>
      cases r
      obtain ⟨its, rv, ⟨o, ho, hc, n, hd⟩, _⟩ := I.tuple hs
      exact .tup ho hc hd (nk_all I ks _ _ ha rv)
theorem nk_all (I : Inv X pins σ H s) : ∀ (ks : List NestedKey) (vs : List V) (us : List Value), DpAll X.K H vs (NestedKey.datas ks) → Vals vs us → NestedAll s.heap ks us
  | [], _, _, h, r => by
    cases h; cases r; exact .nil
  | k :: ks, _, _, h, r => by
    cases h with
    | cons h1 h2 =>
      cases r with
      | cons r1 r2 => exact .cons (nk_is I k _ _ h1 r1) (nk_all I ks _ _ h2 r2)
end
theorem ky_is (I : Inv X pins σ H s) {k : NestedKey} {b : Addr} (h : KyAt X.K H k b) : (nestedKind X.prog X.w).is s.heap k b := ⟨nk_is I k _ _ h.1 rfl, h.2⟩
theorem dn_of (I : Inv X pins σ H s) {a : Addr} {es : List NE} (e : Rd H a (DNo X.prog X.w a es)) (hk : ∀ x ∈ es, KyAt X.K H x.1 x.2.1) : es.length ≤ sizeLine ∧ (a == sysModules) = false ∧ ∃ ys, NR es ys ∧ s.heap.DictOfH (nestedKind X.prog X.w) a ys := by
  obtain ⟨z, y, ys, r, o, en, ep, h1, h2, h3, h4, h5⟩ := dn_rd I.hok e
  refine ⟨z, y, ys, r, o, en, ep, h1, h2, h3, h4, fun x hx => ?_, h5⟩
  have all : ∀ {l : List NE} {m : List (NestedKey × Addr × Value)}, NR l m → (∀ x ∈ l, KyAt X.K H x.1 x.2.1) → ∀ x ∈ m, (nestedKind X.prog X.w).is s.heap x.1 x.2.1 := by
    intro l m q
    induction q with
    | nil => intro _ x hx; exact nomatch hx
    | @cons p q ps qs hq t ih =>
      intro hk x hx
      rcases List.mem_cons.mp hx with e | hx
      · subst e
        rw [← hq.1, ← hq.2.1]
        exact ky_is I (hk p (List.mem_cons_self ..))
      · exact ih (fun y hy => hk y (List.mem_cons_of_mem _ hy)) x hx
  exact all r hk x hx
def NGet (P : Program) (w : World) (K : PySem.W.Frag) (H : Hp) (a : Addr) (y : V) (o : Option V) : Prop :=
  ∃ es k b, Rd H a (DNo P w a es) ∧ (∀ x ∈ es, KyAt K H x.1 x.2.1) ∧ y = .ref b ∧ KyAt K H k b ∧ o = atN es k
/-- d[y] = v, y a new key -/
def NPut (P : Program) (w : World) (K : PySem.W.Frag) (H : Hp) (a : Addr) (y v : V) (H' : Hp) : Prop :=
  ∃ es k b, H a = some (DNo P w a es) ∧ (∀ x ∈ es, KyAt K H x.1 x.2.1) ∧ y = .ref b ∧ KyAt K H k b ∧ atN es k = none ∧ es.length < sizeLine ∧ H' = upd H a (DNo P w a (es ++ [(k, b, v)]))
theorem nroom {A : Around} (hu : A.units + 10 < cLine) : A.in1.units + 8 < cLine := by show A.units + 1 + 8 < cLine; omega
variable {a : Addr} {y v : V} {u r : Value} {o : Option V} {A : Around} {E : Value → Shared → Prop}
theorem n_typeIs (I : Inv X pins σ H s) (g : NGet X.prog X.w X.K H a y o) : s.TypeIs (.ref a) "dict" := by
  obtain ⟨es, k, b, e, hk, _⟩ := g
  obtain ⟨_, _, ys, _, dd⟩ := dn_of I e hk
  exact dd.typeIs
theorem n_getItem {Q : Value → Shared → Prop} (hu : A.units + 10 < cLine) (I : Inv X pins σ H s) (g : NGet X.prog X.w X.K H a y (some v)) (ry : RelV y u) (h : ∀ w' s', Inv X pins σ H s' → RelV v w' → Q w' s') :
    wpAny (model X.prog X.w) A (getItem (.ref a) u) Q E s := by
  obtain ⟨es, k, b, e, hk, rfl, kb, l⟩ := g
  cases (show u = Value.ref b from ry)
  obtain ⟨z, hd, ys, rel, dd⟩ := dn_of I e hk
  obtain ⟨w', hw, rw'⟩ := RelO.some_of (v := v) (o := (atKey ys k).map (·.2)) (by rw [l]; exact rel.val k)
  obtain ⟨p, hp, hp2⟩ := Option.map_eq_some_iff.mp hw
  refine wpAny_getItem_heap (nroom hu) (ky_is I kb) dd hp ?_
  rw [hp2]
  exact h w' _ (I.tok _) rw'
theorem n_in {Q : Value → Shared → Prop} (hu : A.units + 10 < cLine) (I : Inv X pins σ H s) (g : NGet X.prog X.w X.K H a y o) (ry : RelV y u) (h : ∀ s', Inv X pins σ H s' → Q (.bool o.isSome) s') :
    wpAny (model X.prog X.w) A (compareOp .In u (.ref a)) Q E s := by
  obtain ⟨es, k, b, e, hk, rfl, kb, l⟩ := g
  cases (show u = Value.ref b from ry)
  obtain ⟨z, hd, ys, rel, dd⟩ := dn_of I e hk
  refine wpAny_in_heap (nroom hu) (ky_is I kb) hd dd ?_
  have q := (rel.val k).isSome_eq
  rw [Option.isSome_map] at q
  rw [← q, ← l]
  exact h _ (I.tok _)
theorem n_notIn {Q : Value → Shared → Prop} (hu : A.units + 10 < cLine) (I : Inv X pins σ H s) (g : NGet X.prog X.w X.K H a y o) (ry : RelV y u) (h : ∀ s', Inv X pins σ H s' → Q (.bool (!o.isSome)) s') :
    wpAny (model X.prog X.w) A (compareOp .NotIn u (.ref a)) Q E s := by
  obtain ⟨es, k, b, e, hk, rfl, kb, l⟩ := g
  cases (show u = Value.ref b from ry)
  obtain ⟨z, hd, ys, rel, dd⟩ := dn_of I e hk
  refine wpAny_notIn_heap (nroom hu) (ky_is I kb) hd dd ?_
  have q := (rel.val k).isSome_eq
  rw [Option.isSome_map] at q
  rw [← q, ← l]
  exact h _ (I.tok _)
theorem NR.snoc {es : List NE} {ys : List (NestedKey × Addr × Value)} (r : NR es ys) {k : NestedKey} {b : Addr} {v : V} {u : Value} (hn : atN es k = none) (rv : RelV v u) : NR (es ++ [(k, b, v)]) (storedH ys k b u) := by
  have q := (r.val k).isSome_eq
  rw [Option.isSome_map, hn] at q
  unfold storedH
  rw [if_neg (by rw [← q]; exact Bool.false_ne_true)]
  exact Paired.snoc r ⟨rfl, rfl, rv⟩
theorem n_setItem {H' : Hp} {Q : Unit → Shared → Prop} (hu : A.units + 10 < cLine) (I : Inv X pins σ H s) (g : NPut X.prog X.w X.K H a y v H') (ry : RelV y u) (rv : RelV v r) (h : ∀ s', Inv X pins σ H' s' → Q () s') :
    wpAny (model X.prog X.w) A (setItem (.ref a) u r) Q E s := by
  obtain ⟨es, k, b, e, hk, rfl, kb, hn, hl, rfl⟩ := g
  cases (show u = Value.ref b from ry)
  obtain ⟨z, hd, ys, rel, dd⟩ := dn_of I (.inl e) hk
  have hz : ys.length ≤ sizeLine := by rw [← Paired.length rel]; exact z
  refine wpAny_setItem_heap (hsz := hz) (nroom hu) (ky_is I kb) dd fun h' dd' hs => h _ ?_
  obtain ⟨q, en, ep, hq, h2, h3, h4, _, h5⟩ := dd'
  refine d_write I (by rw [e]; exact True.intro) hs ⟨q, hq⟩ (dn_ok ⟨by rw [List.length_append]; exact hl, hd, _, rel.snoc hn rv, q, en, ep, hq, h2, h3, h4, h5⟩)
end
/-! ### readings and rules -/
def tNGet (P : Program) (w : World) (K : PySem.W.Frag) (td ty : TE) : TE := fun σ H Q => td σ H fun x H1 => ty σ H1 fun y H2 => ∃ a v, x = .ref a ∧ NGet P w K H2 a y (some v) ∧ Q v H2
def tNIn (P : Program) (w : World) (K : PySem.W.Frag) (ty td : TE) : TE := fun σ H Q => ty σ H fun y H1 => td σ H1 fun x H2 => ∃ a o, x = .ref a ∧ NGet P w K H2 a y o ∧ Q (.bl o.isSome) H2
def tNNotIn (P : Program) (w : World) (K : PySem.W.Frag) (ty td : TE) : TE := fun σ H Q => ty σ H fun y H1 => td σ H1 fun x H2 => ∃ a o, x = .ref a ∧ NGet P w K H2 a y o ∧ Q (.bl (!o.isSome)) H2
def sNPut (P : Program) (w : World) (K : PySem.W.Frag) (td ty tv : TE) : TS := fun D σ H => tv σ H fun v H1 => td σ H1 fun x H2 => ty σ H2 fun y H3 => ∃ a H4, x = .ref a ∧ NPut P w K H3 a y v H4 ∧ D.nx σ H4
section
variable {X : Cx} {o i e value : Expr} {pos pos' tpos : Pos} {td ty tv : TE}
theorem pe_nget (hu : X.A.units + 10 < cLine) (ho : PE X o td) (hi : PE X i ty) (hs : NoSl i) : PE X (.Subscript o i pos) (tNGet X.prog X.w X.K td ty) := by
  constructor
  intro pins s σ H Q I h
  refine subD_of PySem.F.slot_dict_getitem.lookup hs (thn (ho.run pins s σ H _ I h) fun u s1 h1 => ?_)
  obtain ⟨x, H1, I1, rx, q1⟩ := h1
  refine thn (hi.run pins s1 σ H1 _ I1 q1) fun iv s2 h2 => ?_
  obtain ⟨y, H2, I2, ry, a, v, rfl, g, q2⟩ := h2
  cases (show u = Value.ref a from rx)
  exact ⟨n_typeIs I2 g, n_getItem hu I2 g ry fun w' s3 J r => ⟨v, H2, J, r, q2⟩⟩
theorem pc_nin (hu : X.A.units + 10 < cLine) (hi : PE X i ty) (ho : PE X o td) : PC X .In i o (tNIn X.prog X.w X.K ty td) := by
  constructor
  intro pins s σ H Q I h
  refine thn (hi.run pins s σ H _ I h) fun iv s1 h1 => ?_
  obtain ⟨y, H1, I1, ry, q1⟩ := h1
  refine thn (ho.run pins s1 σ H1 _ I1 q1) fun u s2 h2 => ?_
  obtain ⟨x, H2, I2, rx, a, ov, rfl, g, q2⟩ := h2
  cases (show u = Value.ref a from rx)
  exact n_in hu I2 g ry fun s3 J => ⟨.bl ov.isSome, H2, J, rfl, q2⟩
theorem pc_nnotin (hu : X.A.units + 10 < cLine) (hi : PE X i ty) (ho : PE X o td) : PC X .NotIn i o (tNNotIn X.prog X.w X.K ty td) := by
  constructor
  intro pins s σ H Q I h
  refine thn (hi.run pins s σ H _ I h) fun iv s1 h1 => ?_
  obtain ⟨y, H1, I1, ry, q1⟩ := h1
  refine thn (ho.run pins s1 σ H1 _ I1 q1) fun u s2 h2 => ?_
  obtain ⟨x, H2, I2, rx, a, ov, rfl, g, q2⟩ := h2
  cases (show u = Value.ref a from rx)
  exact n_notIn hu I2 g ry fun s3 J => ⟨.bl (!ov.isSome), H2, J, rfl, q2⟩
theorem ps_nput (hu : X.A.units + 10 < cLine) (ho : PE X o td) (hi : PE X i ty) (hv : PE X value tv) (hs : swapsWith value (some (.Subscript o i pos')) pos.line X.env = pure false) :
    PS X (.Assign [.Subscript o i pos'] value pos) (sNPut X.prog X.w X.K td ty tv) := by
  constructor
  intro pins s σ H D I h
  refine wpAny_Assign_Subscript (thn (hv.run pins s σ H _ I h) fun r s1 h1 => ?_) hs
  obtain ⟨v, H1, I1, rv, q1⟩ := h1
  refine thn (ho.run pins s1 σ H1 _ I1 q1) fun u s2 h2 => ?_
  obtain ⟨x, H2, I2, rx, q2⟩ := h2
  refine thn (hi.run pins s2 σ H2 _ I2 q2) fun iv s3 h3 => ?_
  obtain ⟨y, H3, I3, ry, a, H4, rfl, g, q3⟩ := h3
  cases (show u = Value.ref a from rx)
  exact n_setItem hu I3 g ry rv fun s4 J => ⟨σ, H4, J, q3⟩
/-- len(d) -/
def rLenN (P : Program) (w : World) (K : PySem.W.Frag) : List V → Hp → VK → Prop := fun xs H Q => ∃ (p : Addr) (es : List NE), xs = [.ref p] ∧ Rd H p (DNo P w p es) ∧ (∀ x ∈ es, KyAt K H x.1 x.2.1) ∧ Q (.int ((es.length : Nat) : Int)) H
theorem call_lenN : CallR X (.builtin "len") (rLenN X.prog X.w X.K) := by
  intro pins s σ H xs us Q I r h
  obtain ⟨p, es, rfl, hp, hk, q⟩ := h
  obtain ⟨u, rfl, rx⟩ := vals1 r
  obtain rfl : u = .ref p := rx
  obtain ⟨z, hd, ys, rel, dd⟩ := dn_of I hp hk
  have hl : es.length = ys.length := Paired.length rel
  refine call_len_dictH hd dd (by rw [← hl]; rw [sizeLine_eq] at z; omega) ?_
  rw [← hl]
  exact ⟨.int ((es.length : Nat) : Int), H, I.tok _, ⟨_, rfl⟩, q⟩
end
end XL
namespace XL
open PySem PySem.Spec PyProof.Rows L2
/-! ### such a dict displayed, gone through, asked by get -/
theorem dn_bare {P : Program} {w : World} (h : Heap) (big : sysModules < h.objs.size) : dnP P w h.objs.size [] (h.push { cls := .type "dict", data := .dict #[] }) := by
  refine ⟨Nat.zero_le _, ?_, [], .nil, _, #[], 0, Heap.get?_push_size _ rfl, ⟨rfl, rfl, rfl⟩, rfl, rfl, List.nodup_nil⟩
  rw [beq_eq_false_iff_ne]
  intro z
  rw [z] at big
  exact absurd big (Nat.lt_irrefl _)
def tNDisp (P : Program) (w : World) (K : PySem.W.Frag) (trs : List (TE × TE)) : TE := fun σ H Q => ∀ p, H p = none → tPairs trs σ (upd H p (DNo P w p [])) fun ps H2 =>
  H2 p = some (DNo P w p []) ∧ ∃ k b v, ps = [(.ref b, v)] ∧ KyAt K H2 k b ∧ Q (.ref p) (upd H2 p (DNo P w p [(k, b, v)]))
theorem pe_ndisp {X : Cx} {pos : Pos} {ke ve : Expr} {trs : List (TE × TE)} (hu : X.A.units + 10 < cLine) (hp : PPs X pos [some ke] [ve] trs) : PE X (.Dict [some ke] [ve] pos) (tNDisp X.prog X.w X.K trs) := by
  constructor
  intro pins s σ H Q I q
  have fresh := I.hok.fresh (Nat.le_refl s.heap.objs.size)
  have I1 := I.laid (t' := s.toks) (fun _ _ z => Heap.get?_push_of_some _ z) (Nat.le_refl _) (dn_ok (P := X.prog) (w := X.w) (H := upd H s.heap.objs.size (DNo X.prog X.w s.heap.objs.size [])) (dn_bare s.heap I.big))
  have shape := zip_pairTrees [some ke] [ve] X.env pos rfl rfl
  have one : (pairTrees [some ke] [ve] X.env pos).length = 1 := rfl
  rw [arm_eval_Dict, shape, dictDisplay_pairs _ (fun z => by rw [z] at one; cases one) (by rw [one]; decide)]
  refine wpAny_bind (wpAny_standAt (wpAny_bind (wpAny_subDictH (knd := nestedKind X.prog X.w) (show X.A.units + 8 < cLine by omega) (by rw [one]; decide) ?_)))
  refine thn (hp.run pins _ σ _ _ I1 (q _ fresh)) fun vs s2 h2 => ?_
  obtain ⟨ps, H2, I2, rel, e, k, b, v, rfl, kb, q2⟩ := h2
  cases rel with
  | @cons p0 p1 _ _ r t =>
    cases t
    obtain ⟨kv, vv⟩ := p1
    obtain rfl : kv = Value.ref b := r.1
    obtain ⟨z, hd, ys, r0, dd⟩ := dn_of I2 (.inl e) (fun x hx => nomatch hx)
    cases r0
    refine ⟨[(k, b, vv)], ⟨rfl, rfl, ky_is I2 kb, True.intro⟩, dd, fun h' tk dd' sb => wpAny_pure ⟨.ref s.heap.objs.size, _, ?_, rfl, q2⟩⟩
    obtain ⟨ob, en, ep, hq, x1, x2, x3, _, x5⟩ := dd'
    exact d_write I2 (by rw [e]; exact True.intro) sb ⟨ob, hq⟩ (dn_ok ⟨by show 1 ≤ sizeLine; decide, hd, _, .cons ⟨rfl, rfl, r.2⟩ .nil, ob, en, ep, hq, x1, x2, x3, x5⟩)
theorem frzN {X : Cx} {pins : List (Addr × Obj)} {σ : L2.St} {H : Hp} {s : Shared} {d : Addr} {o : Obj} {es : List NE} (I : Inv X pins σ H s) (h : H d = some (.frz o (DNo X.prog X.w d es))) :
    (d == sysModules) = false ∧ s.heap.get? d = some o ∧ o.ExactDict ∧ ∃ (en : Array DictEntry) (ep : Nat), o.data = .dict en ep ∧ en.size = es.length ∧
      ∀ (i : Nat) (e : NE), es[i]? = some e → ∃ q : DictEntry, en[i]? = some q ∧ q.key = .ref e.2.1 := by
  obtain ⟨g0, ⟨z, y, ys, r, ob, en, ep, g1, x1, x2, x3, x5⟩, _⟩ := (show ObjOk X.prog X.w H s.heap d (.frz o (DNo X.prog X.w d es)) from I.hok d _ h)
  rw [g0] at g1
  obtain rfl := Option.some.inj g1
  have sz : en.size = ys.length := by
    have := congrArg List.length x3
    rw [List.length_map, Array.length_toList] at this
    exact this
  refine ⟨y, g0, x1, en, ep, x2, by rw [sz]; exact (Paired.length r).symm, fun i e he => ?_⟩
  obtain ⟨u, hu, _, e2, _⟩ := r.ent he
  refine ⟨entryOfKey (nestedKind X.prog X.w) u, ?_, by show Value.ref u.2.1 = _; rw [e2]⟩
  rw [← Array.getElem?_toList, x3, List.getElem?_map, hu]; rfl
def Itn (P : Program) (w : World) (d : Addr) (o : Obj) (es : List NE) : It :=
  ⟨fun i H => H d = some (.frz o (DNo P w d es)) ∧ i < es.length, fun i H x H' => H' = H ∧ ∃ e, es[i]? = some e ∧ x = .ref e.2.1, fun i H => H d = some (.frz o (DNo P w d es)) ∧ es.length ≤ i⟩
theorem turn_n {P : Program} {w : World} {K : PySem.W.Frag} {tg : Expr} {d : Addr} {o : Obj} {en : Array DictEntry} {ep : Nat} {es : List NE} (it : Addr) (hod : o.data = .dict en ep) : Turn P w K tg (Itn P w d o es) [it] it (fun i h => h.IsKeyIter it d i es.length ep) where
  mem := List.mem_singleton.mpr rfl
  obj := fun i h st b hb => by
    obtain rfl := List.mem_singleton.mp hb
    obtain ⟨oi, e, c, dd⟩ := st
    exact ⟨oi, e, fun v z => by rw [dd] at z; cases z⟩
  keep := fun i h h' st k => st.at fun oi e => k it (List.mem_singleton.mpr rfl) oi e
  item := by
    intro X hP hw hK hc i pins s σ H E I hf st hg
    subst hP hw hK
    obtain ⟨f0, f1, f2, f3, f4, f5⟩ := hf it (List.mem_singleton.mpr rfl)
    obtain ⟨sm, g0, x1, en', ep', x2, sz, ent⟩ := frzN I hg.1
    obtain ⟨rfl, rfl⟩ := dict_ep hod x2
    obtain ⟨q, hq, hk⟩ := ent i (es[i]'hg.2) (List.getElem?_eq_getElem hg.2)
    refine next_key_item st g0 x2 sz hq fun h' st' sb => ?_
    have J : Inv X pins σ H { s with heap := h' } := I.turned (t' := s.toks) (fun b ob hb e => (sb.2 b hb).trans e) f0 f1 f3 f4 f5
    obtain ⟨oi, y1, y2, y3⟩ := id st'
    exact ⟨q.key, rfl, go_of (s := { s with heap := h' }) y1 y2 y3 (by decide) ⟨.ref (es[i]'hg.2).2.1, H, J, hk, ⟨rfl, _, List.getElem?_eq_getElem hg.2, rfl⟩, st', fun b hb => (hf b hb).1⟩⟩
  done := by
    intro X hP hw hK hc i pins s σ H E I hf st hg
    subst hP hw hK
    obtain ⟨f0, f1, f2, f3, f4, f5⟩ := hf it (List.mem_singleton.mpr rfl)
    obtain ⟨sm, g0, x1, en', ep', x2, sz, ent⟩ := frzN I hg.1
    obtain ⟨rfl, rfl⟩ := dict_ep hod x2
    exact next_key_end (I.ok.hd hc) st g0 x2 sz hg.2 fun h' eb => ⟨rfl, I.turned (t' := s.toks) (fun b ob hb e => eb b ob hb e) f0 f1 f3 f4 f5⟩
  self := fun A i s Q E st h => (turn_keysT (P := P) (w := w) (K := K) (tg := tg) (d := d) (o := o) (kvs := es.map fun _ => ([], V.non)) it hod).self A i s Q E (by rw [List.length_map]; exact st) h
theorem pe_ngetK {X : Cx} {o i : Expr} {pos : Pos} {td ty : TE} {P : Program} {w : World} {K : PySem.W.Frag} (hP : X.prog = P) (hw : X.w = w) (hK : X.K = K) (hu : X.A.units + 10 < cLine) (ho : PE X o td) (hi : PE X i ty) (hs : NoSl i) : PE X (.Subscript o i pos) (tNGet P w K td ty) := by
  subst hP hw hK
  exact pe_nget hu ho hi hs
def iNKeys (P : Program) (w : World) (td : TE) : TI := fun σ H R => td σ H fun x H1 => ∃ d o es, x = .ref d ∧ H1 d = some (.frz o (DNo P w d es)) ∧ R (Itn P w d o es) H1
theorem pi_nkeys {X : Cx} {tg e : Expr} {td : TE} (he : PE X e td) : PI X tg e (iNKeys X.prog X.w td) := by
  constructor
  intro pins s σ H R I h
  refine thn (he.run pins s σ H _ I h) fun u s1 hx => ?_
  obtain ⟨x, H1, I1, rx, d, o, es, rfl, hd, q⟩ := hx
  obtain rfl : u = Value.ref d := rx
  obtain ⟨sm, g0, x1, en, ep, x2, sz, ent⟩ := frzN I1 hd
  refine iter_keys sm g0 x1 x2 (pi_one (tk := s1.toks) I1 _ (turn_n _ x2) ⟨_, Heap.get?_push_size _ rfl, rfl, ?_⟩ q)
  rw [sz] <;> rfl
theorem walk_n {P : Program} {w : World} {d : Addr} {o : Obj} {es : List NE} : Walk (Itn P w d o es) es.length (fun H => H d = some (.frz o (DNo P w d es))) (fun i H x H' => H' = H ∧ ∃ e, es[i]? = some e ∧ x = .ref e.2.1) :=
  ⟨fun _ _ hi q => ⟨q, hi⟩, fun _ q => ⟨q, Nat.le_refl _⟩, fun _ _ _ _ _ _ y => y⟩
end XL
namespace XL
open PySem PySem.Spec PyProof.Rows L2
/-! ### a comprehension with a test whose elements are new objects -/
/-- ys is made of xs, one by one -/
def Parts {α : Type} (R : α → V → Hp → Prop) (xs : List α) (ys : List V) (F : Hp) : Prop := ys.length = xs.length ∧ ∀ (j : Nat) (y : V), ys[j]? = some y → ∃ a, xs[j]? = some a ∧ R a y F
theorem Parts.nil {α : Type} {R : α → V → Hp → Prop} {F : Hp} : Parts R [] [] F := ⟨rfl, fun j y e => by simp at e⟩
theorem Parts.mono {α : Type} {R : α → V → Hp → Prop} {xs : List α} {ys : List V} {A B : Hp} (h : Parts R xs ys A) (st : ∀ a y, R a y A → R a y B) : Parts R xs ys B := ⟨h.1, fun j y e => by
  obtain ⟨a, h1, h2⟩ := h.2 j y e
  exact ⟨a, h1, st a y h2⟩⟩
theorem Parts.append {α : Type} {R : α → V → Hp → Prop} {xs xs' : List α} {ys ys' : List V} {F : Hp} (h : Parts R xs ys F) (h' : Parts R xs' ys' F) : Parts R (xs ++ xs') (ys ++ ys') F := ⟨by rw [List.length_append, List.length_append, h.1, h'.1], fun j y e => by
  by_cases q : j < ys.length
  · rw [List.getElem?_append_left q] at e
    obtain ⟨a, h1, h2⟩ := h.2 j y e
    exact ⟨a, by rw [List.getElem?_append_left (by rw [← h.1]; exact q)]; exact h1, h2⟩
  · rw [List.getElem?_append_right (by omega)] at e
    obtain ⟨a, h1, h2⟩ := h'.2 _ y e
    exact ⟨a, by rw [List.getElem?_append_right (by rw [← h.1]; omega), ← h.1]; exact h1, h2⟩⟩
theorem Parts.one {α : Type} {R : α → V → Hp → Prop} {a : α} {y : V} {F : Hp} (h : R a y F) : Parts R [a] [y] F := ⟨rfl, fun j z e => by
  cases j with
  | zero => cases e; exact ⟨a, rfl, h⟩
  | succ j => simp at e⟩
theorem hide_put {t : TE} {σ2 : L2.St} {Fm : Hp} {D : Addr} {acc : List V} {Nx : Hp → Prop} (nm : Fm D = none) (hl : acc.length < sizeLine)
    (h : ∀ Q : VK, (∀ y F', (F' D = none → Nx (upd F' D (.lst (acc ++ [y])))) → Q y F') → t σ2 Fm Q) :
    tHide t σ2 (upd Fm D (.lst acc)) fun y H4 => ∃ acc', H4 D = some (.lst acc') ∧ acc'.length < sizeLine ∧ Nx (upd H4 D (.lst (acc' ++ [y]))) := by
  refine ⟨D, acc, upd_same, ?_⟩
  rw [delH_upd nm]
  exact h _ fun y F' q n => ⟨acc, upd_same, hl, by rw [upd_upd]; exact q n⟩
theorem filterMap_succ {α : Type} (it : Nat → Option α) (i : Nat) : (List.range (i + 1)).filterMap it = (List.range i).filterMap it ++ (it i).toList := by
  rw [List.range_succ, List.filterMap_append]
  cases e : it i with
  | none => simp [e]
  | some a => simp [e]
theorem filterMap_le {α : Type} (it : Nat → Option α) (i : Nat) : ((List.range i).filterMap it).length ≤ i := by
  have := List.length_filterMap_le it (List.range i)
  rw [List.length_range] at this
  exact this
theorem lc_filt {α : Type} {J : It} {n : Nat} {G : Hp → Prop} {Y : Nat → Hp → V → Hp → Prop} (w : Walk J n G Y) (Rl : Hp → Hp → Prop) (tr : ∀ {A B C}, Rl A B → Rl B C → Rl A C)
    (it : Nat → Option α) (R : α → V → Hp → Prop) (st : ∀ a y A B, Rl A B → R a y A → R a y B) {g : TG} {tt : TT} {t : TE} {vs : List Nat} {σ : L2.St} {H1 : Hp} {Qd : Addr → Hp → Prop} (hz : n < sizeLine)
    (rf : ∀ A, Rl A A) (hG : ∀ F D acc, Rl H1 F → F D = none → G (upd F D (.lst acc)))
    (hs : ∀ i x D acc F H', i < n → H1 D = none → Rl H1 F → F D = none → acc.length < sizeLine → Y i (upd F D (.lst acc)) x H' → ∀ Nx : Hp → Prop, (it i = none → ∀ F', Rl F F' → F' D = none → Nx (upd F' D (.lst acc))) →
      (∀ a, it i = some a → ∀ y F', Rl F F' → R a y F' → F' D = none → Nx (upd F' D (.lst (acc ++ [y])))) → g x (wipe σ vs) H' fun σ2 H2 => wipe σ2 vs = wipe σ vs ∧ tt σ2 H2 fun b H3 =>
        if b = true then tHide t σ2 H3 fun y H4 => ∃ acc, H4 D = some (.lst acc) ∧ acc.length < sizeLine ∧ Nx (upd H4 D (.lst (acc ++ [y]))) else Nx H3)
    (hd : ∀ D ys F, H1 D = none → Rl H1 F → F D = none → Parts R ((List.range n).filterMap it) ys F → Qd D (upd F D (.lst ys))) :
    ∀ D, H1 D = none → ∃ W : Nat → Nat → Hp → Prop, (∃ m, W 0 m (upd H1 D (.lst []))) ∧ ∀ i m H, W i m H →
      (J.stop i H ∧ Qd D H) ∨ (J.go i H ∧ ∃ Nx : Hp → Prop, (∀ H', Nx H' → ∃ m', m' < m ∧ W (i + 1) m' H') ∧ ∀ x H', J.yld i H x H' → g x (wipe σ vs) H' fun σ2 H2 => wipe σ2 vs = wipe σ vs ∧ tt σ2 H2 fun b H3 =>
        if b = true then tHide t σ2 H3 fun y H4 => ∃ acc, H4 D = some (.lst acc) ∧ acc.length < sizeLine ∧ Nx (upd H4 D (.lst (acc ++ [y]))) else Nx H3) := by
  intro D nD
  refine lc_it w (fun i H => ∃ ys F, H = upd F D (.lst ys) ∧ F D = none ∧ Rl H1 F ∧ Parts R ((List.range i).filterMap it) ys F) ⟨[], H1, rfl, nD, rf _, .nil⟩ ?_ ?_ ?_
  · rintro i H _ ⟨ys, F, rfl, nF, rl, _⟩
    exact hG F D ys rl nF
  · rintro i x H H' hi ⟨ys, F, rfl, nF, rl, hp⟩ hy
    have hl : ys.length < sizeLine := by
      have := filterMap_le it i
      rw [hp.1]; omega
    refine hs i x D ys F H' hi nD rl nF hl hy _ (fun e F' r' n' => ⟨ys, F', rfl, n', tr rl r', ?_⟩) (fun a e y F' r' ra n' => ⟨ys ++ [y], F', rfl, n', tr rl r', ?_⟩)
    · rw [filterMap_succ, e, Option.toList_none, List.append_nil]
      exact hp.mono fun a y => st a y _ _ r'
    · rw [filterMap_succ, e, Option.toList_some]
      exact (hp.mono fun a y => st a y _ _ r').append (.one ra)
  · rintro H ⟨ys, F, rfl, nF, rl, hp⟩
    exact hd D ys F nD rl nF hp
end XL
namespace XL
open PySem PySem.Spec PyProof.Rows L2
/-! ### a row of statements parted: what holds behind the first few, and what follows from it -/
section
variable {A1 A2 A3 A4 A5 A6 R : TS} {D : Ends} {σ : L2.St} {H : Hp}
theorem seq1 (Mid : L2.St → Hp → Prop) (h1 : ∀ N : L2.St → Hp → Prop, (∀ σ G, Mid σ G → N σ G) → A1 { D with nx := N } σ H) (h2 : ∀ σ G, Mid σ G → R D σ G) : tSeq A1 R D σ H := h1 (R D) h2
theorem seq2 (Mid : L2.St → Hp → Prop) (h1 : ∀ N : L2.St → Hp → Prop, (∀ σ G, Mid σ G → N σ G) → tSeq A1 A2 { D with nx := N } σ H) (h2 : ∀ σ G, Mid σ G → R D σ G) : tSeq A1 (tSeq A2 R) D σ H := h1 (R D) h2
theorem seq3 (Mid : L2.St → Hp → Prop) (h1 : ∀ N : L2.St → Hp → Prop, (∀ σ G, Mid σ G → N σ G) → tSeq A1 (tSeq A2 A3) { D with nx := N } σ H) (h2 : ∀ σ G, Mid σ G → R D σ G) : tSeq A1 (tSeq A2 (tSeq A3 R)) D σ H := h1 (R D) h2
theorem seq4 (Mid : L2.St → Hp → Prop) (h1 : ∀ N : L2.St → Hp → Prop, (∀ σ G, Mid σ G → N σ G) → tSeq A1 (tSeq A2 (tSeq A3 A4)) { D with nx := N } σ H) (h2 : ∀ σ G, Mid σ G → R D σ G) : tSeq A1 (tSeq A2 (tSeq A3 (tSeq A4 R))) D σ H := h1 (R D) h2
theorem seq5 (Mid : L2.St → Hp → Prop) (h1 : ∀ N : L2.St → Hp → Prop, (∀ σ G, Mid σ G → N σ G) → tSeq A1 (tSeq A2 (tSeq A3 (tSeq A4 A5))) { D with nx := N } σ H) (h2 : ∀ σ G, Mid σ G → R D σ G) : tSeq A1 (tSeq A2 (tSeq A3 (tSeq A4 (tSeq A5 R)))) D σ H := h1 (R D) h2
theorem seq6 (Mid : L2.St → Hp → Prop) (h1 : ∀ N : L2.St → Hp → Prop, (∀ σ G, Mid σ G → N σ G) → tSeq A1 (tSeq A2 (tSeq A3 (tSeq A4 (tSeq A5 A6)))) { D with nx := N } σ H) (h2 : ∀ σ G, Mid σ G → R D σ G) : tSeq A1 (tSeq A2 (tSeq A3 (tSeq A4 (tSeq A5 (tSeq A6 R))))) D σ H := h1 (R D) h2
end
end XL
set_option maxHeartbeats 4000000
namespace XL
open PySem PySem.Spec PyProof.Rows L2
/-- t * 1: t itself -/
theorem tup_mul1 (l : Addr) (items : Array Value) (n : Nat) (dd : Option Addr) (sl : Array (Option Value)) (u : Tok) :
    Meets (Builtin.«tuple.__mul__» ⟨[.ref l, .int 1 u], []⟩) (fun _ R s => s.heap.get? l = some { cls := .type "tuple", dict := dd, data := .seq items n, slots := sl } ∧ R (.ok (.ret (Value.ref l))) s) :=
  .of_wp fun prog w A R s h => by
    obtain ⟨hp, g, d, tk, os⟩ := s
    obtain ⟨hl, h⟩ := h
    have f1 := AutoSeq1.idx_int
    have c1 : (items.isEmpty || (1 : Int) == 1) = true := by rw [Bool.or_eq_true]; exact .inr rfl
    wp_walk using wpAny_loadPart' hl
    exact ⟨_, rfl, h⟩
/-- t * 0 -/
theorem tup_mul0 (l : Addr) (items : Array Value) (n : Nat) (dd : Option Addr) (sl : Array (Option Value)) (u : Tok) (he : items.isEmpty = false) :
    Meets (Builtin.«tuple.__mul__» ⟨[.ref l, .int 0 u], []⟩) (fun _ R s => s.heap.get? l = some { cls := .type "tuple", dict := dd, data := .seq items n, slots := sl } ∧ R (.ok (.ret (Value.ref s.heap.objs.size))) { s with heap := s.heap.push { cls := Value.type "tuple", data := Data.seq #[] }, toks := s.toks }) :=
  .of_wp fun prog w A R s h => by
    obtain ⟨hp, g, d, tk, os⟩ := s
    obtain ⟨hl, h⟩ := h
    have f1 := AutoSeq1.idx_int
    have c1 : (items.isEmpty || (0 : Int) == 1) = false := by rw [he]; rfl
    wp_walk using wpAny_loadPart' hl
    repeat (first
      | (refine wpAny_ite_false (decide_eq_false (by rw [c1]; exact Bool.false_ne_true)) ?_; wp_walk using wpAny_loadPart' hl))
    exact ⟨_, rfl, h⟩
def rRepU (K : PySem.W.Frag) : R2 := fun x y H Q => ∃ l k xs, x = .ref l ∧ y = .int k ∧ SqT K H l xs ∧ xs ≠ [] ∧ 0 ≤ k ∧ k ≤ 1000 ∧ xs.length ≤ 1000 ∧ ∀ p H', Same H H' → SqT K H' p (List.replicate k.toNat xs).flatten → Q (.ref p) H'
theorem op_repU {X : Cx} : OpR X (binaryOp .Mult) (rRepU X.K) := by
  intro pins s σ H x y v u Q I rx ry h
  obtain ⟨l, k, xs, e1, e2, hT, hne, h0, h2, hz, q⟩ := h
  by_cases hk : 2 ≤ k
  · exact op_repT pins s σ H x y v u Q I rx ry ⟨l, k, xs, e1, e2, hT, hne, hk, h2, hz, fun p np => q p _ (fun b o e => by rw [upd_ne (ne_of_none e np)]; exact e) (.inl (.inl upd_same))⟩
  subst e1 e2
  cases rx
  obtain ⟨t, rfl⟩ := ry
  obtain ⟨its, r, ⟨⟨cls, dd, data, sl⟩, ho, hc, n, hd⟩, hs⟩ := I.tuple hT
  simp only at hc hd
  subst hc hd
  have hle : its.length = xs.length := r.length.symm
  have hn : its ≠ [] := fun e => hne (by
    rw [e] at hle
    exact List.eq_nil_of_length_eq_zero hle.symm)
  have hi : its.toArray.isEmpty = false := by
    cases its with
    | nil => exact absurd rfl hn
    | cons a b => rfl
  have hk' : k = 0 ∨ k = 1 := by omega
  rcases hk' with rfl | rfl
  · refine wpAny_binaryOp_repeat_ref (T := "tuple") (U := "int") (by decide) ⟨_, ho, rfl⟩ (fun s' => typeIs_int s' 0 t) noFill_tuple_mul F.fills_int_mul F.slot_int_rmul repeat_tuple F.slot_int_index.lookup
      (call_meets F.slot_int_rmul (typeIs_int s 0 t) F.entry_int_rmul (F.args_int_rmul_2 _ _) (int_rmul_tuple 0 t l its.toArray n dd sl)
        ⟨ho, rfl, ⟨_, ho, rfl⟩, call_meets F.slot_tuple_mul ⟨_, ho, rfl⟩ F.entry_tuple_mul (F.args_tuple_mul_2 _ _) (tup_mul0 l its.toArray n dd sl t hi) ⟨ho, ?_⟩⟩)
    have hf := I.hok.fresh (Nat.le_refl s.heap.objs.size)
    refine ⟨.ref s.heap.objs.size, _, I.laid (t' := s.toks) (o := .tup []) (fun b ob q => Heap.get?_push_of_some _ q) (Nat.le_refl _) ?_, rfl, q _ _ (fun b o e => by rw [upd_ne (ne_of_none e hf)]; exact e) (.inl (.inl upd_same))⟩
    exact ⟨Nat.zero_le _, [], .nil, IsTup.new _ _⟩
  · refine wpAny_binaryOp_repeat_ref (T := "tuple") (U := "int") (by decide) ⟨_, ho, rfl⟩ (fun s' => typeIs_int s' 1 t) noFill_tuple_mul F.fills_int_mul F.slot_int_rmul repeat_tuple F.slot_int_index.lookup
      (call_meets F.slot_int_rmul (typeIs_int s 1 t) F.entry_int_rmul (F.args_int_rmul_2 _ _) (int_rmul_tuple 1 t l its.toArray n dd sl)
        ⟨ho, rfl, ⟨_, ho, rfl⟩, call_meets F.slot_tuple_mul ⟨_, ho, rfl⟩ F.entry_tuple_mul (F.args_tuple_mul_2 _ _) (tup_mul1 l its.toArray n dd sl t) ⟨ho, ?_⟩⟩)
    refine ⟨.ref l, H, I, rfl, q l H (Same.refl _) ?_⟩
    have e : (List.replicate (Int.toNat 1) xs).flatten = xs := by
      show (List.replicate 1 xs).flatten = xs
      simp
    rw [e]; exact hT
end XL
namespace XL
open PySem PySem.Spec PyProof.Rows L2
/-! ### sum of a tuple of numbers -/
def rSumT (K : PySem.W.Frag) : List V → Hp → VK → Prop := fun vs H Q => ∃ (a : Addr) (ns : List Int), vs = [V.ref a] ∧ SqT K H a (ns.map V.int) ∧ Q (.int ns.sum) H
theorem cr_sumT {X : Cx} (hc : X.calm = true) : CallR X (.builtin "sum") (rSumT X.K) := by
  intro pins s σ H vs us Q I r h
  obtain ⟨a, ns, rfl, hs, q⟩ := h
  obtain ⟨its, rv, ht, _⟩ := I.tuple hs
  rw [Vals.ref1 r]
  have hi := rv.ints
  obtain ⟨xs, hx⟩ := hi.allInts.items
  have hn : numsOf its.toArray.toList = ns := by rw [show its.toArray.toList = its from rfl, hi.numsOf]
  have ht' : s.heap.IsTuple a its.toArray := ht
  rw [hx] at ht' hn
  rw [nums_intItems] at hn
  refine PySem.W.ktm_sumG (I.ok.hd hc) ht' fun h' tk t' hk => ?_
  rw [preSum_eq, List.take_of_length_le (by simp), hn]
  exact ⟨.int _, H, I.kept hk, ⟨_, rfl⟩, q⟩
theorem boot_sum' : bootBuiltins "sum" = some (.builtin "sum") := by decide +kernel
theorem hu10 {X : Cx} (h : X.A.units + 64 < cLine) : X.A.units + 10 < cLine := by omega
end XL
namespace XL
open PySem PySem.Spec PyProof.Rows L2
/-! ### tuple + tuple, in one rule -/
def rCatU (K : PySem.W.Frag) : R2 := fun x y H Q => ∃ a b xs ys, x = .ref a ∧ y = .ref b ∧ SqT K H a xs ∧ SqT K H b ys ∧ xs.length + ys.length ≤ sizeLine ∧ ∀ p H', Same H H' → SqT K H' p (xs ++ ys) → Q (.ref p) H'
theorem op_catU {X : Cx} : OpR X (binaryOp .Add) (rCatU X.K) := by
  intro pins s σ H x y v u Q I rx ry h
  obtain ⟨a, b, xs, ys, e1, e2, ha, hb, hz, q⟩ := h
  refine op_catA pins s σ H x y v u Q I rx ry ⟨a, b, xs, ys, e1, e2, ha, hb, hz, fun e => ?_, fun _ e => ?_, fun _ _ p np => ?_⟩
  · subst e; exact q b H (Same.refl _) hb
  · subst e; exact q a H (Same.refl _) (by rw [List.append_nil]; exact ha)
  · exact q p _ (same_new np) (.inl (.inl upd_same))
end XL
namespace XL
open PySem PySem.Spec PyProof.Rows L2
/-! ### a comprehension over zip of two: both lists, or both tuples -/
theorem walk_zipT {K : PySem.W.Frag} {a b : Addr} {xs ys : List V} {n : Nat} (hn : n = min xs.length ys.length) : Walk (RZ.ItzT K a b) n (fun H => SqT K H a xs ∧ SqT K H b ys) (YPair (fun i => xs[i]?) (fun i => ys[i]?)) := by
  subst hn
  refine ⟨fun i _ hi q => ?_, fun _ q => ⟨xs, ys, q.1, q.2, by omega⟩, fun i H v H' _ q y => ?_⟩
  · have h1 : i < xs.length := by omega
    have h2 : i < ys.length := by omega
    exact ⟨xs, ys, xs[i], ys[i], q.1, q.2, by simp [h1], by simp [h2]⟩
  · obtain ⟨T, x, z, h1, h2, h3, h4, h5⟩ := y
    exact ⟨T, x, z, h1, h2, h3, h4 xs q.1, h5 ys q.2⟩
def iZ2 (K : PySem.W.Frag) (ta : TA) : TI := fun σ H R => ta σ H fun vs H1 => ∃ a b xs ys, vs = [.ref a, .ref b] ∧ ((SqL K H1 a xs ∧ SqL K H1 b ys) ∨ (SqT K H1 a xs ∧ SqT K H1 b ys)) ∧
  ∀ J, Walk J (min xs.length ys.length) (fun H => Same H1 H) (YPair (fun i => xs[i]?) (fun i => ys[i]?)) → R J H1
theorem pi_z2 {X : Cx} {e e2 : Expr} {ta : TA} {p pos tpos : Pos} {elts : List Expr} {kk : Nat} (hg : Gl X "zip") (hm : X.mg "zip" = none) (ha : PA X [e, e2] ta)
    (hs : starEach [e, e2] X.env = (false, eval e X.env) :: starEach [e2] X.env := by rfl) (hpl : (backTo pos (starEach [e2] X.env)).any (·.1) = false := by rfl) :
    PI X (.Tuple elts kk tpos) (.Call (.Name "zip" p) [e, e2] [] pos) (iZ2 X.K ta) := by
  refine ⟨fun pins s σ H R I h => ?_⟩
  refine Call_ (ld_blt I hg hm PyProof.Rows.boot_zip (PyProof.Rows.callWith_type1 (thn (ha.run pos pins s σ H _ I h) fun us s1 ⟨vs, H1, I1, r1, q1⟩ => ?_) hs hpl))
  obtain ⟨a, b, xs, ys, ex, q1, q⟩ := q1
  subst ex
  cases r1 with
  | cons r rr =>
    cases rr with
    | cons r' rr =>
      cases rr
      cases r
      cases r'
      have fresh5 : ∀ c, c ∈ [s1.heap.objs.size + 4, s1.heap.objs.size + 2, s1.heap.objs.size + 3, s1.heap.objs.size, s1.heap.objs.size + 1] → FpOk X pins H1 c := fun c hcm => by
        have e' : c = s1.heap.objs.size + 4 ∨ c = s1.heap.objs.size + 2 ∨ c = s1.heap.objs.size + 3 ∨ c = s1.heap.objs.size ∨ c = s1.heap.objs.size + 1 := by simpa using hcm
        have hle : s1.heap.objs.size ≤ c := by
          rcases e' with z | z | z | z | z
          · rw [z]; exact Nat.le_add_right _ _
          · rw [z]; exact Nat.le_add_right _ _
          · rw [z]; exact Nat.le_add_right _ _
          · rw [z]; exact Nat.le_refl _
          · rw [z]; exact Nat.le_add_right _ _
        exact I1.fpOk hle (I1.hok.fresh hle)
      rcases q1 with ⟨hqx, hqy⟩ | ⟨hqx, hqy⟩
      · obtain ⟨its, rv, p1, _⟩ := I1.list hqx
        obtain ⟨its2, rv2, p2, _⟩ := I1.list hqy
        refine call_zip_2 p1.isList p2.isList fun h' hz hTI hTO h1 h2 hsz hk => wpAny_pyIter_zip hz ?_
        have I2 : Inv X pins σ H1 { s1 with heap := h' } := I1.kept (t' := s1.toks) hk
        exact ⟨s1.heap.objs.size + 4, [s1.heap.objs.size + 4, s1.heap.objs.size + 2, s1.heap.objs.size + 3, s1.heap.objs.size, s1.heap.objs.size + 1], _, _, H1, rfl, I2, turn_zip (PySem.W.ktu_apart s1.heap.objs.size a b p1.lt p2.lt), ⟨hz, hTI, ⟨_, _, hTO⟩, h1, h2⟩, fresh5, q _ ((walk_zip rfl).mono (fun H s => ⟨s.seq hqx, s.seq hqy⟩) fun _ _ _ _ _ _ y => y)⟩
      · obtain ⟨its, rv, p1, _⟩ := I1.tuple hqx
        obtain ⟨its2, rv2, p2, _⟩ := I1.tuple hqy
        obtain ⟨o1, ho1, _⟩ := id p1
        obtain ⟨o2, ho2, _⟩ := id p2
        refine RZ.call_zipT (show s1.heap.IsTuple a its.toArray from p1) (show s1.heap.IsTuple b its2.toArray from p2) fun h' hz hTI hTO h1 h2 hsz hk => wpAny_pyIter_zip hz ?_
        have I2 : Inv X pins σ H1 { s1 with heap := h' } := I1.kept (t' := s1.toks) hk
        exact ⟨s1.heap.objs.size + 4, [s1.heap.objs.size + 4, s1.heap.objs.size + 2, s1.heap.objs.size + 3, s1.heap.objs.size, s1.heap.objs.size + 1], _, _, H1, rfl, I2, RZ.turn_zipT (PySem.W.ktu_apart s1.heap.objs.size a b (Heap.lt_size ho1) (Heap.lt_size ho2)), ⟨hz, hTI, ⟨_, _, hTO⟩, h1, h2⟩, fresh5, q _ ((walk_zipT rfl).mono (fun H s => ⟨Same.tup s hqx, Same.tup s hqy⟩) fun _ _ _ _ _ _ y => y)⟩
/-! ### zip of three lists -/
def YTrip (xs ys zs : Nat → Option V) : Nat → Hp → V → Hp → Prop := fun i H v H' => ∃ T x y z, v = .ref T ∧ H T = none ∧ H' = upd H T (.tup [x, y, z]) ∧ xs i = some x ∧ ys i = some y ∧ zs i = some z
def Itz3 (K : PySem.W.Frag) (a b c : Addr) : It :=
  ⟨fun i H => ∃ (xs ys zs : List V) (x y z : V), SqL K H a xs ∧ SqL K H b ys ∧ SqL K H c zs ∧ xs[i]? = some x ∧ ys[i]? = some y ∧ zs[i]? = some z,
    fun i H v H' => ∃ T x y z, v = .ref T ∧ H T = none ∧ H' = upd H T (.tup [x, y, z]) ∧ (∀ xs, SqL K H a xs → xs[i]? = some x) ∧ (∀ ys, SqL K H b ys → ys[i]? = some y) ∧ ∀ zs, SqL K H c zs → zs[i]? = some z,
    fun i H => ∃ xs ys zs : List V, SqL K H a xs ∧ SqL K H b ys ∧ SqL K H c zs ∧ i ≤ xs.length ∧ i ≤ ys.length ∧ i ≤ zs.length ∧ (i = xs.length ∨ i = ys.length ∨ i = zs.length)⟩
theorem turn_zip3 {P : Program} {w : World} {K : PySem.W.Frag} {elts : List Expr} {kk : Nat} {tpos : Pos} {a b c z TI TO i1 i2 i3 : Addr} (S : ZipSep3 z TI TO i1 i2 i3 [i1, a] [i2, b] [i3, c]) (na : a ≠ i1) (nb : b ≠ i2) (nc : c ≠ i3) :
    Turn P w K (.Tuple elts kk tpos) (Itz3 K a b c) [z, TI, TO, i1, i2, i3] z (fun i h => IsZip h z TI TO .none ∧ IsTupOf3 h TI (.ref i1) (.ref i2) (.ref i3) ∧ (∃ x y u, IsTupOf3 h TO x y u) ∧ h.IsListIter i1 a i ∧ h.IsListIter i2 b i ∧ h.IsListIter i3 c i) where
  mem := by simp
  obj := fun i h st c hc => by
    obtain ⟨hz, hTI, ⟨x, y, u, hTO⟩, ⟨o1, e1, _, d1⟩, ⟨o2, e2, _, d2⟩, ⟨o3, e3, _, d3⟩⟩ := st
    have e' : c = z ∨ c = TI ∨ c = TO ∨ c = i1 ∨ c = i2 ∨ c = i3 := by simpa using hc
    rcases e' with q | q | q | q | q | q
    · rw [q]; exact ⟨_, hz, fun v q => nomatch q⟩
    · rw [q]; exact ⟨_, hTI, fun v q => nomatch q⟩
    · rw [q]; exact ⟨_, hTO, fun v q => nomatch q⟩
    · rw [q]; exact ⟨o1, e1, fun v q => by rw [d1] at q; cases q⟩
    · rw [q]; exact ⟨o2, e2, fun v q => by rw [d2] at q; cases q⟩
    · rw [q]; exact ⟨o3, e3, fun v q => by rw [d3] at q; cases q⟩
  keep := fun i h h' st k => by
    obtain ⟨hz, hTI, ⟨x, y, u, hTO⟩, h1, h2, h3⟩ := st
    exact ⟨k z (by simp) _ hz, k TI (by simp) _ hTI, ⟨x, y, u, k TO (by simp) _ hTO⟩, h1.at fun o q => k i1 (by simp) o q, h2.at fun o q => k i2 (by simp) o q, h3.at fun o q => k i3 (by simp) o q⟩
  item := by
    intro X hP hw hK hc i pins s σ H E I hf st hg
    subst hP hw hK
    obtain ⟨hz, hTI, ⟨x0, y0, u0, hTO⟩, h1, h2, h3⟩ := st
    obtain ⟨xs, ys, zs, x, y, z', hqx, hqy, hqz, hx, hy, hzz⟩ := hg
    obtain ⟨its, rv, p, _⟩ := I.list hqx
    obtain ⟨its2, rv2, p2, _⟩ := I.list hqy
    obtain ⟨its3, rv3, p3, _⟩ := I.list hqz
    obtain ⟨u, hu, ru⟩ := rv.get hx
    obtain ⟨u2, hu2, ru2⟩ := rv2.get hy
    obtain ⟨u3, hu3, ru3⟩ := rv3.get hzz
    have hzl : z < s.heap.objs.size := Heap.lt_size hz
    have lt : ∀ {l : List Value} {v : Value}, l[i]? = some v → i < l.toArray.size := fun {l v} e => by rw [List.size_toArray]; exact (List.getElem?_eq_some_iff.mp e).1
    refine wpAny_pyNext_zipD3_item S (Draws.list (A := X.A.in1) (I.ok.hd hc) i1 a na its.toArray) (Draws.list (A := X.A.in1) (I.ok.hd hc) i2 b nb its2.toArray) (Draws.list (A := X.A.in1) (I.ok.hd hc) i3 c nc its3.toArray) hz hTI hTO ⟨h1, p.isList⟩ ⟨h2, p2.isList⟩ ⟨h3, p3.isList⟩ (lt hu) (lt hu2) (lt hu3) fun v1 v2 v3 h' tk y1 y2 y3 zh TO' d1 d2 d3 hT hsz hk => ?_
    have ev : ∀ {l : List Value} {v v' : Value}, l.toArray[i]? = some v' → l[i]? = some v → v' = v := fun {l v v'} e1 e2 => by
      rw [List.getElem?_toArray, e2] at e1; exact (Option.some.inj e1).symm
    obtain rfl := ev y1 hu
    obtain rfl := ev y2 hu2
    obtain rfl := ev y3 hu3
    refine ⟨_, rfl, wpAny_letOwnedTupleGo_zip (s := { s with heap := h', toks := tk }) zh fun h'' z'' sb => ?_⟩
    have hT2 : h''.get? s.heap.objs.size = some { cls := .type "tuple", data := .seq #[v1, v2, v3] } := (sb.2 _ (Nat.ne_of_gt hzl)).trans hT
    have new : ObjOk X.prog X.w (upd H s.heap.objs.size (.tup [x, y, z'])) h'' s.heap.objs.size (.tup [x, y, z']) :=
      ⟨by show 3 ≤ sizeLine; decide, [v1, v2, v3], .cons ru (.cons ru2 (.cons ru3 .nil)), ⟨_, hT2, rfl, _, rfl⟩⟩
    have I1 : Inv X pins σ (upd H s.heap.objs.size (.tup [x, y, z'])) { s with heap := h'', toks := tk } :=
      I.turnedNew (ch := [z, TI, TO, i1, i2, i3]) (fun c o hb q => (sb.2 c (fun q' => hb (by simp [q']))).trans (hk c o (fun q' => hb (by simp [q'])) (fun q' => hb (by simp [q'])) (fun q' => hb (by simp [q'])) (fun q' => hb (by simp [q'])) (fun q' => hb (by simp [q'])) q)) hf (Nat.le_refl _) new
    refine ⟨.ref s.heap.objs.size, _, I1, rfl, ⟨_, x, y, z', rfl, I.hok.fresh (Nat.le_refl _), rfl, fun l hl => by rw [I.list_inj hl hqx]; exact hx, fun l hl => by rw [I.list_inj hl hqy]; exact hy, fun l hl => by rw [I.list_inj hl hqz]; exact hzz⟩, ⟨z'', ?_, ⟨v1, v2, v3, ?_⟩, ?_, ?_, ?_⟩, fun c hcm => ?_⟩
    · exact (sb.2 _ S.TIz).trans (hk _ _ S.TIz S.TITO S.TIi1 S.TIi2 S.TIi3 hTI)
    · exact (sb.2 _ S.TOz).trans TO'
    · exact d1.1.at fun o q => (sb.2 _ (Ne.symm S.zi1)).trans q
    · exact d2.1.at fun o q => (sb.2 _ (Ne.symm S.zi2)).trans q
    · exact d3.1.at fun o q => (sb.2 _ (Ne.symm S.zi3)).trans q
    · have hlt : c < s.heap.objs.size := by
        have e' : c = z ∨ c = TI ∨ c = TO ∨ c = i1 ∨ c = i2 ∨ c = i3 := by simpa using hcm
        rcases e' with q | q | q | q | q | q
        · rw [q]; exact hzl
        · rw [q]; exact Heap.lt_size hTI
        · rw [q]; exact Heap.lt_size hTO
        · rw [q]; obtain ⟨_, e1, _⟩ := h1; exact Heap.lt_size e1
        · rw [q]; obtain ⟨_, e2, _⟩ := h2; exact Heap.lt_size e2
        · rw [q]; obtain ⟨_, e3, _⟩ := h3; exact Heap.lt_size e3
      rw [upd_ne (Nat.ne_of_lt hlt)]
      exact (hf c hcm).1
  done := by
    intro X hP hw hK hc i pins s σ H E I hf st hg
    subst hP hw hK
    obtain ⟨hz, hTI, ⟨x0, y0, u0, hTO⟩, h1, h2, h3⟩ := st
    obtain ⟨xs, ys, zs, hqx, hqy, hqz, e1, e2, e3, hend⟩ := hg
    obtain ⟨its, rv, p, _⟩ := I.list hqx
    obtain ⟨its2, rv2, p2, _⟩ := I.list hqy
    obtain ⟨its3, rv3, p3, _⟩ := I.list hqz
    have l1 := rv.length
    have l2 := rv2.length
    have l3 := rv3.length
    exact wpAny_pyNext_zipD3_end S (Draws.list (A := X.A.in1) (I.ok.hd hc) i1 a na its.toArray) (Draws.list (A := X.A.in1) (I.ok.hd hc) i2 b nb its2.toArray) (Draws.list (A := X.A.in1) (I.ok.hd hc) i3 c nc its3.toArray) hz hTI hTO ⟨h1, p.isList⟩ ⟨h2, p2.isList⟩ ⟨h3, p3.isList⟩ (by rw [List.size_toArray]; omega) (by rw [List.size_toArray]; omega) (by rw [List.size_toArray]; omega) (by rw [List.size_toArray, List.size_toArray, List.size_toArray]; omega)
      fun h' tk hk => ⟨rfl, I.turnedL (t' := tk) (ch := [z, TI, TO, i1, i2, i3]) (fun c o hb q =>
      hk c o (fun q' => hb (by simp [q'])) (fun q' => hb (by simp [q'])) (fun q' => hb (by simp [q'])) (fun q' => hb (by simp [q'])) (fun q' => hb (by simp [q'])) q) hf⟩
  self := fun A i s Q E st h => wpAny_pyIter_zip st.1 h
theorem walk_zip3 {K : PySem.W.Frag} {a b c : Addr} {xs ys zs : List V} {n : Nat} (hn : n = min (min xs.length ys.length) zs.length) : Walk (Itz3 K a b c) n (fun H => SqL K H a xs ∧ SqL K H b ys ∧ SqL K H c zs) (YTrip (fun i => xs[i]?) (fun i => ys[i]?) (fun i => zs[i]?)) := by
  subst hn
  refine ⟨fun i _ hi q => ?_, fun _ q => ⟨xs, ys, zs, q.1, q.2.1, q.2.2, by omega, by omega, by omega, by omega⟩, fun i H v H' _ q y => ?_⟩
  · have h1 : i < xs.length := by omega
    have h2 : i < ys.length := by omega
    have h3 : i < zs.length := by omega
    exact ⟨xs, ys, zs, xs[i], ys[i], zs[i], q.1, q.2.1, q.2.2, by simp [h1], by simp [h2], by simp [h3]⟩
  · obtain ⟨T, x, y, z, h1, h2, h3, h4, h5, h6⟩ := y
    exact ⟨T, x, y, z, h1, h2, h3, h4 xs q.1, h5 ys q.2.1, h6 zs q.2.2⟩
def iZ3 (K : PySem.W.Frag) (ta : TA) : TI := fun σ H R => ta σ H fun vs H1 => ∃ a b c xs ys zs, vs = [.ref a, .ref b, .ref c] ∧ SqL K H1 a xs ∧ SqL K H1 b ys ∧ SqL K H1 c zs ∧
  ∀ J, Walk J (min (min xs.length ys.length) zs.length) (fun H => Same H1 H) (YTrip (fun i => xs[i]?) (fun i => ys[i]?) (fun i => zs[i]?)) → R J H1
theorem pi_z3 {X : Cx} {e e2 e3 : Expr} {ta : TA} {p pos tpos : Pos} {elts : List Expr} {kk : Nat} (hg : Gl X "zip") (hm : X.mg "zip" = none) (ha : PA X [e, e2, e3] ta)
    (hs : starEach [e, e2, e3] X.env = (false, eval e X.env) :: starEach [e2, e3] X.env := by rfl) (hpl : (backTo pos (starEach [e2, e3] X.env)).any (·.1) = false := by rfl) :
    PI X (.Tuple elts kk tpos) (.Call (.Name "zip" p) [e, e2, e3] [] pos) (iZ3 X.K ta) := by
  refine ⟨fun pins s σ H R I h => ?_⟩
  refine Call_ (ld_blt I hg hm PyProof.Rows.boot_zip (PyProof.Rows.callWith_type1 (thn (ha.run pos pins s σ H _ I h) fun us s1 ⟨vs, H1, I1, r1, q1⟩ => ?_) hs hpl))
  obtain ⟨a, b, c, xs, ys, zs, ex, hqx, hqy, hqz, q⟩ := q1
  subst ex
  cases r1 with
  | cons r rr =>
    cases rr with
    | cons r' rr =>
      cases rr with
      | cons r'' rr =>
        cases rr
        cases r
        cases r'
        cases r''
        obtain ⟨its, rv, p1, _⟩ := I1.list hqx
        obtain ⟨its2, rv2, p2, _⟩ := I1.list hqy
        obtain ⟨its3, rv3, p3, _⟩ := I1.list hqz
        have la : a < s1.heap.objs.size := p1.lt
        have lb : b < s1.heap.objs.size := p2.lt
        have lc : c < s1.heap.objs.size := p3.lt
        have S := zip_sep3 (N := s1.heap.objs.size) (fp1 := [a]) (fp2 := [b]) (fp3 := [c]) (fun x hx => by rw [List.mem_singleton.mp hx]; exact la) (fun x hx => by rw [List.mem_singleton.mp hx]; exact lb) (fun x hx => by rw [List.mem_singleton.mp hx]; exact lc)
        refine zip_begins3 (begins_list a its.toArray) (begins_list b its2.toArray) (begins_list c its3.toArray) p1.isList p2.isList p3.isList fun h' hz hTI hTO h1 h2 h3 hsz hk => wpAny_pyIter_zip hz ?_
        have I2 : Inv X pins σ H1 { s1 with heap := h' } := I1.kept (t' := s1.toks) hk
        refine ⟨s1.heap.objs.size + 5, [s1.heap.objs.size + 5, s1.heap.objs.size + 3, s1.heap.objs.size + 4, s1.heap.objs.size, s1.heap.objs.size + 1, s1.heap.objs.size + 2], _, _, H1, rfl, I2, turn_zip3 S (Nat.ne_of_lt la) (Nat.ne_of_lt (Nat.lt_succ_of_lt lb)) (Nat.ne_of_lt (Nat.lt_succ_of_lt (Nat.lt_succ_of_lt lc))), ⟨hz, hTI, ⟨_, _, _, hTO⟩, ⟨_, h1, rfl, rfl⟩, ⟨_, h2, rfl, rfl⟩, ⟨_, h3, rfl, rfl⟩⟩, fun x hcm => ?_, q _ ((walk_zip3 rfl).mono (fun H s => ⟨s.seq hqx, s.seq hqy, s.seq hqz⟩) fun _ _ _ _ _ _ y => y)⟩
        have e' : x = s1.heap.objs.size + 5 ∨ x = s1.heap.objs.size + 3 ∨ x = s1.heap.objs.size + 4 ∨ x = s1.heap.objs.size ∨ x = s1.heap.objs.size + 1 ∨ x = s1.heap.objs.size + 2 := by simpa using hcm
        have hle : s1.heap.objs.size ≤ x := by
          rcases e' with z | z | z | z | z | z
          · rw [z]; exact Nat.le_add_right _ _
          · rw [z]; exact Nat.le_add_right _ _
          · rw [z]; exact Nat.le_add_right _ _
          · rw [z]; exact Nat.le_refl _
          · rw [z]; exact Nat.le_add_right _ _
          · rw [z]; exact Nat.le_add_right _ _
        exact I1.fpOk hle (I1.hok.fresh hle)
end XL
namespace XL
open PySem PySem.Spec PyProof.Rows L2
theorem boot_isinstance : bootBuiltins "isinstance" = some (.builtin "isinstance") := by decide +kernel
section
variable {P : Program} {w : World} {K : PySem.W.Frag} {mg : Str → Option Value} {base : Heap}
theorem no_fn {f : Addr} {fd : FuncData} {ps : List Str} {sp : Sp} (no : ∀ vs H Q E, ¬ sp vs H Q E) : FnOk P w K mg base CX0 0 f fd ps sp :=
  ⟨fun vs H Q E h => absurd h (no vs H Q E), fun A outer s H args us vs Q E _ _ _ _ h => absurd h (no vs H Q E)⟩
/-- the values of a list of data, mapped -/
theorem dpall_of {F : Hp} {f : PyData → PyData} : ∀ {ys : List V} {ds : List PyData}, ys.length = ds.length → (∀ (i : Nat) y, ys[i]? = some y → ∃ d, ds[i]? = some d ∧ Dp K F y (f d)) → DpAll K F ys (ds.map f)
  | [], [], _, _ => .nil
  | [], _ :: _, h, _ => by simp at h
  | _ :: _, [], h, _ => by simp at h
  | y :: ys, d :: ds, h, hi => by
    obtain ⟨d', e, p⟩ := hi 0 y rfl
    have e' : d = d' := by simpa using e
    subst e'
    exact .cons p (dpall_of (by simpa using h) fun i z q => by
      have := hi (i + 1) z (by simpa using q)
      simpa using this)
/-! ### _law_lists -/
end
theorem boot_all : bootBuiltins "all" = some (.builtin "all") := by decide +kernel
theorem boot_bool' : bootBuiltins "bool" = some (.type "bool") := by decide +kernel
theorem boot_str' : bootBuiltins "str" = some (.type "str") := by decide +kernel
theorem boot_int' : bootBuiltins "int" = some (.type "int") := by decide +kernel
section
variable {P : Program} {w : World} {K : PySem.W.Frag} {mg : Str → Option Value} {base : Heap}
def isBS : PyData → Bool
  | .bool _ => true
  | .str _ => true
  | _ => false
def isB : PyData → Bool
  | .bool _ => true
  | _ => false
theorem kitf {a b : String} (h : kitB a b = some false) : PySem.W.kitOne K (.type a) (.type b) = some false := kit_ty h
theorem kitt {a b : String} (h : kitB a b = some true) : PySem.W.kitOne K (.type a) (.type b) = some true := kit_ty h
theorem kit_list (d : PyData) : ∃ b, PySem.W.kitOne K (tyD d) (.type "list") = some b := by cases d <;> first | exact ⟨false, kitf (by decide +kernel)⟩ | exact ⟨true, kitt (by decide +kernel)⟩
theorem kit_tuple (d : PyData) : ∃ b, PySem.W.kitOne K (tyD d) (.type "tuple") = some b := by cases d <;> first | exact ⟨false, kitf (by decide +kernel)⟩ | exact ⟨true, kitt (by decide +kernel)⟩
theorem kit_bool (d : PyData) : PySem.W.kitOne K (tyD d) (.type "bool") = some (isB d) := by cases d <;> first | exact kitf (by decide +kernel) | exact kitt (by decide +kernel)
theorem kit_int (i : Int) : PySem.W.kitOne K (tyD (.int i)) (.type "int") = some true := kitt (by decide +kernel)
theorem bs_kit (d : PyData) : PySem.W.kitAny K (tyD d) [.type "bool", .type "str"] = some (isBS d) := by
  cases d with
  | none => exact kit2 (a := false) (b := false) (by decide +kernel) (by decide +kernel)
  | bool b => exact kit2 (a := true) (b := false) (by decide +kernel) (by decide +kernel)
  | int i => exact kit2 (a := false) (b := false) (by decide +kernel) (by decide +kernel)
  | str x => exact kit2 (a := false) (b := true) (by decide +kernel) (by decide +kernel)
  | list ds => exact kit2 (a := false) (b := false) (by decide +kernel) (by decide +kernel)
  | tuple ds => exact kit2 (a := false) (b := false) (by decide +kernel) (by decide +kernel)
  | dict kvs => exact kit2 (a := false) (b := false) (by decide +kernel) (by decide +kernel)
theorem all_true : ∀ n : Nat, (List.replicate n true).all id = true
  | 0 => rfl
  | n + 1 => by rw [List.replicate_succ, List.all_cons, all_true n]; rfl
theorem eq_true_map : ∀ (ys : List V), (∀ (i : Nat) y, ys[i]? = some y → y = .bl true) → ys = (List.replicate ys.length true).map V.bl
  | [], _ => rfl
  | y :: ys, h => by
    have h0 := h 0 y rfl
    have r := eq_true_map ys fun i z e => h (i + 1) z (by simpa using e)
    rw [List.length_cons, List.replicate_succ, List.map_cons, ← r, h0]
theorem seq2_of {H : Hp} {v u : V} {d : PyData} (hv : Dp K H v d) (hu : Dp K H u d) (h : isSeq d = true) : ∃ a xs a2 xs2, v = .ref a ∧ u = .ref a2 ∧ ((SqL K H a xs ∧ SqL K H a2 xs2) ∨ (SqT K H a xs ∧ SqT K H a2 xs2)) ∧ DpAll K H xs (itemsD d) ∧ DpAll K H xs2 (itemsD d) := by
  cases d with
  | list ds => cases hv with
    | lst h1 h2 => cases hu with
      | lst h3 h4 => exact ⟨_, _, _, _, rfl, rfl, .inl ⟨h1, h3⟩, h2, h4⟩
  | tuple ds => cases hv with
    | tup h1 h2 => cases hu with
      | tup h3 h4 => exact ⟨_, _, _, _, rfl, rfl, .inr ⟨h1, h3⟩, h2, h4⟩
  | none => simp [isSeq] at h
  | bool b => simp [isSeq] at h
  | int b => simp [isSeq] at h
  | str b => simp [isSeq] at h
  | dict b => simp [isSeq] at h
end
end XL
namespace XL
open PySem PySem.Spec PyProof.Rows L2
abbrev sCells : Stmt := topS 30
abbrev sBox : Stmt := topS 28
theorem boot_enumerate' : bootBuiltins "enumerate" = some (.type "enumerate") := by decide +kernel
theorem boot_abs' : bootBuiltins "abs" = some (.builtin "abs") := by decide +kernel
section
variable {P : Program} {w : World} {K : PySem.W.Frag} {mg : Str → Option Value} {base : Heap}
theorem cut_ints (ns : List Int) (lo hi : Option Int) : cutV (ns.map V.int) lo hi = ((ns.drop (HT.sIx ns.length 0 lo)).take (HT.sIx ns.length ns.length hi - HT.sIx ns.length 0 lo)).map V.int := by
  unfold cutV
  rw [List.length_map, List.map_take, List.map_drop]
theorem set_ints : ∀ (zs : List Int) (j : Nat) (v : Int), (zs.map V.int).set j (.int v) = (zs.set j v).map V.int
  | [], _, _ => rfl
  | z :: zs, 0, v => rfl
  | z :: zs, j + 1, v => by
    show .int z :: (zs.map V.int).set j (.int v) = .int z :: (zs.set j v).map V.int
    rw [set_ints zs j v]
/-! ### _law_cells -/
theorem scCells : FnScope ["_law_script", "_law_utmost", "_law_cells_here", "_law_k", "_law_cell"] ["_law_script", "_law_utmost"] (defScope sCells) := ⟨rfl, rfl, rfl, by decide +kernel, rfl, by decide +kernel, by decide +kernel⟩
def spCells (K : PySem.W.Frag) : Sp := fun vs H Q _ => ∃ (a : Addr) (ns : List Int) (m : Nat), vs = [.ref a, .int m] ∧ SqL K H a (ns.map V.int) ∧ ns.length ≤ 63 ∧ 1 ≤ m ∧ m ≤ 5 ∧
  ∀ (p : Addr) (zs : List Int) (H' : Hp), Same H H' → H p = none → H' p = some (.lst (zs.map V.int)) → 1 ≤ zs.length → zs.length ≤ m → Q (.ref p) H'
theorem ok_cells {f : Addr} {fd : FuncData} {k : Nat} (F : Fun K "_law_cells" "_law_cells" sCells f fd) (ml : mg "list" = none) (me : mg "enumerate" = none) : FnOk P w K mg base CX0 (k + 1) f fd ["_law_script", "_law_utmost"] (spCells K) := by
  refine F.ok scCells (fun vs H Q E h => ?_) (fun cdv A outer s H vs Q E hr h => ?_)
  · obtain ⟨a, ns, m, rfl, _⟩ := h
    rfl
  obtain ⟨a, ns, m, rfl, ha, hn, m1, m2, q⟩ := h
  have tail : ∃ t, PSs (cxOf CX0 P w K mg base ["_law_script", "_law_utmost", "_law_cells_here", "_law_k", "_law_cell"] "_law_cells" (defScope sCells) f cdv A outer s H E).nox ((defBody sCells).drop 1) t ∧
      ∀ (c : Addr) (zs : List Int) (H2 : Hp), Same H H2 → H c = none → H2 c = some (.lst (zs.map V.int)) → 1 ≤ zs.length → zs.length ≤ m → (m < ns.length → zs.length = m) →
        t { nx := fun _ H' => Q .non H', rt := Q } [some (.ref a), some (.int m), some (.ref c), none, none] H2 := by
    refine ⟨_, pss_cons (ps_for PassesOwn.never rfl (pi_enum (by rfl) me (pa_cons (pe_slice sl_list (pv 0) (po_some (pv 1)) (po_some pe_int)) pa_nil)) (pg_tup rfl (pgs_cons (pg_name (i := 3) scCells.nd rfl (.inl rfl)) (pgs_cons (pg_name (i := 4) scCells.nd rfl (.inl rfl)) pgs_nil)))
        (pss_one (ps_asg (pe_op op_add (pe_ix ix_list (pv 2) (pe_op op_modN (pv 3) (pv 1)) (fun _ _ => rfl)) (pe_op op_mul (pv 4) (pe_op op_add (pv 3) pe_int))) (pg_sub (pv 2) (pe_op op_modN (pv 3) (pv 1)) set_list))))
      (pss_one (ps_ret (pv 2))), fun c zs H2 s2 nc ec z1 z2 z3 => ?_⟩
    refine ⟨_, rfl, _, rfl, (m : Int), rfl, 63, rfl, a, _, rfl, s2.seq ha, fun p np => ?_⟩
    rw [cut_ints]
    generalize hes : ((ns.drop (HT.sIx ns.length 0 (some (m : Int)))).take (HT.sIx ns.length ns.length (some 63) - HT.sIx ns.length 0 (some (m : Int)))) = es
    have hel : 0 < es.length → m < ns.length := fun h => by
      rw [← hes, List.length_take, List.length_drop, HT.sIx_nat] at h
      omega
    have hel2 : es.length ≤ 63 := by
      rw [← hes, List.length_take, List.length_drop]
      omega
    have s3 : Same H (upd H2 p (.lst (es.map V.int))) := s2.trans (same_new np)
    have cp : c ≠ p := ne_of_none ec np
    refine ⟨p, es.map V.int, rfl, SqL.of upd_same, for_it (walk_enum (xs := es.map V.int)) (fun i σ H3 => ∃ (ws : List Int) (y3 y4 : Option V), σ = [some (.ref a), some (.int m), some (.ref c), y3, y4] ∧ Same H H3 ∧ H3 p = some (.lst (es.map V.int)) ∧ H3 c = some (.lst (ws.map V.int)) ∧ ws.length = zs.length)
      ⟨zs, none, none, rfl, s3, upd_same, by rw [upd_ne cp]; exact ec, rfl⟩ (fun i σ H3 _ h => ?_) (fun i x σ H3 H4 hi h hy => ?_) (fun σ H3 h => ?_)⟩
    · obtain ⟨_, _, _, _, _, e, _⟩ := h
      exact SqL.of e
    · obtain ⟨ws, y3, y4, rfl, sm, ep, ew, wl⟩ := h
      obtain ⟨T, x1, x2, rfl, nT, rfl, e1, e2⟩ := hy
      have hi' : i < es.length := by rw [List.length_map] at hi; exact hi
      have e1' : x1 = .int (i : Nat) := (Option.some.inj e1).symm
      have e2' : x2 = .int es[i] := by
        have e3 : (es.map V.int)[i]? = some x2 := e2
        rw [List.getElem?_map, List.getElem?_eq_getElem hi'] at e3
        exact (Option.some.inj e3).symm
      subst e1' e2'
      have sT : Same H3 (upd H3 T (.tup [.int (i : Nat), .int es[i]])) := same_new nT
      have wm : ws.length = m := by rw [wl]; exact z3 (hel (by omega))
      have fm := fmod_lt (a := (i : Int)) (n := (m : Int)) (by omega)
      have hj : ((i : Int).fmod (m : Int)).toNat < ws.length := by omega
      refine ⟨T, _, rfl, .inl (.inl upd_same), rfl, _, _, rfl, _, _, rfl, rfl, ?_⟩
      have ewT := sT _ _ ew
      have aw : atI (ws.map V.int) ((i : Int).fmod (m : Int)) = some (.int ws[((i : Int).fmod (m : Int)).toNat]) := atI_int fm.1 (by rw [List.getElem?_map, List.getElem?_eq_getElem hj]; rfl)
      refine ⟨_, rfl, _, rfl, _, rfl, _, _, rfl, rfl, by omega, c, _, _, _, rfl, rfl, SqL.of ewT, aw, _, rfl, _, rfl, _, _, rfl, rfl, _, _, rfl, rfl, .inr ⟨by omega, by omega⟩, _, _, rfl, rfl, ?_⟩
      refine ⟨_, rfl, _, rfl, _, rfl, _, _, rfl, rfl, by omega, c, _, _, ((i : Int).fmod (m : Int)).toNat, rfl, rfl, ewT, ?_, ?_⟩
      · unfold ixN
        rw [if_pos fm.1, if_pos (by rw [List.length_map]; omega)]
      · refine ⟨_, _, _, rfl, fun b o e => ?_, ?_, by rw [set_ints, upd_same], by rw [List.length_set]; exact wl⟩
        · rw [upd_ne (ne_of_none e nc)]; exact sT _ _ (sm _ _ e)
        · rw [upd_ne cp.symm]; exact sT _ _ ep
    · obtain ⟨ws, y3, y4, rfl, sm, ep, ew, wl⟩ := h
      exact ⟨_, rfl, q c ws H3 sm nc ew (by omega) (by omega)⟩
  obtain ⟨t, ht, hgo⟩ := tail
  refine ⟨_, pss_cons (ps_set (i := 2) scCells.nd rfl (.inl rfl) (pe_orT (pe_callTy call_list_of rfl ml boot_list (pa_cons (pe_slice sl_list (pv 0) po_none (po_some (pv 1))) pa_nil)) (pe_one (pe_lst (pa_cons pe_int pa_nil))))) ht, ?_⟩
  -- list(script[:utmost])
  refine ⟨_, rfl, _, rfl, (m : Int), rfl, a, _, rfl, ha, fun p np => ?_⟩
  have s1 : Same H (upd H p (.lst (cutV (ns.map V.int) none (some (m : Int))))) := same_new np
  refine ⟨p, _, rfl, .inl (SqL.of upd_same), fun c nc => ?_⟩
  have e0 : cutV (ns.map V.int) none (some (m : Int)) = (ns.take m).map V.int := by
    rw [cut_ints, HT.sIx_none, HT.sIx_nat, List.drop_zero, Nat.sub_zero]
    congr 1
    rcases Nat.le_total m ns.length with h | h
    · rw [Nat.min_eq_left h]
    · rw [Nat.min_eq_right h, List.take_of_length_le (Nat.le_refl _), List.take_of_length_le h]
  rw [e0] at nc s1 ⊢
  have s2 := s1.trans (same_new nc (o := .lst ((ns.take m).map V.int)))
  refine ⟨!((ns.take m).map V.int).isEmpty, .inl ⟨_, SqL.of upd_same, rfl⟩, ?_⟩
  cases hns : ns with
  | nil =>
    have em : ((([] : List Int).take m).map V.int) = [] := by rw [List.take_nil]; rfl
    rw [em]
    refine iteF ⟨(by show 1 ≤ sizeLine; decide), fun c2 nc2 => ?_⟩
    subst hns
    rw [em] at s2
    exact hgo c2 [0] _ (s2.trans (same_new nc2)) (s2.free nc2) upd_same (Nat.le_refl _) m1 (fun h => by simp at h)
  | cons n0 r =>
    obtain ⟨m', rfl⟩ : ∃ m', m = m' + 1 := ⟨m - 1, by omega⟩
    rw [← hns]
    have e1 : (ns.take (m' + 1)).map V.int ≠ [] := by rw [hns]; simp
    have e2 : (!((ns.take (m' + 1)).map V.int).isEmpty) = true := by
      cases h : (ns.take (m' + 1)).map V.int with
      | nil => exact absurd h e1
      | cons _ _ => rfl
    rw [e2]
    have hl : (ns.take (m' + 1)).length = min (m' + 1) ns.length := List.length_take
    have hn1 : 1 ≤ ns.length := by rw [hns]; simp
    exact iteT (hgo c (ns.take (m' + 1)) _ s2 (s1.free nc) upd_same (by omega) (by omega) (fun h => by omega))
/-! ### _law_box -/
theorem b01 (b : Bool) : -2 ^ 64 < (if b = true then (1 : Int) else 0) ∧ (if b = true then (1 : Int) else 0) < 2 ^ 64 := by cases b <;> decide
theorem scBox : FnScope ["_law_cells_here", "_law_k", "_law_cell"] ["_law_cells_here", "_law_k"] (defScope sBox) := ⟨rfl, rfl, rfl, by decide +kernel, rfl, by decide +kernel, by decide +kernel⟩
def spBox (K : PySem.W.Frag) : Sp := fun vs H Q _ => ∃ (a : Addr) (zs : List Int) (k : Nat), vs = [.ref a, .int k] ∧ SqL K H a (zs.map V.int) ∧ k < zs.length ∧
  ∀ (b : Addr) (x y : Int), H b = none → Q (.ref b) (upd H b (.lst [.int x, .int y, .int 0]))
theorem ok_box {f : Addr} {fd : FuncData} {k : Nat} (F : Fun K "_law_box" "_law_box" sBox f fd) (ma : mg "abs" = none) (mi : mg "int" = none) : FnOk P w K mg base CX0 (k + 1) f fd ["_law_cells_here", "_law_k"] (spBox K) := by
  refine F.ok scBox (fun vs H Q E h => ?_) (fun cdv A outer s H vs Q E hr h => ?_)
  · obtain ⟨a, zs, k, rfl, _⟩ := h
    rfl
  obtain ⟨a, zs, k, rfl, ha, hk, q⟩ := h
  refine ⟨_, pss_cons (ps_set (i := 2) scBox.nd rfl (.inl rfl) (pe_ix ix_list (pv 0) (pv 1) (fun _ _ => rfl)))
    (pss_one (ps_ret (pe_lst (pa_cons (pe_op op_mul (pe_callB call_abs rfl ma boot_abs' (pa_cons (pv 2) pa_nil)) (pe_callTy call_int1 rfl mi boot_int' (pa_cons (pe_cmpR op_ge (pe_callB call_abs rfl ma boot_abs' (pa_cons (pv 2) pa_nil)) (pe_op op_pow pe_int pe_int) (nomark _)) pa_nil)))
      (pa_cons (pe_op op_add (pe_op op_add (pe_op op_modN (pv 2) pe_int) (pe_op op_mul pe_int (pv 1))) pe_int) (pa_cons pe_int pa_nil)))))), ?_⟩
  have hx : atI (zs.map V.int) ((k : Nat) : Int) = some (.int zs[k]) := atI_nat (by rw [List.getElem?_map, List.getElem?_eq_getElem hk]; rfl)
  refine ⟨_, rfl, _, rfl, a, _, _, _, rfl, rfl, ha, hx, ?_⟩
  refine ⟨_, rfl, _, rfl, _, rfl, _, rfl, _, _, rfl, rfl, ⟨by decide, by decide, by decide⟩, _, _, rfl, rfl, .inr ⟨_, rfl, _, _, rfl, rfl, .inr ?_, ?_⟩⟩
  · exact b01 _
  · refine ⟨_, rfl, _, _, rfl, rfl, (by show (2305843009213693951 : Int) ≠ 0; decide), _, rfl, _, _, rfl, rfl, .inl ⟨by decide, by decide⟩, _, _, rfl, rfl, _, _, rfl, rfl, (by show 3 ≤ sizeLine; decide), fun b nb => ?_⟩
    exact q b _ _ nb
end
end XL
namespace XL
open PySem PySem.Spec PyProof.Rows L2
abbrev sCanal : Stmt := topS 32
theorem boot_range' : bootBuiltins "range" = some (.type "range") := by decide +kernel
section
variable {P : Program} {w : World} {K : PySem.W.Frag} {mg : Str → Option Value} {base : Heap}
theorem Dr.tp {b : Addr} {H H' : Hp} (h : Bx H b) (d : Dr b H H') : Tp H H' := by
  obtain ⟨x, y, z, e⟩ := h
  exact ⟨fun a xs q => d.same a _ (fun c => by rw [c, e] at q; cases q) q, fun a o xs q => d.same a _ (fun c => by rw [c, e] at q; cases q) q⟩
theorem Bx.ne {b p : Addr} {H : Hp} (h : Bx H b) (n : H p = none) : p ≠ b := fun e => by
  obtain ⟨x, y, z, q⟩ := h
  rw [e, q] at n; cases n
/-- a step besides the box: a new object, or one of ours written -/
theorem Dr.wr {b p : Addr} {H : Hp} {o : HO} (h : Bx H b) (n : p ≠ b) (hs : H p = none) : Dr b H (upd H p o) := Dr.new h hs
abbrev nCanal : List Str := ["_law_box_here", "_law_wide", "_law_utmost", "_law_sizes", "_law_mode", "_law_gates", "_law_k", "_law_ends", "_law_part", "_law_size"]
theorem scCanal : FnScope nCanal ["_law_box_here", "_law_wide", "_law_utmost"] (defScope sCanal) := ⟨rfl, rfl, rfl, by decide +kernel, rfl, by decide +kernel, by decide +kernel⟩
def spCanal (K : PySem.W.Frag) : Sp := fun vs H Q _ => ∃ (b : Addr) (wide utmost : Nat), vs = [.ref b, .int wide, .int utmost] ∧ Bx H b ∧ 1 ≤ wide ∧ wide ≤ 100 ∧ utmost ≤ 100 ∧
  ∀ (c : Cn) (v : V) (H' : Hp), okCn wide utmost c → Dr b H H' → Dp K H' v (cnD c) → Q v H'
/-- the four ends of a gate -/
def endsV (l : Lk) : List V := [.int l.1, .int l.2.1, .int l.2.2.1, .int l.2.2.2]
theorem dp_lk {H : Hp} {a : Addr} {l : Lk} (h : SqT K H a (endsV l)) : Dp K H (.ref a) (lkD l) := .tup h (.cons (.int _) (.cons (.int _) (.cons (.int _) (.cons (.int _) .nil))))
/-- between two turns: b the box, z the sizes, g the gates -/
structure Gt (K : PySem.W.Frag) (b z g : Addr) (s0 s1 : Int) (n : Nat) (H0 H : Hp) (vs : List V) (ls : List Lk) : Prop where
  box : Bx H b
  old : ∀ a o, a ≠ b → H0 a = some o → H a = some o
  ez : H z = some (.lst [.int s0, .int s1])
  eg : H g = some (.lst vs)
  dp : DpAll K H vs (ls.map lkD)
  len : ls.length = n
  ok : ∀ l ∈ ls, okLk s0 s1 l
theorem Gt.draw {b z g : Addr} {s0 s1 : Int} {n : Nat} {H0 H H' : Hp} {vs : List V} {ls : List Lk} (q : Gt K b z g s0 s1 n H0 H vs ls) (hz : z ≠ b) (hg : g ≠ b) (d : Dr b H H') : Gt K b z g s0 s1 n H0 H' vs ls :=
  ⟨d.box, fun a o na e => d.same a o na (q.old a o na e), d.same _ _ hz q.ez, d.same _ _ hg q.eg, DpAll.tp (d.tp q.box) _ (noLs_lk ls) q.dp, q.len, q.ok⟩
theorem Gt.new {b z g p : Addr} {s0 s1 : Int} {n : Nat} {H0 H : Hp} {vs : List V} {ls : List Lk} {o : HO} (q : Gt K b z g s0 s1 n H0 H vs ls) (hz : z ≠ b) (hg : g ≠ b) (np : H p = none) : Gt K b z g s0 s1 n H0 (upd H p o) vs ls := q.draw hz hg (Dr.new q.box np)
def fbody : Stmt → List Stmt
  | .For _ _ b _ _ => b
  | _ => []
abbrev slC (b : Addr) (wide utmost : Nat) (z : Addr) (kind : Int) (g : Addr) (y6 y7 y8 y9 : Option V) : L2.St := [some (.ref b), some (.int wide), some (.int utmost), some (.ref z), some (.int kind), some (.ref g), y6, y7, y8, y9]
theorem ok_canal {f ft fo : Addr} {fd fdt fdo : FuncData} {k : Nat} (F : Fun K "_law_canal" "_law_canal" sCanal f fd) (FT : Fun K "_law_take" "_law_take" sTake ft fdt) (bT : Binds K fdt ["_law_box_here", "_law_size"] []) (gT : mg "_law_take" = some (.ref ft))
    (FO : Fun K "_law_of" "_law_of" sOf fo fdo) (bO : Binds K fdo ["_law_box_here", "_law_some"] []) (gO : mg "_law_of" = some (.ref fo)) (me : mg "len" = none) (ml : mg "list" = none) (mt : mg "tuple" = none) (mr : mg "range" = none) :
    FnOk P w K mg base CX0 (k + 1 + 1 + 1) f fd ["_law_box_here", "_law_wide", "_law_utmost"] (spCanal K) := by
  have GT : FnOk P w K mg base CX0 (k + 1) ft fdt ["_law_box_here", "_law_size"] spTake := ok_take FT
  have GO : FnOk P w K mg base CX0 (k + 1 + 1) fo fdo ["_law_box_here", "_law_some"] (spOf K) := ok_of FO FT bT gT me
  refine F.ok scCanal (fun vs H Q E h => ?_) (fun cdv A outer s H vs Q E hr h => ?_)
  · obtain ⟨b, wide, utmost, rfl, _⟩ := h
    rfl
  obtain ⟨b, wide, utmost, rfl, hb, w1, w2, u2, q⟩ := h
  have hr1 : Room (k + 1) _ := hr.mono (Nat.le_succ _)
  -- one turn behind the choice of the ends
  have tail : ∃ t, PSs (cxOf CX0 P w K mg base nCanal "_law_canal" (defScope sCanal) f cdv A outer s H E).nox ((fbody ((defBody sCanal).getD 2 (.Pass ⟨0, 0, 0, 0⟩))).drop 1) t ∧
      ∀ (D : Ends) (z g e : Addr) (kind s0 s1 : Int) (i : Nat) (y6 y8 y9 : Option V) (l : Lk) (vs : List V) (ls : List Lk) (H3 : Hp), z ≠ b → g ≠ b → z ≠ g → e ≠ g → H z = none → H g = none → Gt K b z g s0 s1 i H H3 vs ls → i ≤ 200 → H3 e = some (.lst (endsV l)) → okLk s0 s1 l →
        (∀ vs' H4, Gt K b z g s0 s1 (i + 1) H H4 vs' (ls ++ [l]) → D.nx (slC b wide utmost z kind g y6 (some (.ref e)) y8 y9) H4) → t D (slC b wide utmost z kind g y6 (some (.ref e)) y8 y9) H3 := by
    refine ⟨_, pss_one (ps_expr (pe_bm PySem.F.plainAttrs_list PySem.F.slot_list_append PySem.F.type_list_append mt_append (pv 5) (pa_cons (pe_callTy call_tuple_of rfl mt boot_tuple (pa_cons (pv 7) pa_nil)) pa_nil))), ?_⟩
    intro D z g e kind s0 s1 i y6 y8 y9 l vs ls H3 hzb hgb hzg heg nz ng hG hi he hl hnx
    refine ⟨_, rfl, .inl ⟨rfl, _, SqL.of hG.eg⟩, _, rfl, e, _, rfl, .inl ⟨SqL.of he, fun t nt => ?_⟩⟩
    have G1 := hG.new hzb hgb (o := .tup (endsV l)) nt
    have lv : vs.length = i := by rw [DpAll.length hG.dp, List.length_map, hG.len]
    refine ⟨g, _, _, rfl, rfl, G1.eg, ?_, hnx _ _ ⟨?_, ?_, ?_, upd_same, ?_, ?_, ?_⟩⟩
    · rw [lv]; exact small1000 (by omega)
    · obtain ⟨x, y, w, e⟩ := G1.box
      exact ⟨x, y, w, by rw [upd_ne (fun q => hgb q.symm)]; exact e⟩
    · intro a o na e
      rw [upd_ne (ne_of_none e ng)]; exact G1.old a o na e
    · rw [upd_ne hzg]; exact G1.ez
    · rw [List.map_append]
      have tp : Tp _ (upd (upd H3 t (.tup (endsV l))) g (.lst (vs ++ [.ref t]))) := Tp.upd G1.eg
      exact DpAll.app (DpAll.tp tp _ (noLs_lk ls) G1.dp) (.cons (dp_lk (.inl (.inl (tp.t _ _ upd_same)))) .nil)
    · rw [List.length_append, hG.len]; rfl
    · intro l' h
      rcases List.mem_append.mp h with h | h
      · exact hG.ok l' h
      · rw [List.mem_singleton.mp h]; exact hl
  obtain ⟨t, ht, hgo⟩ := tail
  refine ⟨_, pss_cons (ps_par rfl scCanal.nd (i := 3) (j := 4) rfl rfl (by decide) rfl rfl
      (pa_cons (pe_lc (own := [("_law_part", 8)]) (g := gName 8) (tt := tYes) rfl scCanal.nd (pi_range1 rfl mr (pa_cons pe_int pa_nil)) (blkOk_by (own := [("_law_part", 8)]) (N := nCanal) (sc := defScope sCanal) (by decide +kernel))
          (fun _ _ _ _ _ => pg_name (i := 8) scCanal.nd rfl (Or.inl rfl)) (fun _ _ _ _ _ => pts_nil) (fun _ _ _ _ _ => pe_hide (pe_op op_add pe_int (pe_call GT hr1 rfl gT FT.kp bT .nil pass0 (pa_cons (pv 0) (pa_cons (pv 1) pa_nil))))))
        (pa_cons (pe_call GT hr1 rfl gT FT.kp bT .nil pass0 (pa_cons (pv 0) (pa_cons pe_int pa_nil))) pa_nil)) rfl)
    (pss_cons (ps_set (i := 5) scCanal.nd rfl (.inl rfl) (pe_lst pa_nil))
    (pss_cons (ps_for PassesOwn.never rfl (pi_range1 rfl mr (pa_cons (pe_call GT hr1 rfl gT FT.kp bT .nil pass0 (pa_cons (pv 0) (pa_cons (pe_op op_add (pv 2) pe_int) pa_nil))) pa_nil)) (pg_name (i := 6) scCanal.nd rfl (.inl rfl))
      (pss_cons (ps_if (PW.pt (pw_and (pt_cmpR op_eq (pv 4) pe_int (nomark _)) (pw_and1 (pt_cmpR (op_neD hr.units) (pv 5) (pe_lst pa_nil) (nomark _)))))
          (pss_one (ps_set (i := 7) scCanal.nd rfl (.inl rfl) (pe_op op_cat (pe_slice sl_list (pe_callTy call_list_of rfl ml boot_list (pa_cons (pe_ix ix_list (pv 5) (pe_un un_neg pe_int) (fun _ _ => rfl)) pa_nil)) po_none (po_some pe_int))
            (pe_lst (pa_cons (pe_call GT hr1 rfl gT FT.kp bT .nil pass0 (pa_cons (pv 0) (pa_cons (pe_ix ix_list (pv 3) pe_int (fun _ _ => rfl)) pa_nil))) (pa_cons (pe_call GT hr1 rfl gT FT.kp bT .nil pass0 (pa_cons (pv 0) (pa_cons (pe_ix ix_list (pv 3) pe_int (fun _ _ => rfl)) pa_nil))) pa_nil))))))
          (pss_one (ps_if (pt_cmpR op_eq (pv 4) pe_int (nomark _))
            (pss_one (ps_set (i := 7) scCanal.nd rfl (.inl rfl) (pe_lst (pa_cons (pe_op op_modN (pv 6) (pe_ix ix_list (pv 3) pe_int (fun _ _ => rfl))) (pa_cons (pe_op op_modN (pe_op op_add (pv 6) pe_int) (pe_ix ix_list (pv 3) pe_int (fun _ _ => rfl)))
              (pa_cons (pe_call GT hr1 rfl gT FT.kp bT .nil pass0 (pa_cons (pv 0) (pa_cons (pe_ix ix_list (pv 3) pe_int (fun _ _ => rfl)) pa_nil))) (pa_cons (pe_call GT hr1 rfl gT FT.kp bT .nil pass0 (pa_cons (pv 0) (pa_cons (pe_ix ix_list (pv 3) pe_int (fun _ _ => rfl)) pa_nil))) pa_nil)))))))
            (pss_one (ps_if (PW.pt (pw_and (pt_cmpR op_eq (pv 4) pe_int (nomark _)) (pw_and1 (pt_cmpR (op_neD hr.units) (pv 5) (pe_lst pa_nil) (nomark _)))))
              (pss_cons (ps_set (i := 7) scCanal.nd rfl (.inl rfl) (pe_callTy call_list_of rfl ml boot_list (pa_cons (pe_call GO hr rfl gO FO.kp bO .nil pass0 (pa_cons (pv 0) (pa_cons (pv 5) pa_nil))) pa_nil)))
                (pss_one (ps_asg pe_int (pg_sub (pv 7) (pe_call GT hr1 rfl gT FT.kp bT .nil pass0 (pa_cons (pv 0) (pa_cons pe_int pa_nil))) set_list))))
              (pss_one (ps_setLc (i := 7) (own := [("_law_size", 9)]) (g := gName 9) (tt := tYes) rfl scCanal.nd rfl rfl (sw_true rfl rfl rfl (by decide +kernel)) (pi_seq (pe_tup (pa_cons (pe_ix ix_list (pv 3) pe_int (fun _ _ => rfl)) (pa_cons (pe_ix ix_list (pv 3) pe_int (fun _ _ => rfl)) (pa_cons (pe_ix ix_list (pv 3) pe_int (fun _ _ => rfl)) (pa_cons (pe_ix ix_list (pv 3) pe_int (fun _ _ => rfl)) pa_nil))))))
                (blkOk_by (own := [("_law_size", 9)]) (N := nCanal) (sc := defScope sCanal) (by decide +kernel)) (fun _ _ _ _ _ => pg_name (i := 9) scCanal.nd rfl (Or.inl rfl)) (fun _ _ _ _ _ => pts_nil)
                (fun _ _ _ _ _ => pe_hide (pe_call GT hr1 rfl gT FT.kp bT .nil pass0 (pa_cons (pv 0) (pa_cons (pv 9) pa_nil)))))))))))
        ht))
    (pss_one (ps_ret (pe_tup (pa_cons (pe_ix ix_list (pv 3) pe_int (fun _ _ => rfl)) (pa_cons (pe_ix ix_list (pv 3) pe_int (fun _ _ => rfl)) (pa_cons (pe_callTy call_tuple_of rfl mt boot_tuple (pa_cons (pv 5) pa_nil)) pa_nil)))))))), ?_⟩
  refine ⟨2, rfl, by decide, by decide, lc_map walk_range (Dr b) (fun a b => a.trans b) (fun i y F => ∃ x : Int, y = .int x ∧ 1 ≤ x ∧ x ≤ wide) (fun i y A B _ p => p) (by decide) (Dr.refl hb) (fun _ _ _ _ _ => trivial) (fun i x D acc F H' hi nD dF nF hy B hB => ?_) (fun z ys F nz dF nF hl hR => ?_)⟩
  · obtain ⟨rfl, rfl⟩ := hy
    refine hB _ F rfl nF fun Qt hq => ?_
    refine ⟨_, rfl, _, rfl, b, _, rfl, dF.box, by omega, by omega, fun v F' v0 v1 d => ⟨_, _, rfl, rfl, hq _ _ d ⟨_, rfl, by omega, by omega⟩⟩⟩
  have hys : ∃ s0 s1 : Int, ys = [.int s0, .int s1] ∧ 1 ≤ s0 ∧ s0 ≤ wide ∧ 1 ≤ s1 ∧ s1 ≤ wide := by
    match ys, hl with
    | [y0, y1], _ =>
      obtain ⟨s0, rfl, a1, a2⟩ := hR 0 y0 rfl
      obtain ⟨s1, rfl, c1, c2⟩ := hR 1 y1 rfl
      exact ⟨s0, s1, rfl, a1, a2, c1, c2⟩
  obtain ⟨s0, s1, rfl, a1, a2, c1, c2⟩ := hys
  have hzb : z ≠ b := hb.ne nz
  have d1 : Dr b H (upd F z (.lst [.int s0, .int s1])) := dF.trans (Dr.new dF.box nF)
  refine ⟨_, rfl, b, 5, rfl, d1.box, by decide, by decide, fun kind H2 k0 k1 d2 => ?_⟩
  refine ⟨_, _, rfl, ?_⟩
  -- gates = []
  refine ⟨(by show 0 ≤ sizeLine; decide), fun g ng => ?_⟩
  have d12 := d1.trans d2
  have ez2 : H2 z = some (.lst [.int s0, .int s1]) := d2.same z _ hzb upd_same
  have hgb : g ≠ b := d2.box.ne ng
  have hzg : z ≠ g := ne_of_none ez2 ng
  have ngH : H g = none := by
    cases e : H g with
    | none => rfl
    | some o => rw [d12.same g o hgb e] at ng; cases ng
  have d3 : Dr b H (upd H2 g (.lst [])) := d12.trans (Dr.new d2.box ng)
  -- the number of gates
  refine ⟨_, rfl, _, rfl, _, _, rfl, rfl, b, _, rfl, d3.box, by omega, by omega, fun n H3 n0 n1 d4 => ?_⟩
  have d34 := d3.trans d4
  have G0 : Gt K b z g s0 s1 0 H H3 [] [] := ⟨d34.box, fun a o na e => d34.same a o na e, d4.same z _ hzb (by rw [upd_ne hzg]; exact ez2), d4.same g _ hgb upd_same, .nil, rfl, fun l h => by simp at h⟩
  refine ⟨n, rfl, by omega, by omega, for_it walk_range (fun i σ H4 => ∃ y6 y7 y8 y9 vs ls, σ = slC b wide utmost z kind g y6 y7 y8 y9 ∧ Gt K b z g s0 s1 i H H4 vs ls) ⟨none, none, none, none, [], [], rfl, G0⟩ (fun _ _ _ _ _ => trivial) (fun i x σ H4 H5 hi h hy => ?_) (fun σ H4 h => ?_)⟩
  · obtain ⟨y6, y7, y8, y9, vs, ls, rfl, hG⟩ := h
    obtain ⟨rfl, rfl⟩ := hy
    have hi2 : i ≤ 200 := by omega
    -- what is left, by the ends that were chosen
    have fin : ∀ (D : Ends) (e : Addr) (l : Lk) (y8 y9 : Option V) (H6 : Hp) (vs : List V) (ls : List Lk), D.nx = (fun σ H4 => ∃ y6 y7 y8 y9 vs ls, σ = slC b wide utmost z kind g y6 y7 y8 y9 ∧ Gt K b z g s0 s1 (i + 1) H H4 vs ls) →
        Gt K b z g s0 s1 i H H6 vs ls → e ≠ g → H6 e = some (.lst (endsV l)) → okLk s0 s1 l → t D (slC b wide utmost z kind g (some (.int (0 + i))) (some (.ref e)) y8 y9) H6 := by
      intro D e l y8 y9 H6 vs ls hD hG heg he hl
      refine hgo D z g e kind s0 s1 i _ y8 y9 l vs ls H6 hzb hgb hzg heg nz ngH hG hi2 he hl fun vs' H7 hG7 => ?_
      rw [hD]
      exact ⟨_, _, _, _, vs', _, rfl, hG7⟩
    -- two draws by the blues' size
    have draw1 : ∀ (H6 : Hp) (vs : List V) (ls : List Lk) (Q' : V → Hp → Prop), Gt K b z g s0 s1 i H H6 vs ls → (∀ (x : Int) (H7 : Hp), 0 ≤ x → x < s1 → Gt K b z g s0 s1 i H H7 vs ls → Dr b H6 H7 → Q' (.int x) H7) →
        spTake ([.ref b, .int s1] ++ []) H6 Q' E0 := by
      intro H6 vs ls Q' hG h
      exact ⟨b, s1, rfl, hG.box, by omega, by omega, fun v H7 v0 v1 d => h v H7 v0 v1 (hG.draw hzb hgb d) d⟩
    -- kind == 1 and gates != []
    have neq : ∀ (H6 : Hp) (vs : List V) (ls : List Lk) (p : Addr) (Q' : Bool → Hp → Prop), Gt K b z g s0 s1 i H H6 vs ls → H6 p = none → (∀ H7, Gt K b z g s0 s1 i H H7 vs ls → Q' (!ls.isEmpty) H7) →
        rNeD K (.ref g) (.ref p) (upd H6 p (.lst [])) (fun v H7 => ∃ k, v = .bl k ∧ Q' k H7) := by
      intro H6 vs ls p Q' hG np h
      have G7 := hG.new hzb hgb (o := .lst []) np
      refine ⟨.list (ls.map lkD), .list [], .lst (SqL.of G7.eg) G7.dp, .lst (SqL.of upd_same) .nil, lks_shaped ls, nil_shaped, _, rfl, ?_⟩
      rw [eqv_nil]
      exact h _ G7
    have fst : ∀ {xs : List V} {l : Lk} {a : Addr} {H6 : Hp}, Dp K H6 (.ref a) (lkD l) → SqT K H6 a (endsV l) := by
      intro xs l a H6 h
      cases h with
      | tup hs ha =>
        cases ha with
        | cons p1 ha => cases p1; cases ha with
          | cons p2 ha => cases p2; cases ha with
            | cons p3 ha => cases p3; cases ha with
              | cons p4 ha => cases p4; cases ha; exact hs
    have lkref : ∀ {v : V} {l : Lk} {H6 : Hp}, Dp K H6 v (lkD l) → ∃ a, v = .ref a ∧ SqT K H6 a (endsV l) := by
      intro v l H6 h
      have h' := h
      cases h with
      | tup hs ha => exact ⟨_, rfl, fst (xs := []) h'⟩
    refine ⟨_, rfl, rfl, _, rfl, ?_⟩
    by_cases hk1 : kind = 1
    · subst hk1
      refine iteT ⟨_, rfl, (by show 0 ≤ sizeLine; decide), fun p np => neq _ vs ls p _ hG np fun H6 G6 => ?_⟩
      cases ls with
      | nil =>
        refine iteF ⟨_, rfl, rfl, _, rfl, iteF ⟨_, rfl, rfl, _, rfl, iteF ?_⟩⟩
        refine ⟨_, rfl, z, _, _, _, rfl, rfl, SqL.of G6.ez, rfl, _, rfl, z, _, _, _, rfl, rfl, SqL.of G6.ez, rfl, _, rfl, z, _, _, _, rfl, rfl, SqL.of G6.ez, rfl, _, rfl, z, _, _, _, rfl, rfl, SqL.of G6.ez, rfl, (by show 4 ≤ sizeLine; decide), fun p np => ?_⟩
        have G8 := G6.new hzb hgb (o := .tup [.int s0, .int s0, .int s1, .int s1]) np
        have hpb : p ≠ b := G6.box.ne np
        refine ⟨p, [.int s0, .int s0, .int s1, .int s1], rfl, .inr (.inl (.inl upd_same)), fun J wk => lc_map wk (Dr b) (fun a b => a.trans b) (fun j y F => ∃ x : Int, y = .int x ∧ 0 ≤ x ∧ ∀ sz : Int, [s0, s0, s1, s1][j]? = some sz → x < sz) (fun j y A B _ p => p) (by show 4 < sizeLine; decide) (Dr.refl G8.box) (fun F D acc dF nF => ?_) (fun j x D acc F H' hj nD dF nF hy B hB => ?_) (fun D ys F nD dF nF hl hR => ?_)⟩
        · exact ⟨fun _ h => (same_new nF).seq (dF.sqL hpb h), fun h => Same.tup (same_new nF) (dF.sqT hpb h)⟩
        · obtain ⟨rfl, hx⟩ := hy
          have hx' : ∃ sz : Int, x = .int sz ∧ [s0, s0, s1, s1][j]? = some sz ∧ 1 ≤ sz ∧ sz ≤ wide := by
            match j, hj, hx with
            | 0, _, hx => exact ⟨s0, (Option.some.inj hx).symm, rfl, a1, a2⟩
            | 1, _, hx => exact ⟨s0, (Option.some.inj hx).symm, rfl, a1, a2⟩
            | 2, _, hx => exact ⟨s1, (Option.some.inj hx).symm, rfl, c1, c2⟩
            | 3, _, hx => exact ⟨s1, (Option.some.inj hx).symm, rfl, c1, c2⟩
          obtain ⟨sz, rfl, hsz, z1, z2⟩ := hx'
          refine hB _ F rfl nF fun Qt hq => ?_
          exact ⟨_, rfl, _, rfl, b, sz, rfl, dF.box, by omega, by omega, fun v F' v0 v1 d => hq _ _ d ⟨v, rfl, v0, fun sz' e => by rw [hsz] at e; cases e; exact v1⟩⟩
        · have hys : ∃ l : Lk, ys = endsV l ∧ okLk s0 s1 l := by
            match ys, hl with
            | [y0, y1, y2, y3], _ =>
              obtain ⟨x0, rfl, p0, q0⟩ := hR 0 _ rfl
              obtain ⟨x1, rfl, p1, q1⟩ := hR 1 _ rfl
              obtain ⟨x2, rfl, p2, q2⟩ := hR 2 _ rfl
              obtain ⟨x3, rfl, p3, q3⟩ := hR 3 _ rfl
              exact ⟨(x0, x1, x2, x3), rfl, ⟨p0, q0 _ rfl, p1, q1 _ rfl, p2, q2 _ rfl, p3, q3 _ rfl⟩⟩
          obtain ⟨l, rfl, okl⟩ := hys
          have G9 := (G8.draw hzb hgb dF).new hzb hgb (o := .lst (endsV l)) nF
          exact fin _ D l _ _ _ _ _ rfl G9 (fun e => by rw [e, G8.eg] at nD; cases nD) upd_same okl
      | cons l0 lr =>
        refine iteT ?_
        obtain ⟨vs', v', rfl⟩ : ∃ vs' v', vs = vs' ++ [v'] := by
          have hv : vs ≠ [] := fun e => by have := DpAll.length G6.dp; rw [e] at this; simp at this
          exact ⟨vs.dropLast, vs.getLast hv, (List.dropLast_concat_getLast hv).symm⟩
        have hvl : (vs' ++ [v']).length = (l0 :: lr).length := by rw [DpAll.length G6.dp, List.length_map]
        obtain ⟨d, ed, pd⟩ := DpAll.get G6.dp (i := vs'.length) (v := v') (by rw [List.getElem?_append_right (Nat.le_refl _), Nat.sub_self]; rfl)
        rw [List.getElem?_map] at ed
        cases el : (l0 :: lr)[vs'.length]? with
        | none => rw [el] at ed; cases ed
        | some l =>
          rw [el] at ed
          cases ed
          have okl := G6.ok l (List.mem_of_getElem? el)
          obtain ⟨a, rfl, ha⟩ := lkref pd
          refine ⟨_, rfl, 1, rfl, g, _, _, _, rfl, rfl, SqL.of G6.eg, atI_last _ _, a, _, rfl, .inr ha, fun c nc => ?_⟩
          have G7 := G6.new hzb hgb (o := .lst (endsV l)) nc
          refine ⟨2, rfl, c, _, rfl, SqL.of upd_same, fun c2 nc2 => ?_⟩
          have G8 := G7.new hzb hgb (o := .lst [.int l.1, .int l.2.1]) nc2
          have hc2b : c2 ≠ b := G7.box.ne nc2
          refine ⟨_, rfl, _, rfl, z, _, _, _, rfl, rfl, SqL.of G8.ez, rfl, b, s1, rfl, G8.box, by omega, by omega, fun x H7 x0 x1 dd1 => ?_⟩
          have G9 := G8.draw hzb hgb dd1
          refine ⟨_, rfl, _, rfl, z, _, _, _, rfl, rfl, SqL.of G9.ez, rfl, b, s1, rfl, G9.box, by omega, by omega, fun y H8 y0 y1 dd2 => ?_⟩
          have G10 := G9.draw hzb hgb dd2
          refine ⟨(by show 2 ≤ sizeLine; decide), fun c3 nc3 => ?_⟩
          have G11 := G10.new hzb hgb (o := .lst [.int x, .int y]) nc3
          have ec2 : H8 c2 = some (.lst [.int l.1, .int l.2.1]) := dd2.same _ _ hc2b (dd1.same _ _ hc2b upd_same)
          refine ⟨c2, c3, [.int l.1, .int l.2.1], [.int x, .int y], rfl, rfl, by rw [upd_ne (ne_of_none ec2 nc3)]; exact ec2, upd_same, (by show 2 + 2 ≤ sizeLine; decide), fun c4 nc4 => ?_⟩
          have G12 := G11.new hzb hgb (o := .lst (endsV (l.1, l.2.1, x, y))) nc4
          exact fin _ c4 (l.1, l.2.1, x, y) _ _ _ _ _ rfl G12 (fun e => by rw [e, G11.eg] at nc4; cases nc4) upd_same ⟨okl.a0, okl.a1, okl.c0, okl.c1, x0, x1, y0, y1⟩
    · have e1 : decide (V.int kind = V.int 1) = false := decide_eq_false fun e => hk1 (V.int.inj e)
      rw [e1]
      refine iteF (iteF ⟨_, rfl, rfl, _, rfl, ?_⟩)
      by_cases hk2 : kind = 2
      · subst hk2
        have f1 := fmod_lt (a := 0 + (i : Int)) (n := s0) (by omega)
        have f2 := fmod_lt (a := 0 + (i : Int) + 1) (n := s0) (by omega)
        refine iteT ⟨_, rfl, _, rfl, z, _, _, _, rfl, rfl, SqL.of hG.ez, rfl, _, _, rfl, rfl, by omega, _, rfl, _, _, rfl, rfl, _, rfl, z, _, _, _, rfl, rfl, SqL.of hG.ez, rfl, _, _, rfl, rfl, by omega, ?_⟩
        refine ⟨_, rfl, _, rfl, z, _, _, _, rfl, rfl, SqL.of hG.ez, rfl, b, s1, rfl, hG.box, by omega, by omega, fun x H7 x0 x1 dd1 => ?_⟩
        have G9 := hG.draw hzb hgb dd1
        refine ⟨_, rfl, _, rfl, z, _, _, _, rfl, rfl, SqL.of G9.ez, rfl, b, s1, rfl, G9.box, by omega, by omega, fun y H8 y0 y1 dd2 => ?_⟩
        have G10 := G9.draw hzb hgb dd2
        refine ⟨(by show 4 ≤ sizeLine; decide), fun c3 nc3 => ?_⟩
        have G11 := G10.new hzb hgb (o := .lst (endsV ((0 + (i : Int)).fmod s0, (0 + (i : Int) + 1).fmod s0, x, y))) nc3
        exact fin _ c3 ((0 + (i : Int)).fmod s0, (0 + (i : Int) + 1).fmod s0, x, y) _ _ _ _ _ rfl G11 (fun e => by rw [e, G10.eg] at nc3; cases nc3) upd_same ⟨f1.1, f1.2, f2.1, f2.2, x0, x1, y0, y1⟩
      · have e2 : decide (V.int kind = V.int 2) = false := decide_eq_false fun e => hk2 (V.int.inj e)
        rw [e2]
        refine iteF ⟨_, rfl, rfl, _, rfl, ?_⟩
        by_cases hk3 : kind = 3
        · subst hk3
          refine iteT ⟨_, rfl, (by show 0 ≤ sizeLine; decide), fun p np => neq _ vs ls p _ hG np fun H6 G6 => ?_⟩
          cases ls with
          | nil =>
            refine iteF ?_
            refine ⟨_, rfl, z, _, _, _, rfl, rfl, SqL.of G6.ez, rfl, _, rfl, z, _, _, _, rfl, rfl, SqL.of G6.ez, rfl, _, rfl, z, _, _, _, rfl, rfl, SqL.of G6.ez, rfl, _, rfl, z, _, _, _, rfl, rfl, SqL.of G6.ez, rfl, (by show 4 ≤ sizeLine; decide), fun p np => ?_⟩
            have G8 := G6.new hzb hgb (o := .tup [.int s0, .int s0, .int s1, .int s1]) np
            have hpb : p ≠ b := G6.box.ne np
            refine ⟨p, [.int s0, .int s0, .int s1, .int s1], rfl, .inr (.inl (.inl upd_same)), fun J wk => lc_map wk (Dr b) (fun a b => a.trans b) (fun j y F => ∃ x : Int, y = .int x ∧ 0 ≤ x ∧ ∀ sz : Int, [s0, s0, s1, s1][j]? = some sz → x < sz) (fun j y A B _ p => p) (by show 4 < sizeLine; decide) (Dr.refl G8.box) (fun F D acc dF nF => ?_) (fun j x D acc F H' hj nD dF nF hy B hB => ?_) (fun D ys F nD dF nF hl hR => ?_)⟩
            · exact ⟨fun _ h => (same_new nF).seq (dF.sqL hpb h), fun h => Same.tup (same_new nF) (dF.sqT hpb h)⟩
            · obtain ⟨rfl, hx⟩ := hy
              have hx' : ∃ sz : Int, x = .int sz ∧ [s0, s0, s1, s1][j]? = some sz ∧ 1 ≤ sz ∧ sz ≤ wide := by
                match j, hj, hx with
                | 0, _, hx => exact ⟨s0, (Option.some.inj hx).symm, rfl, a1, a2⟩
                | 1, _, hx => exact ⟨s0, (Option.some.inj hx).symm, rfl, a1, a2⟩
                | 2, _, hx => exact ⟨s1, (Option.some.inj hx).symm, rfl, c1, c2⟩
                | 3, _, hx => exact ⟨s1, (Option.some.inj hx).symm, rfl, c1, c2⟩
              obtain ⟨sz, rfl, hsz, z1, z2⟩ := hx'
              refine hB _ F rfl nF fun Qt hq => ?_
              exact ⟨_, rfl, _, rfl, b, sz, rfl, dF.box, by omega, by omega, fun v F' v0 v1 d => hq _ _ d ⟨v, rfl, v0, fun sz' e => by rw [hsz] at e; cases e; exact v1⟩⟩
            · have hys : ∃ l : Lk, ys = endsV l ∧ okLk s0 s1 l := by
                match ys, hl with
                | [y0, y1, y2, y3], _ =>
                  obtain ⟨x0, rfl, p0, q0⟩ := hR 0 _ rfl
                  obtain ⟨x1, rfl, p1, q1⟩ := hR 1 _ rfl
                  obtain ⟨x2, rfl, p2, q2⟩ := hR 2 _ rfl
                  obtain ⟨x3, rfl, p3, q3⟩ := hR 3 _ rfl
                  exact ⟨(x0, x1, x2, x3), rfl, ⟨p0, q0 _ rfl, p1, q1 _ rfl, p2, q2 _ rfl, p3, q3 _ rfl⟩⟩
              obtain ⟨l, rfl, okl⟩ := hys
              have G9 := (G8.draw hzb hgb dF).new hzb hgb (o := .lst (endsV l)) nF
              exact fin _ D l _ _ _ _ _ rfl G9 (fun e => by rw [e, G8.eg] at nD; cases nD) upd_same okl
          | cons l0 lr =>
            refine iteT ?_
            have hv : vs ≠ [] := fun e => by have := DpAll.length G6.dp; rw [e] at this; simp at this
            have hvl : vs.length ≤ 200 := by rw [DpAll.length G6.dp, List.length_map, G6.len]; exact hi2
            refine ⟨_, rfl, _, rfl, b, g, vs, rfl, G6.box, hgb, SqL.of G6.eg, hv, by omega, fun j v H7 ej dd => ?_⟩
            have G7 := G6.draw hzb hgb dd
            obtain ⟨d, ed, pd⟩ := DpAll.get G7.dp ej
            rw [List.getElem?_map] at ed
            cases el : (l0 :: lr)[j]? with
            | none => rw [el] at ed; cases ed
            | some l =>
              rw [el] at ed
              cases ed
              have okl := G7.ok l (List.mem_of_getElem? el)
              obtain ⟨a, rfl, ha⟩ := lkref pd
              refine ⟨a, _, rfl, .inr ha, fun c nc => ?_⟩
              have G8 := G7.new hzb hgb (o := .lst (endsV l)) nc
              have hcb : c ≠ b := G7.box.ne nc
              have hcg : c ≠ g := fun e => by rw [e, G7.eg] at nc; cases nc
              have hcz : c ≠ z := fun e => by rw [e, G7.ez] at nc; cases nc
              refine ⟨_, rfl, _, rfl, b, 4, rfl, G8.box, by decide, by decide, fun j2 H9 j0 j1 dd2 => ?_⟩
              have G9 := G8.draw hzb hgb dd2
              have ec : H9 c = some (.lst (endsV l)) := dd2.same c _ hcb upd_same
              refine ⟨c, _, _, j2.toNat, rfl, rfl, ec, ?_, ?_⟩
              · unfold ixN
                rw [if_pos j0, if_pos (by show j2 < 4; exact j1)]
              · have G10 : Gt K b z g s0 s1 i H (upd H9 c (.lst ((endsV l).set j2.toNat (.int 0)))) vs (l0 :: lr) := by
                  refine ⟨?_, fun a o na e => ?_, ?_, ?_, DpAll.tp (Tp.upd ec) _ (noLs_lk _) G9.dp, G9.len, G9.ok⟩
                  · obtain ⟨x, y, w, e⟩ := G9.box
                    exact ⟨x, y, w, by rw [upd_ne (fun q => hcb q.symm)]; exact e⟩
                  · by_cases hac : a = c
                    · exfalso
                      rw [hac] at e
                      rw [G7.old c o hcb e] at nc; cases nc
                    · rw [upd_ne hac]; exact G9.old a o na e
                  · rw [upd_ne (fun q => hcz q.symm)]; exact G9.ez
                  · rw [upd_ne (fun q => hcg q.symm)]; exact G9.eg
                have hset : ∃ l2 : Lk, (endsV l).set j2.toNat (.int 0) = endsV l2 ∧ okLk s0 s1 l2 := by
                  have hj : j2.toNat = 0 ∨ j2.toNat = 1 ∨ j2.toNat = 2 ∨ j2.toNat = 3 := by omega
                  rcases hj with e | e | e | e <;> rw [e]
                  · exact ⟨(0, l.2.1, l.2.2.1, l.2.2.2), rfl, ⟨Int.le_refl 0, by show 0 < s0; omega, okl.c0, okl.c1, okl.x0, okl.x1, okl.y0, okl.y1⟩⟩
                  · exact ⟨(l.1, 0, l.2.2.1, l.2.2.2), rfl, ⟨okl.a0, okl.a1, Int.le_refl 0, by show 0 < s0; omega, okl.x0, okl.x1, okl.y0, okl.y1⟩⟩
                  · exact ⟨(l.1, l.2.1, 0, l.2.2.2), rfl, ⟨okl.a0, okl.a1, okl.c0, okl.c1, Int.le_refl 0, by show 0 < s1; omega, okl.y0, okl.y1⟩⟩
                  · exact ⟨(l.1, l.2.1, l.2.2.1, 0), rfl, ⟨okl.a0, okl.a1, okl.c0, okl.c1, okl.x0, okl.x1, Int.le_refl 0, by show 0 < s1; omega⟩⟩
                obtain ⟨l2, el2, ok2⟩ := hset
                rw [el2] at G10 ⊢
                exact fin _ c l2 _ _ _ _ _ rfl G10 hcg upd_same ok2
        · have e3 : decide (V.int kind = V.int 3) = false := decide_eq_false fun e => hk3 (V.int.inj e)
          rw [e3]
          refine iteF (iteF ?_)
          refine ⟨_, rfl, z, _, _, _, rfl, rfl, SqL.of hG.ez, rfl, _, rfl, z, _, _, _, rfl, rfl, SqL.of hG.ez, rfl, _, rfl, z, _, _, _, rfl, rfl, SqL.of hG.ez, rfl, _, rfl, z, _, _, _, rfl, rfl, SqL.of hG.ez, rfl, (by show 4 ≤ sizeLine; decide), fun p np => ?_⟩
          have G8 := hG.new hzb hgb (o := .tup [.int s0, .int s0, .int s1, .int s1]) np
          have hpb : p ≠ b := hG.box.ne np
          refine ⟨p, [.int s0, .int s0, .int s1, .int s1], rfl, .inr (.inl (.inl upd_same)), fun J wk => lc_map wk (Dr b) (fun a b => a.trans b) (fun j y F => ∃ x : Int, y = .int x ∧ 0 ≤ x ∧ ∀ sz : Int, [s0, s0, s1, s1][j]? = some sz → x < sz) (fun j y A B _ p => p) (by show 4 < sizeLine; decide) (Dr.refl G8.box) (fun F D acc dF nF => ?_) (fun j x D acc F H' hj nD dF nF hy B hB => ?_) (fun D ys F nD dF nF hl hR => ?_)⟩
          · exact ⟨fun _ h => (same_new nF).seq (dF.sqL hpb h), fun h => Same.tup (same_new nF) (dF.sqT hpb h)⟩
          · obtain ⟨rfl, hx⟩ := hy
            have hx' : ∃ sz : Int, x = .int sz ∧ [s0, s0, s1, s1][j]? = some sz ∧ 1 ≤ sz ∧ sz ≤ wide := by
              match j, hj, hx with
              | 0, _, hx => exact ⟨s0, (Option.some.inj hx).symm, rfl, a1, a2⟩
              | 1, _, hx => exact ⟨s0, (Option.some.inj hx).symm, rfl, a1, a2⟩
              | 2, _, hx => exact ⟨s1, (Option.some.inj hx).symm, rfl, c1, c2⟩
              | 3, _, hx => exact ⟨s1, (Option.some.inj hx).symm, rfl, c1, c2⟩
            obtain ⟨sz, rfl, hsz, z1, z2⟩ := hx'
            refine hB _ F rfl nF fun Qt hq => ?_
            exact ⟨_, rfl, _, rfl, b, sz, rfl, dF.box, by omega, by omega, fun v F' v0 v1 d => hq _ _ d ⟨v, rfl, v0, fun sz' e => by rw [hsz] at e; cases e; exact v1⟩⟩
          · have hys : ∃ l : Lk, ys = endsV l ∧ okLk s0 s1 l := by
              match ys, hl with
              | [y0, y1, y2, y3], _ =>
                obtain ⟨x0, rfl, p0, q0⟩ := hR 0 _ rfl
                obtain ⟨x1, rfl, p1, q1⟩ := hR 1 _ rfl
                obtain ⟨x2, rfl, p2, q2⟩ := hR 2 _ rfl
                obtain ⟨x3, rfl, p3, q3⟩ := hR 3 _ rfl
                exact ⟨(x0, x1, x2, x3), rfl, ⟨p0, q0 _ rfl, p1, q1 _ rfl, p2, q2 _ rfl, p3, q3 _ rfl⟩⟩
            obtain ⟨l, rfl, okl⟩ := hys
            have G9 := (G8.draw hzb hgb dF).new hzb hgb (o := .lst (endsV l)) nF
            exact fin _ D l _ _ _ _ _ rfl G9 (fun e => by rw [e, G8.eg] at nD; cases nD) upd_same okl
  · obtain ⟨y6, y7, y8, y9, vs, ls, rfl, hG⟩ := h
    refine ⟨_, rfl, z, _, _, _, rfl, rfl, SqL.of hG.ez, rfl, _, rfl, z, _, _, _, rfl, rfl, SqL.of hG.ez, rfl, _, rfl, g, _, rfl, .inl ⟨SqL.of hG.eg, fun t nt => ?_⟩⟩
    refine ⟨(by show 3 ≤ sizeLine; decide), fun r nr => ?_⟩
    have s1' : Same H4 (upd H4 t (.tup vs)) := same_new nt
    have s2' : Same _ (upd (upd H4 t (.tup vs)) r (.tup [.int s0, .int s1, .ref t])) := same_new nr
    refine q ⟨s0, s1, ls⟩ _ _ ⟨a1, a2, c1, c2, by rw [hG.len]; omega, hG.ok⟩ (Dr.trans (b := b) (H1 := H4) ⟨hG.box, hG.old⟩ (Dr.of hG.box (s1'.trans s2'))) ?_
    exact .tup (.inl (.inl upd_same)) (.cons (.int _) (.cons (.int _) (.cons (.tup (.inl (.inl (s2' _ _ upd_same))) (DpAll.same (s1'.trans s2') _ hG.dp)) .nil)))
end
end XL
namespace XL
open PySem PySem.Spec PyProof.Rows L2
structure Sn where
  rs : List Int
  bs : List Int
  ls : List Int
def intsD (zs : List Int) : List PyData := zs.map PyData.int
def snD (s : Sn) : PyData := .tuple [.tuple (intsD s.rs), .tuple (intsD s.bs), .tuple (intsD s.ls)]
structure okSn (c : Cn) (most : Int) (s : Sn) : Prop where
  r : (s.rs.length : Int) = c.r
  b : (s.bs.length : Int) = c.b
  n : s.ls.length = c.ls.length
  r0 : ∀ x ∈ s.rs, 0 ≤ x ∧ x ≤ most
  b0 : ∀ x ∈ s.bs, 0 ≤ x ∧ x ≤ most
  l0 : ∀ x ∈ s.ls, x = 0 ∨ x = 1
theorem noLs_ints : ∀ zs : List Int, noLs (intsD zs) = true
  | [] => rfl
  | z :: zs => by show noLs (.int z :: intsD zs) = true; rw [noLs, noLs_ints zs]; rfl
theorem noL_sn (s : Sn) : noL (snD s) = true := by
  show noLs [.tuple (intsD s.rs), .tuple (intsD s.bs), .tuple (intsD s.ls)] = true
  simp [noLs, noL, noLs_ints]
section
variable {P : Program} {w : World} {K : PySem.W.Frag} {mg : Str → Option Value} {base : Heap}
theorem dp_ints {H : Hp} : ∀ zs : List Int, DpAll K H (zs.map V.int) (intsD zs)
  | [] => .nil
  | z :: zs => .cons (.int z) (dp_ints zs)
theorem dp_tints {H : Hp} {a : Addr} {zs : List Int} (h : SqT K H a (zs.map V.int)) : Dp K H (.ref a) (.tuple (intsD zs)) := .tup h (dp_ints zs)
theorem ints_of : ∀ {ys : List V}, (∀ (i : Nat) y, ys[i]? = some y → ∃ x : Int, y = .int x) → ∃ zs : List Int, ys = zs.map V.int
  | [], _ => ⟨[], rfl⟩
  | y :: ys, h => by
    obtain ⟨x, rfl⟩ := h 0 y rfl
    obtain ⟨zs, rfl⟩ := ints_of (ys := ys) fun i z e => h (i + 1) z (by simpa using e)
    exact ⟨x :: zs, rfl⟩
theorem cn_of {H : Hp} {v : V} {c : Cn} (h : Dp K H v (cnD c)) : ∃ a g vs, v = .ref a ∧ SqT K H a [.int c.r, .int c.b, .ref g] ∧ SqT K H g vs ∧ DpAll K H vs (c.ls.map lkD) := by
  cases h with
  | tup hs ha =>
    cases ha with
    | cons p1 ha => cases p1; cases ha with
      | cons p2 ha => cases p2; cases ha with
        | cons p3 ha =>
          cases ha
          cases p3 with
          | tup hg hl => exact ⟨_, _, _, rfl, hs, hg, hl⟩
end
end XL
namespace XL
open PySem PySem.Spec PyProof.Rows L2
section
variable {prog : Program} {w : World} {A : Around} {E : Value → Shared → Prop} {s : Shared}
theorem applied_rev2 {sl : Addr} {vs : Value} {Q : Int × Int × Nat → Shared → Prop} (hs : s.heap.IsSliceOf sl .none .none vs) (ps : IsPart vs (some (-1))) (h : Q (1, -1, 2) s) :
    wpAny (model prog w) A (Builtin.Slice.sliceApplied (.ref sl) (pure ((2 : Nat) : Int))) Q E s := by
  obtain ⟨os, hos, hcs, hds⟩ := id hs
  unfold Builtin.Slice.sliceApplied Builtin.Slice.sliceFields
  refine wpAny_bind (wpAny_bind (wpAny_field hos hds (x := .none) rfl (wpAny_bind (wpAny_field hos hds (x := .none) rfl (wpAny_bind (wpAny_field hos hds (x := vs) rfl (wpAny_pure ?_)))))))
  refine wpAny_bind (HT.slicePart_ ps ?_)
  show wpAny _ _ (if ((-1 : Int) == 0) = true then _ else _) _ _ s
  rw [if_neg (by decide)]
  refine wpAny_bind (HT.slicePart_ .none (wpAny_bind (HT.slicePart_ .none (wpAny_bind (wpAny_pure ?_)))))
  show wpAny _ _ (match Builtin.Slice.sliceAdjust none none (-1) ((2 : Nat) : Int) with | (lo, hi) => pure (lo, (-1 : Int), Builtin.Slice.slicePlaces lo hi (-1))) _ _ s
  have e : Builtin.Slice.sliceAdjust none none (-1) ((2 : Nat) : Int) = (1, -1) := by decide
  rw [e]
  have e2 : Builtin.Slice.slicePlaces 1 (-1) (-1) = 2 := by decide
  show wpAny _ _ (pure ((1 : Int), (-1 : Int), Builtin.Slice.slicePlaces 1 (-1) (-1))) _ _ s
  rw [e2]
  exact wpAny_pure h
theorem getItem_rev2 {t sl : Addr} {u1 u2 vs : Value} {Q : Value → Shared → Prop} (ht : IsTup s.heap t #[u1, u2]) (hs : s.heap.IsSliceOf sl .none .none vs) (ps : IsPart vs (some (-1)))
    (h : Q (.ref s.heap.objs.size) { s with heap := s.heap.push { cls := .type "tuple", data := .seq #[u2, u1] } }) : wpAny (model prog w) A (getItem (.ref t) (.ref sl)) Q E s := by
  have fits : sizeOk (.seq #[u2, u1]) := by show 2 ≤ sizeLine; decide
  obtain ⟨os, hos, hcs, hds⟩ := id hs
  have hTs : s.TypeIs (.ref sl) "slice" := ⟨os, hos, hcs⟩
  unfold getItem
  try with_reducible refine wpAny_holding ?_
  first | refine wpAny_bind (wpAny_pure ?_) | skip
  refine wpAny_bind (wpAny_sequenceKey ht.typeIs (by decide) ?_)
  refine wpAny_bind (wpAny_callSpecial?_slot (name := Str.ofString "__getitem__") ht.typeIs PyProof.Rows.slot_tuple_getitem (wpAny_call_entry PyProof.Rows.slot_tuple_getitem ht.typeIs entry_tuple_getitem ?_ (args_tuple_getitem _ _)))
  show wpAny _ _ (Builtin.Tuple.tupleItemsOf (.ref t) >>= _) _ _ s
  refine wpAny_bind (tupleItemsOf_ ht ?_)
  refine wpAny_bind (wpAny_typeOf hTs ?_)
  rw [if_pos (by decide)]
  refine wpAny_bind (applied_rev2 hs ps ?_)
  show wpAny _ _ (if ((1 : Int) == 0 && (-1 : Int) == 1 && (2 : Nat) == 2) = true then _ else _) _ _ s
  rw [if_neg (by decide)]
  have e : ((List.range 2).filterMap fun (m : Nat) => (#[u1, u2] : Array Value)[((1 : Int) + (m : Int) * (-1)).toNat]?).toArray = #[u2, u1] := by rfl
  rw [e]
  first
    | exact wpAny_bind (m := Builtin.Tuple.tupleExact _) (wpAny_newObj_type (wpAny_pure ⟨_, rfl, wpAny_pure h⟩) fits)
    | exact wpAny_bind (m := Builtin.Tuple.tupleExact _) (wpAny_newObj_type (wpAny_bind (wpAny_pure (wpAny_pure ⟨_, rfl, wpAny_pure h⟩))) fits)
    | exact wpAny_bind (wpAny_bind (m := Builtin.Tuple.tupleExact _) (wpAny_newObj_type (wpAny_pure (wpAny_pure ⟨_, rfl, wpAny_pure h⟩)) fits))
    | exact wpAny_bind (wpAny_bind (m := Builtin.Tuple.tupleExact _) (wpAny_newObj_type (wpAny_pure ⟨_, rfl, wpAny_pure h⟩) fits))
end
section
variable {X : Cx}
/-- t[::-1] of a pair -/
def tRev2 (K : PySem.W.Frag) (te : TE) : TE := fun σ H Q => te σ H fun x H1 => ∃ a y z, x = .ref a ∧ SqT K H1 a [y, z] ∧ ∀ p, H1 p = none → Q (.ref p) (upd H1 p (.tup [z, y]))
theorem pe_rev2 {e : Expr} {te : TE} {k : Nat} {p1 p2 p3 pos : Pos} (he : PE X e te) : PE X (.Subscript e (.Slice none none (some (.UnaryOp .USub (.Constant (.int 1) k p1) p2)) p3) pos) (tRev2 X.K te) := by
  refine ⟨fun pins s σ H Q I h => ?_⟩
  refine Subscript_ (thn (he.run pins s σ H _ I h) fun v s1 ⟨x, H1, I1, r1, q1⟩ => ?_)
  obtain ⟨a, y, z, ex, hx, q⟩ := q1
  subst ex
  cases r1
  have hst : PO X (some (.UnaryOp .USub (.Constant (.int 1) k p1) p2)) (tPart (tUn (rU fun i => .int (-i)) (tC (.int 1)))) := po_some (pe_un un_neg pe_int)
  refine wpAny_Slice (thn (po_none.run pins s1 σ H1 (fun o H2 => o = none ∧ H2 = H1) I1 ⟨rfl, rfl⟩) fun vl s2 ⟨l, H2, I2, pl, el, e2⟩ => ?_)
  subst el e2
  refine thn (po_none.run pins s2 σ H2 (fun o H3 => o = none ∧ H3 = H2) I2 ⟨rfl, rfl⟩) fun vu s3 ⟨u, H3, I3, pu, eu, e3⟩ => ?_
  subst eu e3
  refine thn (hst.run pins s3 σ H3 (fun o H4 => o = some (-1) ∧ H4 = H3) I3 ⟨1, rfl, -1, rfl, rfl, rfl⟩) fun vs s4 ⟨o, H4, I4, ps, eo, e4⟩ => ?_
  subst eo e4
  cases pl
  cases pu
  have I5 : Inv X pins σ H4 { s4 with heap := s4.heap.push { cls := .type "slice", data := .fields #[.none, .none, vs] } } := I4.kept (t' := s4.toks) fun b ob q => Heap.get?_push_of_some _ q
  obtain ⟨its, r, ht, hz⟩ := I5.tuple hx
  obtain ⟨w1, w2, rfl, q1, q2⟩ := vals2 r
  show wpAny (model X.prog X.w) X.A (subscriptTail e (.Slice none none (some (.UnaryOp .USub (.Constant (.int 1) k p1) p2)) p3) (.ref a) (.ref s4.heap.objs.size)) (EP X pins σ Q) X.xe { s4 with heap := s4.heap.push { cls := .type "slice", data := .fields #[.none, .none, vs] } }
  refine tail_any (ops := [.ref a, .ref s4.heap.objs.size]) ht.typeIs (PyProof.Rows.slot_tuple_getitem.lookup) ?_ (by with_unfolding_all rfl)
  refine getItem_rev2 (u1 := w1) (u2 := w2) ht (Heap.IsSliceOf.new _ .none .none vs) ps ?_
  refine ⟨.ref _, _, I5.laid (t' := s4.toks) (o := .tup [z, y]) (fun b ob q => Heap.get?_push_of_some _ q) (Nat.le_refl _) ?_, rfl, q _ (I5.hok.fresh (Nat.le_refl _))⟩
  exact ⟨by show 2 ≤ sizeLine; decide, [w2, w1], .cons q2 (.cons q1 .nil), IsTup.new _ _⟩
/-- xs[i], for xs[i] op= e -/
def rGetL (K : PySem.W.Frag) : V → V → Hp → VK → Prop := fun o y H Q => ∃ p xs i v, o = .ref p ∧ y = .int i ∧ SqL K H p xs ∧ 0 ≤ i ∧ xs[i.toNat]? = some v ∧ Q v H
theorem get_list : PGet X (rGetL X.K) := by
  intro pins s σ H o y ov iv Q I ro ry h
  obtain ⟨p, xs, i, v, rfl, rfl, hq, h0, he, q⟩ := h
  cases ro
  obtain ⟨t, rfl⟩ := ry
  obtain ⟨its, r, pl, hz⟩ := I.list hq
  obtain ⟨u, eu, ru⟩ := r.get he
  have hl : i.toNat < xs.length := (List.getElem?_eq_some_iff.mp he).1
  have hn := line63
  exact wpAny_getItem_list pl.isList h0 (by omega) (by simpa using eu) ⟨v, H, I, ru, q⟩
end
end XL
namespace XL
open PySem PySem.Spec PyProof.Rows L2
abbrev sEnds : Stmt := topS 6
abbrev sFT : Stmt := topS 11
abbrev sHas : Stmt := topS 12
section
variable {P : Program} {w : World} {K : PySem.W.Frag} {mg : Str → Option Value} {base : Heap}
/-- a canal of tuples or of lists -/
structure CnAny (K : PySem.W.Frag) (H : Hp) (v : V) (c : Cn) : Prop where
  ex : ∃ a g vs, v = .ref a ∧ Sq2 K H a [.int c.r, .int c.b, .ref g] ∧ Sq2 K H g vs ∧ vs.length = c.ls.length ∧ ∀ (i : Nat) u, vs[i]? = some u → ∃ l t, c.ls[i]? = some l ∧ u = .ref t ∧ Sq2 K H t (endsV l)
theorem ends_of {H : Hp} {v : V} {l : Lk} (h : Dp K H v (lkD l)) : ∃ a, v = .ref a ∧ SqT K H a (endsV l) := by
  cases h with
  | tup hs ha =>
    cases ha with
    | cons p1 ha => cases p1; cases ha with
      | cons p2 ha => cases p2; cases ha with
        | cons p3 ha => cases p3; cases ha with
          | cons p4 ha => cases p4; cases ha; exact ⟨_, rfl, hs⟩
theorem ends_of' {H : Hp} {v : V} {l : Lk} (h : Dp K H v (lstD (lkD l))) : ∃ a, v = .ref a ∧ SqL K H a (endsV l) := by
  have e : lstD (lkD l) = .list [.int l.1, .int l.2.1, .int l.2.2.1, .int l.2.2.2] := rfl
  rw [e] at h
  cases h with
  | lst hs ha =>
    cases ha with
    | cons p1 ha => cases p1; cases ha with
      | cons p2 ha => cases p2; cases ha with
        | cons p3 ha => cases p3; cases ha with
          | cons p4 ha => cases p4; cases ha; exact ⟨_, rfl, hs⟩
theorem cnAny_t {H : Hp} {v : V} {c : Cn} (h : Dp K H v (cnD c)) : CnAny K H v c := by
  obtain ⟨a, g, vs, e, ha, hg, hl⟩ := cn_of h
  refine ⟨a, g, vs, e, .inr ha, .inr hg, by rw [DpAll.length hl, List.length_map], fun i u hu => ?_⟩
  obtain ⟨d, ed, pd⟩ := DpAll.get hl hu
  rw [List.getElem?_map] at ed
  cases el : c.ls[i]? with
  | none => rw [el] at ed; cases ed
  | some l =>
    rw [el] at ed
    cases ed
    obtain ⟨t, et, ht⟩ := ends_of pd
    exact ⟨l, t, rfl, et, .inr ht⟩
theorem cnAny_l {H : Hp} {v : V} {c : Cn} (h : Dp K H v (lstD (cnD c))) : CnAny K H v c := by
  have e : lstD (cnD c) = .list [.int c.r, .int c.b, .list ((c.ls.map lkD).map lstD)] := by
    show PyData.list [.int c.r, .int c.b, .list (lstDs (c.ls.map lkD))] = _
    rw [lstDs_eq]
  rw [e] at h
  cases h with
  | lst hs ha =>
    cases ha with
    | cons p1 ha => cases p1; cases ha with
      | cons p2 ha => cases p2; cases ha with
        | cons p3 ha =>
          cases ha
          cases p3 with
          | lst hg hl =>
            refine ⟨_, _, _, rfl, .inl hs, .inl hg, by rw [DpAll.length hl, List.length_map, List.length_map], fun i u hu => ?_⟩
            obtain ⟨d, ed, pd⟩ := DpAll.get hl hu
            rw [List.map_map, List.getElem?_map] at ed
            cases el : c.ls[i]? with
            | none => rw [el] at ed; cases ed
            | some l =>
              rw [el] at ed
              cases ed
              obtain ⟨t, et, ht⟩ := ends_of' pd
              exact ⟨l, t, rfl, et, .inl ht⟩
theorem CnAny.same {H H' : Hp} {v : V} {c : Cn} (h : CnAny K H v c) (s : Same H H') : CnAny K H' v c := by
  obtain ⟨a, g, vs, e, ha, hg, hl, hv⟩ := h.ex
  refine ⟨a, g, vs, e, Same.sq2 s ha, Same.sq2 s hg, hl, fun i u hu => ?_⟩
  obtain ⟨l, t, h1, h2, h3⟩ := hv i u hu
  exact ⟨l, t, h1, h2, Same.sq2 s h3⟩
/-! ### waters, basins, ends -/
def isRed (w : Str) : Bool := decide (V.str w = V.str "red")
def basW (r : Bool) (c : Cn) : Int := if r = true then c.r else c.b
def endW (r : Bool) (l : Lk) : Int × Int := if r = true then (l.1, l.2.1) else (l.2.2.1, l.2.2.2)
def wS (r : Bool) : Str := if r = true then "red" else "blue"
theorem isRed_wS (r : Bool) : isRed (wS r) = r := by cases r <;> decide +kernel
abbrev nEnds : List Str := ["lock", "water", "a", "c", "x", "y"]
theorem scEnds : FnScope nEnds ["lock", "water"] (defScope sEnds) := ⟨rfl, rfl, rfl, by decide +kernel, rfl, by decide +kernel, by decide +kernel⟩
def prV (p : Int × Int) : List V := [.int p.1, .int p.2]
def spEnds (K : PySem.W.Frag) : Sp := fun vs H Q _ => ∃ (t : Addr) (w : Str) (l : Lk), vs = [.ref t, .str w] ∧ Sq2 K H t (endsV l) ∧ ∀ p, H p = none → Q (.ref p) (upd H p (.tup (prV (endW (isRed w) l))))
theorem ok_ends {f : Addr} {fd : FuncData} {k : Nat} {tR : Tok} (F : Fun K "ends_of" "ends_of" sEnds f fd) (gRED : mg "RED" = some (.str "red" tR)) : FnOk P w K mg base CX0 (k + 1) f fd ["lock", "water"] (spEnds K) := by
  refine F.ok scEnds (fun vs H Q E h => ?_) (fun cdv A outer s H vs Q E hr h => ?_)
  · obtain ⟨v, w, c, rfl, _⟩ := h
    rfl
  obtain ⟨t, w, l, rfl, ht, q⟩ := h
  refine ⟨_, (pss_cons (ps_asg (pv 0) (pg_any rfl (pgs_cons (pg_name (i := 2) scEnds.nd rfl (.inl rfl)) (pgs_cons (pg_name (i := 3) scEnds.nd rfl (.inl rfl)) (pgs_cons (pg_name (i := 4) scEnds.nd rfl (.inl rfl)) (pgs_cons (pg_name (i := 5) scEnds.nd rfl (.inl rfl)) pgs_nil))))))
    (pss_one (ps_ret (pe_ifExp (pt_cmpR op_eq (pv 1) (pe_glob (v := .str "red") rfl gRED ⟨_, rfl⟩) (nomark _)) (pe_tup (pa_cons (pv 2) (pa_cons (pv 3) pa_nil))) (pe_tup (pa_cons (pv 4) (pa_cons (pv 5) pa_nil))))))), ?_⟩
  refine ⟨_, rfl, t, _, rfl, ht, rfl, _, _, rfl, _, _, rfl, _, _, rfl, _, _, rfl, rfl, ?_⟩
  refine at_s (σ' := [some (.ref t), some (.str w), some (.int l.1), some (.int l.2.1), some (.int l.2.2.1), some (.int l.2.2.2)]) rfl ?_
  refine ⟨_, rfl, rfl, _, rfl, ite2 (fun e => ?_) (fun e => ?_)⟩
  · refine ⟨_, rfl, _, rfl, (by show 2 ≤ sizeLine; decide), fun p np => ?_⟩
    have q' := q p np
    have e2 : isRed w = true := e
    rw [e2] at q'; exact q'
  · refine ⟨_, rfl, _, rfl, (by show 2 ≤ sizeLine; decide), fun p np => ?_⟩
    have q' := q p np
    have e2 : isRed w = false := by cases z : isRed w; rfl; exact absurd z e
    rw [e2] at q'; exact q'
/-! ### standings of tuples or of lists -/
structure SnAny (K : PySem.W.Frag) (H : Hp) (v : V) (s : Sn) : Prop where
  ex : ∃ a ar ab al, v = .ref a ∧ Sq2 K H a [.ref ar, .ref ab, .ref al] ∧ Sq2 K H ar (s.rs.map V.int) ∧ Sq2 K H ab (s.bs.map V.int) ∧ Sq2 K H al (s.ls.map V.int)
theorem SnAny.same {H H' : Hp} {v : V} {s : Sn} (h : SnAny K H v s) (e : Same H H') : SnAny K H' v s := by
  obtain ⟨a, ar, ab, al, e1, h1, h2, h3, h4⟩ := h.ex
  exact ⟨a, ar, ab, al, e1, Same.sq2 e h1, Same.sq2 e h2, Same.sq2 e h3, Same.sq2 e h4⟩
theorem ints_inv {H : Hp} : ∀ {vs : List V} {zs : List Int}, DpAll K H vs (intsD zs) → vs = zs.map V.int
  | _, [], h => by cases h; rfl
  | _, z :: zs, h => by
    cases h with
    | cons p r => cases p; rw [ints_inv r]; rfl
theorem snAny_t {H : Hp} {v : V} {s : Sn} (h : Dp K H v (snD s)) : SnAny K H v s := by
  cases h with
  | tup hs ha =>
    cases ha with
    | cons p1 ha => cases ha with
      | cons p2 ha => cases ha with
        | cons p3 ha =>
          cases ha
          cases p1 with
          | tup a1 b1 => cases p2 with
            | tup a2 b2 => cases p3 with
              | tup a3 b3 =>
                rw [ints_inv b1] at a1; rw [ints_inv b2] at a2; rw [ints_inv b3] at a3
                exact ⟨_, _, _, _, rfl, .inr hs, .inr a1, .inr a2, .inr a3⟩
theorem map_li : ∀ zs : List Int, (intsD zs).map lstD = intsD zs
  | [] => rfl
  | z :: zs => by show lstD (.int z) :: (intsD zs).map lstD = _; rw [map_li zs]; rfl
theorem snAny_l {H : Hp} {v : V} {s : Sn} (h : Dp K H v (lstD (snD s))) : SnAny K H v s := by
  have e : lstD (snD s) = .list [.list (intsD s.rs), .list (intsD s.bs), .list (intsD s.ls)] := by
    show PyData.list [.list (lstDs (intsD s.rs)), .list (lstDs (intsD s.bs)), .list (lstDs (intsD s.ls))] = _
    rw [lstDs_eq, lstDs_eq, lstDs_eq, map_li, map_li, map_li]
  rw [e] at h
  cases h with
  | lst hs ha =>
    cases ha with
    | cons p1 ha => cases ha with
      | cons p2 ha => cases ha with
        | cons p3 ha =>
          cases ha
          cases p1 with
          | lst a1 b1 => cases p2 with
            | lst a2 b2 => cases p3 with
              | lst a3 b3 =>
                rw [ints_inv b1] at a1; rw [ints_inv b2] at a2; rw [ints_inv b3] at a3
                exact ⟨_, _, _, _, rfl, .inl hs, .inl a1, .inl a2, .inl a3⟩
/-! ### goings -/
def gt (zs : List Int) (j : Int) : Int := zs.getD j.toNat 0
theorem gt_get {zs : List Int} {j : Int} (h0 : 0 ≤ j) (h1 : j < zs.length) : zs[j.toNat]? = some (gt zs j) := by
  unfold gt
  rw [List.getD_eq_getElem?_getD, List.getElem?_eq_getElem (show j.toNat < zs.length by omega)]; rfl
theorem gt_at {zs : List Int} {j : Int} (h0 : 0 ≤ j) (h1 : j < zs.length) : atI (zs.map V.int) j = some (.int (gt zs j)) := atI_int h0 (by rw [List.getElem?_map, gt_get h0 h1]; rfl)
def lk0 : Lk := (0, 0, 0, 0)
def lkAt (c : Cn) (i : Nat) : Lk := c.ls.getD i lk0
theorem lkAt_get {c : Cn} {i : Nat} (h : i < c.ls.length) : c.ls[i]? = some (lkAt c i) := by
  unfold lkAt
  rw [List.getD_eq_getElem?_getD, List.getElem?_eq_getElem h]; rfl
def boatsW (r : Bool) (s : Sn) : List Int := if r = true then s.rs else s.bs
/-- from and to -/
def fromTo (c : Cn) (s : Sn) (i : Nat) (r : Bool) : Int × Int := if gt s.ls i = 0 then endW r (lkAt c i) else ((endW r (lkAt c i)).2, (endW r (lkAt c i)).1)
def hasB (c : Cn) (s : Sn) (i : Nat) (r : Bool) : Bool := decide (gt (boatsW r s) (fromTo c s i r).1 > 0)
def mov (zs : List Int) (p : Int × Int) : List Int :=
  let b1 := zs.set p.1.toNat (gt zs p.1 - 1)
  b1.set p.2.toNat (gt b1 p.2 + 1)
def flip1 (zs : List Int) (i : Nat) : List Int := zs.set i (1 - gt zs i)
def goneS (c : Cn) (s : Sn) (i : Nat) (r : Bool) : Sn :=
  if r = true then ⟨mov s.rs (fromTo c s i r), s.bs, flip1 s.ls i⟩ else ⟨s.rs, mov s.bs (fromTo c s i r), flip1 s.ls i⟩
theorem mov_len (zs : List Int) (p : Int × Int) : (mov zs p).length = zs.length := by unfold mov; rw [List.length_set, List.length_set]
theorem flip_len (zs : List Int) (i : Nat) : (flip1 zs i).length = zs.length := by unfold flip1; rw [List.length_set]
theorem mem_set_or {α : Type} {l : List α} {i : Nat} {a x : α} (h : x ∈ l.set i a) : x ∈ l ∨ x = a := by
  rcases List.mem_or_eq_of_mem_set h with q | q
  · exact .inl q
  · exact .inr q
theorem gt_mem {zs : List Int} {j : Int} (h0 : 0 ≤ j) (h1 : j < zs.length) : gt zs j ∈ zs := List.mem_of_getElem? (gt_get h0 h1)
theorem mov_bd {zs : List Int} {p : Int × Int} {B : Int} (h0 : 0 ≤ p.1) (h1 : p.1 < zs.length) (h2 : 0 ≤ p.2) (h3 : p.2 < zs.length) (hb : ∀ x ∈ zs, 0 ≤ x ∧ x ≤ B) (hp : gt zs p.1 > 0) : ∀ x ∈ mov zs p, 0 ≤ x ∧ x ≤ B + 1 := by
  intro x hx
  have k1 : ∀ y ∈ zs.set p.1.toNat (gt zs p.1 - 1), 0 ≤ y ∧ y ≤ B := fun y hy => by
    rcases mem_set_or hy with q | q
    · exact hb y q
    · have := hb _ (gt_mem h0 h1); omega
  unfold mov at hx
  rcases mem_set_or hx with q | q
  · have := k1 x q; omega
  · have := k1 _ (gt_mem (zs := zs.set p.1.toNat (gt zs p.1 - 1)) (j := p.2) h2 (by rw [List.length_set]; exact h3)); omega
theorem endW_ok {c : Cn} {W U : Nat} (ok : okCn W U c) {i : Nat} (hi : i < c.ls.length) (r : Bool) : (0 ≤ (endW r (lkAt c i)).1 ∧ (endW r (lkAt c i)).1 < basW r c) ∧ (0 ≤ (endW r (lkAt c i)).2 ∧ (endW r (lkAt c i)).2 < basW r c) := by
  have o := ok.l _ (List.mem_of_getElem? (lkAt_get hi))
  cases r with
  | true => exact ⟨⟨o.a0, o.a1⟩, o.c0, o.c1⟩
  | false => exact ⟨⟨o.x0, o.x1⟩, o.y0, o.y1⟩
theorem fromTo_ok {c : Cn} {W U : Nat} (ok : okCn W U c) {s : Sn} {i : Nat} (hi : i < c.ls.length) (r : Bool) : (0 ≤ (fromTo c s i r).1 ∧ (fromTo c s i r).1 < basW r c) ∧ (0 ≤ (fromTo c s i r).2 ∧ (fromTo c s i r).2 < basW r c) := by
  have h := endW_ok ok hi r
  unfold fromTo
  split
  · exact h
  · exact ⟨h.2, h.1⟩
theorem boats_len {c : Cn} {B : Int} {s : Sn} (ok : okSn c B s) (r : Bool) : ((boatsW r s).length : Int) = basW r c := by
  cases r with
  | true => exact ok.r
  | false => exact ok.b
theorem goneS_ok {c : Cn} {W U : Nat} {B : Int} {s : Sn} (okc : okCn W U c) (ok : okSn c B s) {i : Nat} (hi : i < c.ls.length) (r : Bool) (h : hasB c s i r = true) : okSn c (B + 1) (goneS c s i r) := by
  have f := fromTo_ok okc (s := s) hi r
  have hp : gt (boatsW r s) (fromTo c s i r).1 > 0 := of_decide_eq_true h
  have hl := boats_len ok r
  have fl : ∀ x ∈ flip1 s.ls i, x = 0 ∨ x = 1 := fun x hx => by
    unfold flip1 at hx
    rcases mem_set_or hx with q | q
    · exact ok.l0 x q
    · have hm := gt_mem (zs := s.ls) (j := (i : Int)) (by omega) (by rw [ok.n]; omega)
      rcases ok.l0 _ hm with z | z <;> omega
  have up : ∀ {zs : List Int}, (∀ x ∈ zs, 0 ≤ x ∧ x ≤ B) → ∀ x ∈ zs, 0 ≤ x ∧ x ≤ B + 1 := fun h x hx => by have := h x hx; omega
  cases r with
  | true => exact ⟨by show ((mov s.rs _).length : Int) = _; rw [mov_len]; exact ok.r, ok.b, by show (flip1 s.ls i).length = _; rw [flip_len]; exact ok.n, mov_bd f.1.1 (by rw [show (s.rs.length : Int) = basW true c from hl]; exact f.1.2) f.2.1 (by rw [show (s.rs.length : Int) = basW true c from hl]; exact f.2.2) ok.r0 hp, up ok.b0, fl⟩
  | false => exact ⟨ok.r, by show ((mov s.bs _).length : Int) = _; rw [mov_len]; exact ok.b, by show (flip1 s.ls i).length = _; rw [flip_len]; exact ok.n, up ok.r0, mov_bd f.1.1 (by rw [show (s.bs.length : Int) = basW false c from hl]; exact f.1.2) f.2.1 (by rw [show (s.bs.length : Int) = basW false c from hl]; exact f.2.2) ok.b0 hp, fl⟩
/-- the goings that may be, lock by lock, red ahead of blue -/
abbrev Mv := Nat × Bool
def mvV (m : Mv) : List V := [.int m.1, .str (wS m.2)]
def mvD (m : Mv) : PyData := .tuple [.int m.1, .str (wS m.2)]
def mayL (c : Cn) (s : Sn) (i : Nat) : List Mv := [true, false].filterMap fun r => if hasB c s i r = true then some (i, r) else none
def may (c : Cn) (s : Sn) (n : Nat) : List Mv := (List.range n).flatMap (mayL c s)
theorem may_succ (c : Cn) (s : Sn) (n : Nat) : may c s (n + 1) = may c s n ++ mayL c s n := by
  unfold may
  rw [List.range_succ, List.flatMap_append]
  simp
theorem mayL_eq (c : Cn) (s : Sn) (i : Nat) : mayL c s i = (if hasB c s i true = true then [(i, true)] else []) ++ (if hasB c s i false = true then [(i, false)] else []) := by
  unfold mayL
  by_cases h1 : hasB c s i true = true <;> by_cases h2 : hasB c s i false = true <;> simp [h1, h2]
theorem mem_may {c : Cn} {s : Sn} {m : Mv} : ∀ {n : Nat}, m ∈ may c s n ↔ m.1 < n ∧ hasB c s m.1 m.2 = true
  | 0 => by simp [may]
  | n + 1 => by
    rw [may_succ, List.mem_append, mem_may (n := n), mayL_eq]
    obtain ⟨i, r⟩ := m
    constructor
    · rintro (h | h)
      · exact ⟨by have := h.1; omega, h.2⟩
      · rcases List.mem_append.mp h with h | h
        · by_cases h1 : hasB c s n true = true
          · rw [if_pos h1] at h
            have e : (i, r) = (n, true) := by simpa using h
            cases e; exact ⟨Nat.lt_succ_self _, h1⟩
          · rw [if_neg h1] at h; simp at h
        · by_cases h1 : hasB c s n false = true
          · rw [if_pos h1] at h
            have e : (i, r) = (n, false) := by simpa using h
            cases e; exact ⟨Nat.lt_succ_self _, h1⟩
          · rw [if_neg h1] at h; simp at h
    · intro ⟨h1, h2⟩
      by_cases e : i = n
      · refine .inr ?_
        have e' : i = n := e
        subst e'
        have h2' : hasB c s i r = true := h2
        cases r with
        | true => rw [if_pos h2']; exact List.mem_append_left _ (by simp)
        | false => rw [if_pos h2']; exact List.mem_append_right _ (by simp)
      · exact .inl ⟨by have : i < n + 1 := h1; show i < n; omega, h2⟩
theorem may_len (c : Cn) (s : Sn) : ∀ n : Nat, (may c s n).length ≤ 2 * n
  | 0 => by simp [may]
  | n + 1 => by
    have h := may_len c s n
    rw [may_succ, List.length_append, mayL_eq, List.length_append]
    have h1 : (if hasB c s n true = true then [(n, true)] else ([] : List Mv)).length ≤ 1 := by split <;> simp
    have h2 : (if hasB c s n false = true then [(n, false)] else ([] : List Mv)).length ≤ 1 := by split <;> simp
    omega
/-! ### from_and_to, has_boat, may_go -/
abbrev nFT : List Str := ["canal", "standing", "lock", "water", "start", "end"]
theorem scFT : FnScope nFT ["canal", "standing", "lock", "water"] (defScope sFT) := ⟨rfl, rfl, rfl, by decide +kernel, rfl, by decide +kernel, by decide +kernel⟩
def spFT (K : PySem.W.Frag) : Sp := fun vs H Q _ => ∃ (v u : V) (i : Nat) (r : Bool) (c : Cn) (s : Sn), vs = [v, u, .int i, .str (wS r)] ∧ CnAny K H v c ∧ SnAny K H u s ∧ i < c.ls.length ∧ i < s.ls.length ∧ ∀ p H', Same H H' → H p = none → H' p = some (.tup (prV (fromTo c s i r))) → Q (.ref p) H'
theorem ok_ft {f fe : Addr} {fd fde : FuncData} {k : Nat} (F : Fun K "from_and_to" "from_and_to" sFT f fd) (En : Fns P w K mg base k "ends_of" ["lock", "water"] (spEnds K) fe fde) : FnOk P w K mg base CX0 (k + 1) f fd ["canal", "standing", "lock", "water"] (spFT K) := by
  refine F.ok scFT (fun vs H Q E h => ?_) (fun cdv A outer s H vs Q E hr h => ?_)
  · obtain ⟨v, u, i, r, c, s, rfl, _⟩ := h
    rfl
  obtain ⟨v, u, i, r, c, s, rfl, hc, hs, hi, hi2, q⟩ := h
  obtain ⟨a, g, vs, rfl, ha, hg, hl, hv⟩ := hc.ex
  obtain ⟨b, br, bb, bl, rfl, hb, hbr, hbb, hbl⟩ := hs.ex
  refine ⟨_, (pss_cons (ps_asg (pe_fn En hr rfl (pa_cons (pe_ix (r := rIxA K) ix_any (pe_ix (r := rIxA K) ix_any (pv 0) pe_int (fun _ _ => rfl)) (pv 2) (fun _ _ => rfl)) (pa_cons (pv 3) pa_nil))) (pg_any rfl (pgs_cons (pg_name (i := 4) scFT.nd rfl (.inl rfl)) (pgs_cons (pg_name (i := 5) scFT.nd rfl (.inl rfl)) pgs_nil))))
    (pss_one (ps_ret (pe_ifExp (pt_cmpR op_eq (pe_ix (r := rIxA K) ix_any (pe_ix (r := rIxA K) ix_any (pv 1) pe_int (fun _ _ => rfl)) (pv 2) (fun _ _ => rfl)) pe_int (nomark _)) (pe_tup (pa_cons (pv 4) (pa_cons (pv 5) pa_nil))) (pe_tup (pa_cons (pv 5) (pa_cons (pv 4) pa_nil))))))), ?_⟩
  have hvi : i < vs.length := by rw [hl]; exact hi
  obtain ⟨l, t, el, et, ht⟩ := hv i _ (List.getElem?_eq_getElem hvi)
  have el' : l = lkAt c i := by rw [lkAt_get hi] at el; exact (Option.some.inj el).symm
  subst el'
  refine ⟨_, rfl, a, _, _, _, rfl, rfl, ha, rfl, _, rfl, g, _, _, _, rfl, rfl, hg, atI_nat (List.getElem?_eq_getElem hvi), _, rfl, t, wS r, lkAt c i, by rw [et]; rfl, ht, fun p np => ?_⟩
  rw [isRed_wS]
  have s1 : Same H (upd H p (.tup (prV (endW r (lkAt c i))))) := same_new np
  refine ⟨p, _, rfl, .inr (.inl (.inl upd_same)), rfl, _, _, rfl, _, _, rfl, rfl, ?_⟩
  refine at_s (σ' := [some (.ref a), some (.ref b), some (.int i), some (.str (wS r)), some (.int (endW r (lkAt c i)).1), some (.int (endW r (lkAt c i)).2)]) rfl ?_
  refine ⟨_, rfl, b, _, _, _, rfl, rfl, Same.sq2 s1 hb, rfl, _, rfl, bl, _, _, _, rfl, rfl, Same.sq2 s1 hbl, gt_at (by omega) (by omega), rfl, _, rfl, ite2 (fun e => ?_) (fun e => ?_)⟩
  · refine ⟨_, rfl, _, rfl, (by show 2 ≤ sizeLine; decide), fun p2 np2 => ?_⟩
    have e' : gt s.ls (i : Int) = 0 := V.int.inj (of_decide_eq_true e)
    refine q p2 _ (s1.trans (same_new np2)) (s1.free np2) ?_
    rw [upd_same]; unfold fromTo; rw [if_pos e']; rfl
  · refine ⟨_, rfl, _, rfl, (by show 2 ≤ sizeLine; decide), fun p2 np2 => ?_⟩
    have e' : ¬ gt s.ls (i : Int) = 0 := fun z => e (decide_eq_true (by rw [z]))
    refine q p2 _ (s1.trans (same_new np2)) (s1.free np2) ?_
    rw [upd_same]; unfold fromTo; rw [if_neg e']; rfl
abbrev nHas : List Str := ["canal", "standing", "lock", "water", "start", "boats"]
theorem scHas : FnScope nHas ["canal", "standing", "lock", "water"] (defScope sHas) := ⟨rfl, rfl, rfl, by decide +kernel, rfl, by decide +kernel, by decide +kernel⟩
def spHas (K : PySem.W.Frag) : Sp := fun vs H Q _ => ∃ (v u : V) (i : Nat) (r : Bool) (c : Cn) (s : Sn) (B : Int), vs = [v, u, .int i, .str (wS r)] ∧ CnAny K H v c ∧ SnAny K H u s ∧ i < c.ls.length ∧ okCn 100 100 c ∧ okSn c B s ∧ ∀ H', Same H H' → Q (.bl (hasB c s i r)) H'
theorem ok_has {f fe : Addr} {fd fde : FuncData} {k : Nat} {tR : Tok} (F : Fun K "has_boat" "has_boat" sHas f fd) (FT : Fns P w K mg base k "from_and_to" ["canal", "standing", "lock", "water"] (spFT K) fe fde) (gRED : mg "RED" = some (.str "red" tR)) : FnOk P w K mg base CX0 (k + 1) f fd ["canal", "standing", "lock", "water"] (spHas K) := by
  refine F.ok scHas (fun vs H Q E h => ?_) (fun cdv A outer s H vs Q E hr h => ?_)
  · obtain ⟨v, u, i, r, c, s, B, rfl, _⟩ := h
    rfl
  obtain ⟨v, u, i, r, c, s, B, rfl, hc, hs, hi, okc, oks, q⟩ := h
  obtain ⟨b, br, bb, bl, rfl, hb, hbr, hbb, hbl⟩ := hs.ex
  refine ⟨_, (pss_cons (ps_set (i := 4) scHas.nd rfl (.inl rfl) (pe_ix (r := rIxA K) ix_any (pe_fn FT hr rfl (pa_cons (pv 0) (pa_cons (pv 1) (pa_cons (pv 2) (pa_cons (pv 3) pa_nil))))) pe_int (fun _ _ => rfl)))
    (pss_cons (ps_set (i := 5) scHas.nd rfl (.inl rfl) (pe_ifExp (pt_cmpR op_eq (pv 3) (pe_glob (v := .str "red") rfl gRED ⟨_, rfl⟩) (nomark _)) (pe_ix (r := rIxA K) ix_any (pv 1) pe_int (fun _ _ => rfl)) (pe_ix (r := rIxA K) ix_any (pv 1) pe_int (fun _ _ => rfl))))
    (pss_one (ps_ret (pe_cmpR op_gt (pe_ix (r := rIxA K) ix_any (pv 5) (pv 4) (fun _ _ => rfl)) pe_int (nomark _)))))), ?_⟩
  refine ⟨_, rfl, _, rfl, _, rfl, _, rfl, v, .ref b, i, r, c, s, rfl, hc, hs, hi, by rw [oks.n]; exact hi, fun p H1 s1 np ep => ?_⟩
  refine ⟨p, _, _, _, rfl, rfl, .inr (.inl (.inl ep)), rfl, ?_⟩
  have f := fromTo_ok okc (s := s) hi r
  have hl := boats_len oks r
  have g1 : atI ((boatsW r s).map V.int) (fromTo c s i r).1 = some (.int (gt (boatsW r s) (fromTo c s i r).1)) := gt_at f.1.1 (by rw [hl]; exact f.1.2)
  refine at_g (σ' := [some v, some (.ref b), some (.int i), some (.str (wS r)), some (.int (fromTo c s i r).1), none]) rfl ?_
  refine ⟨_, rfl, rfl, _, rfl, ite2 (fun e => ?_) (fun e => ?_)⟩
  · have er : r = true := by rw [← isRed_wS r]; exact e
    subst er
    refine ⟨_, rfl, b, _, _, _, rfl, rfl, Same.sq2 s1 hb, rfl, ?_⟩
    exact ⟨_, rfl, _, rfl, br, _, _, _, rfl, rfl, Same.sq2 s1 hbr, g1, _, _, rfl, rfl, q _ s1⟩
  · have er : r = false := by
      cases r with
      | false => rfl
      | true => exact absurd (isRed_wS true) e
    subst er
    refine ⟨_, rfl, b, _, _, _, rfl, rfl, Same.sq2 s1 hb, rfl, ?_⟩
    exact ⟨_, rfl, _, rfl, bb, _, _, _, rfl, rfl, Same.sq2 s1 hbb, g1, _, _, rfl, rfl, q _ s1⟩
/-- a list of goings, tuples all -/
structure MvAt (H : Hp) (a : Addr) (ms : List Mv) (us : List V) : Prop where
  e : H a = some (.lst us)
  l : us.length = ms.length
  d : ∀ (j : Nat) u, us[j]? = some u → ∃ t m, u = .ref t ∧ ms[j]? = some m ∧ H t = some (.tup (mvV m))
theorem MvAt.dp {H : Hp} {a : Addr} : ∀ {ms : List Mv} {us : List V}, us.length = ms.length → (∀ (j : Nat) u, us[j]? = some u → ∃ t m, u = .ref t ∧ ms[j]? = some m ∧ H t = some (.tup (mvV m))) → DpAll K H us (ms.map mvD)
  | [], [], _, _ => .nil
  | [], _ :: _, h, _ => by simp at h
  | _ :: _, [], h, _ => by simp at h
  | m :: ms, u :: us, h, hd => by
    obtain ⟨t, m', e, em, et⟩ := hd 0 u rfl
    have e' : m = m' := by simpa using em
    subst e'
    rw [e]
    exact .cons (.tup (.inl (.inl et)) (.cons (.int _) (.cons (.str _) .nil))) (MvAt.dp (a := a) (by simpa using h) fun j u q => by simpa using hd (j + 1) u (by simpa using q))
theorem MvAt.snoc {H H' : Hp} {a t : Addr} {ms : List Mv} {us : List V} {m : Mv} (h : MvAt H a ms us) (hk : ∀ (b : Addr) xs, H b = some (.tup xs) → H' b = some (.tup xs)) (et : H' t = some (.tup (mvV m))) (ea : H' a = some (.lst (us ++ [.ref t]))) : MvAt H' a (ms ++ [m]) (us ++ [.ref t]) := by
  refine ⟨ea, by rw [List.length_append, List.length_append, h.l]; rfl, fun j u hu => ?_⟩
  by_cases hj : j < us.length
  · rw [List.getElem?_append_left hj] at hu
    obtain ⟨t', m', e1, e2, e3⟩ := h.d j u hu
    exact ⟨t', m', e1, by rw [List.getElem?_append_left (by rw [← h.l]; exact hj)]; exact e2, hk _ _ e3⟩
  · rw [List.getElem?_append_right (by omega)] at hu
    have hj0 : j - us.length = 0 := by
      rcases Nat.eq_zero_or_pos (j - us.length) with q | q
      · exact q
      · rw [List.getElem?_eq_none (by simp; omega)] at hu; cases hu
    rw [hj0] at hu
    have e : V.ref t = u := by simpa using hu
    refine ⟨t, m, e.symm, ?_, et⟩
    rw [List.getElem?_append_right (by rw [← h.l]; omega), ← h.l, hj0]; rfl
end
end XL
namespace PySem
namespace XE
open Builtin Builtin.ObjectAttr
/-! ### own exceptions as values: made by place or with keywords -/
section
variable {prog : Program} {w : World} {M : Model} {A : Around} {E : Value → Shared → Prop} {R : Result → Shared → Prop} {h : Heap} {g : Array GenState} {d : Drawn} {t : Nat} {os : OsState}
variable {nm q : Str} {C N : Addr} {bs bm : List Value} {hdct : Bool} {sn : List Str} {sub : List Value} {ab : Bool} {col : Option Bool} {dd : Option Addr} {k0 k1 k2 k3 k5 : Option Value} {B newId initId : String}
theorem newK_check (F : ExcBaseFacts B newId initId bm) {rest : List Value} {kw : List (Str × Value)} {Q : Unit → Shared → Prop}
    (hC : h.get? C = some (excClassObj nm q C N bs bm hdct sn sub ab col dd k0 k1 k2 k3 k5 newId)) (hq : Q () ⟨h, g, d, t, os⟩) : wpAny M A (checkBuiltinCall newId ⟨.ref C :: rest, kw⟩) Q E ⟨h, g, d, t, os⟩ := by
  have hcont : (Value.ref C :: bm).contains (.type B) = true := by rw [List.contains_cons, F.hasB, Bool.or_true]
  have hstar := F.noStar; simp only [checkBuiltinCall, F.newKind, F.newSplit, F.newRow]
  repeat (first | refine wpAny_loadPart_at hC ?_ | (refine wpAny_isSubtype_exc hC ?_; rw [hcont]) | refine wpAny_staticBase_exc hC ?_ | refine wpAny_madeBy_exc hC ?_ | simp only [bne_self_eq_false, Bool.false_eq_true, if_false] | wp_step)
  exact hq
theorem newK_run (F : ExcBaseFacts B newId initId bm) {rest : List Value} {kw : List (Str × Value)}
    (hC : h.get? C = some (excClassObj nm q C N bs bm hdct sn sub ab col dd k0 k1 k2 k3 k5 newId))
    (hq : R (.ok (.ret (.ref (h.objs.size + 1)))) ⟨(h.push (W.kdv_tup rest)).push (HandSPX.excO C h.objs.size), g, d, t, os⟩) (hrest : rest.length ≤ sizeLine) :
    codeAny (model prog w) A (.builtin newId ⟨.ref C :: rest, kw⟩) R ⟨h, g, d, t, os⟩ := by
  have hends := F.ends; have hcB : (Value.ref C :: bm).contains (.type B) = true := by rw [List.contains_cons, F.hasB, Bool.or_true]
  have hcA : (Value.ref C :: bm).contains (.type "AttributeError") = false := by rw [List.contains_cons, F.noAttr]; rfl
  have hcN : (Value.ref C :: bm).contains (.type "NameError") = false := by rw [List.contains_cons, F.noName]; rfl
  refine codeAny_builtinAt F.entry ?_; unfold Builtin.«BaseException.__new__»; refine wpAt_bind ?_
  show wpAt _ _ _ (stack >>= _) _ _ _
  refine wpAt_bind (wpAt_stack fun p below => wpAt_of_wpAny ?_); wp_walk; refine wpAt_of_wpAny ?_; rw [F.owner]
  repeat (first | with_reducible refine wpAny_madeHere_exc F.canon hC ?_ | with_reducible refine wpAny_loadPart_at hC ?_ | (with_reducible refine wpAny_isSubtype_exc hC ?_; first | rw [hcB] | rw [hcA] | rw [hcN]) | wp_step)
  show R _ _
  rw [Heap.size_push]; exact hq
theorem typeK_check {rest : List Value} {kw : List (Str × Value)} {Q : Unit → Shared → Prop} (hC : h.get? C = some (excClassObj nm q C N bs bm hdct sn sub ab col dd k0 k1 k2 k3 k5 newId))
    (hq : Q () ⟨h, g, d, t, os⟩) : wpAny M A (checkBuiltinCall "type.__call__" ⟨.ref C :: rest, kw⟩) Q E ⟨h, g, d, t, os⟩ := by
  have f3 := tc_sub; have hT : (⟨h, g, d, t, os⟩ : Shared).TypeIs (.ref C) "type" := ⟨_, hC, rfl⟩
  simp only [checkBuiltinCall, tc_kind, tc_split]
  repeat (any_goals (first | assumption | with_reducible refine wpAny_loadPart_at hC ?_ | with_reducible refine wpAny_onRaise ?_ | with_reducible refine wpAny_map ?_ | wp_step))
theorem typeK_call (F : ExcBaseFacts B newId initId bm) {rest : List Value} {kw : List (Str × Value)} {fI : Addr} {Q : Fin → Shared → Prop}
    (hC : h.get? C = some (excClassObj nm q C N bs bm hdct sn sub ab col dd k0 k1 k2 k3 k5 newId))
    (hi : W.Looks (model prog w) h (typeLookup (.ref C) "__init__") (some (.ref fI))) (hb : ∀ self, W.Looks (model prog w) h (bindSpecial (.ref fI) self) (.ref fI, [self])) (hrest : rest.length ≤ sizeLine)
    (hq : codeAny (model prog w) A (.call (.ref fI) ⟨.ref (h.objs.size + 1) :: rest, kw⟩)
      (fun r s' => match r with | .ok (.ret v) => v = .none ∧ Q (.done (.ret (.ref (h.objs.size + 1)))) s' | .ok _ => False | .error e => E e s') ⟨(h.push (W.kdv_tup rest)).push (HandSPX.excO C h.objs.size), g, d, t, os⟩) :
    wpAny (model prog w) A (Builtin.«type.__call__» ⟨.ref C :: rest, kw⟩) Q E ⟨h, g, d, t, os⟩ := by
  repeat (first | with_reducible refine wpAny_loadPart_at hC ?_ | with_reducible refine wpAny_madeBy_exc hC ?_ | wp_step)
  refine codeAny_call_builtin_code (Code.quiet_builtin _ F.quiet) (newK_check F hC ?_)
  refine newK_run F hC ?_ hrest
  show wpAny _ _ _ _ _ _
  have k : ∀ b o, h.get? b = some o → ((h.push (W.kdv_tup rest)).push (HandSPX.excO C h.objs.size)).get? b = some o := fun b o e => Heap.get?_push_of_some _ (Heap.get?_push_of_some _ e)
  have hC₁ := k _ _ hC
  have hget : ((h.push (W.kdv_tup rest)).push (HandSPX.excO C h.objs.size)).get? (h.objs.size + 1) = some (HandSPX.excO C h.objs.size) := by heap_get
  have hcC : (Value.ref C :: bm).contains (.ref C) = true := by simp
  have i1 := hi.keeps k; have b1 := (hb (.ref (h.objs.size + 1))).keeps k
  unfold isInstance
  repeat (first | with_reducible refine wpAny_loadPart_at hget ?_ | (with_reducible refine wpAny_isSubtype_exc hC₁ ?_; rw [hcC]) | wp_step)
  show wpAny _ _ (typeLookup (.ref C) _) _ _ _
  refine i1.at ?_
  refine wpAny_holding (wpAny_bind (b1.at ?_))
  refine wpAny_bind (wpAny_call (codeAny_mono hq fun r s' z => ?_))
  rcases r with e | (v | _ | _ | _) <;> first | exact z | exact z.elim | skip
  obtain ⟨rfl, z⟩ := z
  first | exact wpAny_pure (wpAny_pure z) | (wp_walk; exact z)
theorem callK (F : ExcBaseFacts B newId initId bm) {rest : List Value} {kw : List (Str × Value)} {fI : Addr}
    (hC : h.get? C = some (excClassObj nm q C N bs bm hdct sn sub ab col dd k0 k1 k2 k3 k5 newId))
    (hi : W.Looks (model prog w) h (typeLookup (.ref C) "__init__") (some (.ref fI))) (hb : ∀ self, W.Looks (model prog w) h (bindSpecial (.ref fI) self) (.ref fI, [self])) (hrest : rest.length ≤ sizeLine)
    (hq : codeAny (model prog w) (A.under (.builtin "type.__call__" ⟨.ref C :: rest, kw⟩)) (.call (.ref fI) ⟨.ref (h.objs.size + 1) :: rest, kw⟩) (W.InitBack (h.objs.size + 1) R)
      ⟨(h.push (W.kdv_tup rest)).push (HandSPX.excO C h.objs.size), g, d, t, os⟩) : codeAny (model prog w) A (.call (.ref C) ⟨rest, kw⟩) R ⟨h, g, d, t, os⟩ := by
  have f1 := tc_lookup; have f2 := tc_bind (.ref C); have hTy : (⟨h, g, d, t, os⟩ : Shared).TypeIs (.ref C) "type" := ⟨_, hC, rfl⟩
  refine codeAny_of_tree ?_
  show wpAny _ _ (callAny (.ref C) _) _ _ _
  repeat (any_goals (first | assumption | with_reducible refine wpAny_loadPart_at hC ?_ | wp_step))
  refine ⟨rfl, ?_⟩
  refine codeAny_call_builtin_at (Code.quiet_builtin _ (by decide +kernel)) entry_typeCall (typeK_check hC (typeK_call F hC hi hb hrest ?_))
  refine codeAny_mono hq fun r s' z => ?_
  rcases r with e | (v | _ | _ | _) <;> exact z
end
/-! ### self.name = v -/
section
variable {prog : Program} {w : World} {A : Around} {E : Value → Shared → Prop} {R : Result → Shared → Prop} {hp : Heap} {g : Array GenState} {d : Drawn} {t : Nat} {os : OsState}
theorem osaG {K : W.Frag} {name : Str} {tk : Tok} {v : Value} {x C : Addr} {fv : Array Value} {cd : ClassData}
    (X : K.In hp) (hx : hp.get? x = some { cls := .ref C, data := .fields fv }) (hcd : W.clsIn K C = some cd) (ne : cd.mro.isEmpty = false) (hob : cd.mro.contains (.type "object") = true) (hpass : ∀ self, refuseLoop self "__setattr__" cd.mro = pure ())
    (hh : cd.hasDict = true) (ha : W.findIn K (.ref C) name = some none)
    (hq : ∀ h' tk' dx, (∀ b o, b ≠ x → hp.get? b = some o → h'.get? b = some o) → hp.objs.size ≤ dx → dx ≠ x → h'.get? x = some { cls := .ref C, dict := some dx, data := .fields fv } → h'.Ns1 dx (fun y => if y = name then some v else none) →
      R (.ok (.ret .none)) ⟨h', g, d, tk', os⟩) :
    codeAny (model prog w) A (.call (.builtin "object.__setattr__") ⟨[.ref x, .str name tk, v], []⟩) R ⟨hp, g, d, t, os⟩ := by
  have I : W.InstAt hp x { cls := .ref C, data := .fields fv } C none := ⟨hx, rfl, rfl, trivial⟩
  have SF := F.store_object; have hxs : x ≠ hp.objs.size := Nat.ne_of_lt (Heap.lt_size hx)
  have sub : W.Looks (model prog w) hp (isInstance (.ref x) (.type "object")) true := I.type.andThen (W.looks_mroIn X (by unfold W.mroIn; rw [hcd, Option.bind_some, if_neg (by rw [ne]; decide), hob]))
  refine codeAny_call_builtin SF.slot.plain SF.entry (@W.check_slot (model prog w) _ _ ⟨hp, g, d, t, os⟩ "object.__setattr__" "object" "__setattr__" (.ref x) [.str name tk, v] [] _ SF.kind SF.split sub (SF.args (.ref x) (.str name tk) v) ?_)
  have hmr : W.Looks (model prog w) hp (mroOf (.ref C)) cd.mro := (W.looks_clsIn X hcd).andThen .now
  have L3 : W.Looks (model prog w) hp (storeTaker? none) none := .now; have hcls : W.Looks (model prog w) hp (classData C) cd := W.looks_clsIn X hcd
  rw [W.osa_eq, refuse_eq]
  refine wpAny_bind (wpAny_bind (I.type.at (wpAny_bind (hmr.at ?_))))
  rw [hpass]
  refine wpAny_pure (wpAny_bind (I.type.at (wpAny_bind ((W.looks_findIn X ha).at (wpAny_bind (L3.at ?_))))))
  show wpAny _ _ (storeInOwnDict (.ref x) (.ref C) (.str name tk) name v false) _ _ _
  obtain ⟨nm, bs, mro, ns, qn, hd, sn, sb, ab, col, del⟩ := cd
  dsimp only at hh
  subst hh
  unfold storeInOwnDict ownDictForStores
  repeat (first | with_reducible refine HandSPX.store_in_new ?_ ?_ | with_reducible refine wpAny_loadPart_at hx ?_ | with_reducible refine hcls.at ?_ | wp_step)
  · exact ⟨_, #[], _, (Heap.get?_update_ne _ _ _ _ hxs.symm).trans (Heap.get?_push_at rfl rfl), rfl, fun e he => absurd he (by simp), fun _ => rfl⟩
  · intro h' tk' hn' hs
    have hx₁ : (hp.push { cls := .type "dict", data := .dict #[] }).get? x = some { cls := .ref C, data := .fields fv } := Heap.get?_push_of_some _ hx
    refine hq h' tk' hp.objs.size (fun b o hb ho => ?_) (Nat.le_refl _) hxs.symm ?_ hn'
    · exact (hs.2 b (Nat.ne_of_lt (Heap.lt_size ho))).trans ((Heap.get?_update_ne _ _ _ _ hb).trans (Heap.get?_push_of_some _ ho))
    · exact (hs.2 x hxs).trans (Heap.get?_update_self _ hx₁ rfl)
end
end XE
end PySem
namespace XL
open PySem PySem.Spec PyProof.Rows L2
/-- what the written part says of an own exception class straight over B -/
structure ExF (K : PySem.W.Frag) (C : Addr) (B newId initId : String) (bm : List Value) : Prop where
  base : ExcBaseFacts B newId initId bm
  pass : ∀ self, refuseLoop self "__setattr__" (.ref C :: bm) = pure ()
  obj : bm.contains (.type "object") = true
  cls : ∃ nm q N bs sn sub ab col dd k0 k1 k2 k3 k5, K.lookup C = some (excClassObj nm q C N bs bm true sn sub ab col dd k0 k1 k2 k3 k5 newId)
  sa : PySem.W.findIn K (.ref C) "__setattr__" = some (some (.builtin "object.__setattr__"))
  ga : PySem.W.findIn K (.ref C) "__getattribute__" = some (some (.builtin "BaseException.__getattribute__"))
  gt : PySem.W.findIn K (.ref C) "__getattr__" = some none
  exC : PySem.W.subIn K (.ref C) (.type "BaseException") = some true
  kC : PySem.W.keepIn K (.ref C) = true
  hd : PySem.W.hasDictIn K C = true
  ca : PySem.W.findIn K (.ref C) "__class__" = some (some (.builtin "object.__class__"))
  cn : PySem.W.specialIn K (.builtin "object.__class__") "__get__" = some (some (.builtin "getset_descriptor.__get__"))
  ct : PySem.W.takesIn K (.builtin "object.__class__") = some true
  mo : PySem.W.mroIn K C (.type "object") = some true
section
variable {X : Cx} {pins : List (Addr × Obj)} {σ : L2.St} {H : Hp} {s : Shared} {a C dx : Addr} {f : Str} {y : V} {u : Value} {fs : List (Str × V)} {E : Value → Shared → Prop} {A : Around} {B newId initId : String} {bm : List Value}
theorem ost_newG {Q : Unit → Shared → Prop} (T : ExF X.K C B newId initId bm) (I : Inv X pins σ H s) (e : H a = some (exo a C none)) (hno : PySem.W.findIn X.K (.ref C) f = some none) (ry : RelV y u)
    (h : ∀ dx s', H dx = none → dx ≠ a → Inv X pins σ (upd (upd H dx (exd dx [(f, y)])) a (exo a C (some dx))) s' → Q () s') : wpAny (model X.prog X.w) A (setAttr (.ref a) f u) Q E s := by
  obtain ⟨nm, q, N, bs, sn, sub, ab, col, dd, k0, k1, k2, k3, k5, hC⟩ := T.cls
  have hcl : PySem.W.clsIn X.K C = some { name := nm, bases := bs, mro := .ref C :: bm, ns := N, qualname := q, hasDict := true, slotNames := sn, subclasses := sub, abstract := ab, collection := col, hasDel := false } := by unfold PySem.W.clsIn; rw [hC] <;> rfl
  obtain ⟨t1, ho⟩ := exo_at I.hok e
  obtain ⟨hp, g, d, t, os⟩ := s
  refine PySem.W.set_plain I.kIn (ox := { cls := .ref C, dict := none, data := .fields #[.ref t1, .none, .none, .none, .bool false, .none] }) (od := none) ⟨ho, rfl, rfl, trivial⟩ T.sa ?_
  refine PySem.XE.osaG I.kIn ho hcl rfl (by show (Value.ref C :: bm).contains (.type "object") = true; rw [List.contains_cons, T.obj, Bool.or_true]) T.pass rfl hno (fun h' tk' dx k dn dne hx hn => ?_)
  have hnd : H dx = none := I.hok.fresh dn
  have nd : ∀ {b : Addr} {o : Obj}, hp.get? b = some o → b ≠ dx := fun {b o} q => Nat.ne_of_lt (Nat.lt_of_lt_of_le (Heap.lt_size q) dn)
  have na : ∀ {b : Addr}, H b = none → b ≠ a := fun {b} n z => by rw [z, e] at n; cases n
  have Un1 : Un X.fs [] H (upd (upd H dx (exd dx [(f, y)])) a (exo a C (some dx))) hp h' := {
    keep := fun b o q n _ _ => k b o (na n) q
    slot := fun b o q n _ _ => ⟨o.slots, k b o (na n) q⟩
    free := fun b o q n _ => by rw [upd_ne (na n), upd_ne (nd q)]; exact n
    there := fun b o q _ => by
      by_cases hb : b = a
      · exact ⟨_, by rw [hb]; exact hx⟩
      · exact ⟨o, k b o hb q⟩
    tups := fun b xs q => by rw [upd_ne (at_ne e q exo_tup), upd_ne (ne_of_none q hnd)]; exact q
    frzs := fun b o v q => by rw [upd_ne (at_ne e q exo_frz), upd_ne (ne_of_none q hnd)]; exact q
    tbls := fun b ps q => ⟨#[], by rw [upd_ne (at_ne e q exo_tbl), upd_ne (ne_of_none q hnd), q]; simp⟩ }
  refine h dx _ hnd dne (I.un (t' := tk') Un1 fun b o q => ?_)
  by_cases hb : b = a
  · subst hb; rw [upd_same] at q; cases q; exact exo_ok hx
  · rw [upd_ne hb] at q
    by_cases hd : b = dx
    · subst hd; rw [upd_same] at q; cases q
      exact exd_ok hn (relO_put (fs := []) ry fun g => True.intro)
    · rw [upd_ne hd] at q
      refine (I.hok b o q).stay (fun c v hc z => k c v ?_ z) (fun c hc => ?_) fun c xs hc => ?_
      · rcases hc with hc | hc
        · rw [hc]; exact hb
        · exact at_ne e hc exo_own
      · rw [upd_ne (at_ne e hc exo_own), upd_ne (ne_of_none hc hnd)]; exact hc
      · rw [upd_ne (at_ne e hc exo_tup), upd_ne (ne_of_none hc hnd)]; exact hc
theorem initG {us : List Value} {Q : Value → Shared → Prop} (T : ExF X.K C B newId initId bm) (I : Inv X pins σ H s) (e : H a = some (exo a C none)) (hl : us.length ≤ sizeLine) (h : ∀ s', Inv X pins σ H s' → Q .none s') :
    wpAny (model X.prog X.w) A (call (.builtin initId) (.ref a :: us)) Q E s := by
  obtain ⟨nm, q, N, bs, sn, sub, ab, col, dd, k0, k1, k2, k3, k5, hC⟩ := T.cls
  obtain ⟨t1, ho⟩ := exo_at I.hok e
  obtain ⟨hp, g, d, t, os⟩ := s
  refine wpAny_call (PySem.HandSPX.init_base T.base (fun Y => rfl) (I.kIn _ _ hC) ho hl fun h' t2 k hx => ?_)
  have J := I.write (t' := t) (x := a) (e := a) (o := exo a C none) (by rw [e]; exact True.intro) (.inl rfl) k ⟨_, hx⟩ (exo_ok hx)
  have eu : upd H a (exo a C none) = H := by
    funext b
    by_cases hb : b = a
    · rw [hb, upd_same, e]
    · rw [upd_ne hb]
  rw [eu] at J
  exact h _ J
end
theorem inst_of {X : Cx} {pins : List (Addr × Obj)} {σ : L2.St} {H : Hp} {s : Shared} {a C : Addr} {d : Option Addr} (I : Inv X pins σ H s) (ea : H a = some (exo a C d)) (hd : ∀ dd, d = some dd → ∃ fs, H dd = some (exd dd fs)) :
    ∃ (t1 : Addr) , ∃ od, PySem.W.InstAt s.heap a ({ cls := .ref C, dict := d, data := .fields #[.ref t1, .none, .none, .none, .bool false, .none] } : Obj) C od := by
  obtain ⟨t1, ho⟩ := exo_at I.hok ea
  cases d with
  | none => exact ⟨t1, none, ho, rfl, rfl, trivial⟩
  | some dd =>
    obtain ⟨fs, ed⟩ := hd dd rfl
    obtain ⟨mA, hns, hr⟩ := exd_at I.hok ed
    obtain ⟨od, hod, hl⟩ := lookIn_ns hns
    exact ⟨t1, some od, ho, rfl, rfl, hod⟩
/-- B.__init__(self, ..) -/
def tBi (K : PySem.W.Frag) (B newId initId : String) (bm : List Value) (ta : TA) : TE := fun σ H Q => ta σ H fun vs H1 => ∃ (a C : Addr) (ws : List V), vs = .ref a :: ws ∧ ws.length ≤ 1000 ∧ ExF K C B newId initId bm ∧ H1 a = some (exo a C none) ∧ Q .non H1
/-- self.f = e, the first one -/
def tOs1 (K : PySem.W.Frag) (B newId initId : String) (bm : List Value) (f : Str) (to te : TE) : TS := fun D σ H => te σ H fun y H1 => to σ H1 fun x H2 => ∃ a C : Addr, x = .ref a ∧ ExF K C B newId initId bm ∧ PySem.W.findIn K (.ref C) f = some none ∧
  H2 a = some (exo a C none) ∧ ∀ dx, H2 dx = none → dx ≠ a → D.nx σ (upd (upd H2 dx (exd dx [(f, y)])) a (exo a C (some dx)))
section
variable {X : Cx} {o e : Expr} {es : List Expr} {to te : TE} {ta : TA} {f : Str} {p p' p1 p2 pos : Pos} {B newId initId : String} {bm : List Value}
theorem pe_binit {bn : Str} {pl : Sem Bool} (hg : Gl X bn) (hm : X.mg bn = none) (hboot : bootBuiltins bn = some (.type B)) (hty : typeOf (.type B) = pure (.type "type")) (vV : PySem.W.findCls X.K (.type B) (.type "type") "__init__" = some (.val (.builtin initId))) (ha : PA X (e :: es) ta)
    (h1 : bn ≠ "__name__") (h2 : (bn == ("__debug__" : Str)) = false) (hst : Manifest.isStub B = false) (hhd : PySem.W.handedIn (.builtin initId) = true)
    (hc : eval (.Call (.Attribute (.Name bn p1) "__init__" p2) (e :: es) [] pos) X.env = (do
      let ov ← eval (.Name bn p1) X.env
      standAt p2.atName
      let (f, first) ← holding [ov] (getMethod ov "__init__" pl)
      callWith pos f first (backTo pos (starEach (e :: es) X.env)) (backToKw pos (keywordEach [] X.env))) := by rfl)
    (he : starEach (e :: es) X.env = (false, eval e X.env) :: starEach es X.env := by rfl) (hpl : (backTo pos (starEach es X.env)).any (·.1) = false := by rfl) :
    PE X (.Call (.Attribute (.Name bn p1) "__init__" p2) (e :: es) [] pos) (tBi X.K B newId initId bm ta) := by
  refine ⟨fun pins s σ H Q I h => ?_⟩
  refine PySem.W.methodCall_KW (ld_blt I hg hm hboot ?_ h1 h2) hc
  obtain ⟨m, fr⟩ := I.fr
  refine PySem.W.method_type fr I.ok.mod.kin hty hst vV hhd ?_
  show wpAny _ _ (callWith pos (Value.builtin initId) [] (backTo pos (starEach (e :: es) X.env)) []) _ _ _
  refine PyProof.Rows.callWith_method1 (thn (ha.run pos pins _ σ H _ (I.tok _) h) fun us s1 ⟨vs, H1, I1, r1, a, C, ws, ev, hl, T, ea, q⟩ => ?_) he hpl
  subst ev
  cases r1 with
  | @cons _ u0 _ ur ra rw' =>
    obtain rfl : u0 = Value.ref a := ra
    have hlen : ur.length ≤ sizeLine := by rw [← Paired.length rw', sizeLine_eq]; omega
    exact initG T I1 ea hlen fun s' J => ⟨.non, H1, J, rfl, q⟩
theorem ps_os1 (ho : PE X o to) (he : PE X e te) (hs : swapsWith e (some (.Attribute o f p')) pos.line X.env = pure false := by rfl) : PS X (.Assign [.Attribute o f p'] e pos) (tOs1 X.K B newId initId bm f to te) := by
  refine ⟨fun pins s σ H D I h => ?_⟩
  refine plainObj_wpAny_Assign_Attribute (thn (he.run pins s σ H _ I h) fun v s1 ⟨y, H1, I1, r1, q1⟩ => thn (ho.run pins s1 σ H1 _ I1 q1) fun u s2 ⟨x, H2, I2, r2, a, C, ex, T, hno, ea, q⟩ => ?_) hs
  subst ex
  obtain rfl : u = Value.ref a := r2
  exact ost_newG T I2 ea hno r1 fun dx s' n ne J => ⟨σ, _, J, q dx n ne⟩
/-- C(..): a new exception, its own __init__ keeping sp -/
theorem run_exmk {pins : List (Addr × Obj)} {σ : L2.St} {H1 : Hp} {s1 : Shared} {C fI : Addr} {k : Nat} {fd : FuncData} {ps : List Str} {sp : Sp} {us zs : List Value} {kw : List (Str × Value)} {vs : List V} {Q : VK} (T : ExF X.K C B newId initId bm)
    (iC : PySem.W.findIn X.K (.ref C) "__init__" = some (some (.ref fI))) (tI : PySem.W.typeIn X.K (.ref fI) = some (.type "function")) (F1 : FnOk X.prog X.w X.K X.mg X.base CX0 k fI fd ps sp) (hr : Room (k + 1) X.A) (I1 : Inv X pins σ H1 s1) (hz : us.length ≤ 1000)
    (hb : ∀ (s : Shared) (a : Addr), X.K.In s.heap → (Value.ref a :: zs).length = ps.length → BindsTo s fd ⟨.ref a :: us, kw⟩ (ps.zip (.ref a :: zs))) (r : Vals vs zs)
    (h : ∀ a, H1 a = none → sp (.ref a :: vs) (upd H1 a (exo a C none)) (fun v H2 => v = .non ∧ Q (.ref a) H2) E0) : wpAny (model X.prog X.w) X.A (call (.ref C) us kw) (EP X pins σ Q) X.xe s1 := by
  obtain ⟨nm, q, N, bs, sn, sub, ab, col, dd, k0, k1, k2, k3, k5, hC⟩ := T.cls
  obtain ⟨hp, g, dr, tk, os⟩ := s1
  have hsz : hp.objs.size ≤ hp.objs.size + 1 := Nat.le_succ _
  have hn : H1 (hp.objs.size + 1) = none := I1.hok.fresh hsz
  have hq := h (hp.objs.size + 1) hn
  have kk : ∀ b o, hp.get? b = some o → ((hp.push (PySem.W.kdv_tup us)).push (PySem.HandSPX.excO C hp.objs.size)).get? b = some o := fun b o e => Heap.get?_push_of_some _ (Heap.get?_push_of_some _ e)
  have hget : ((hp.push (PySem.W.kdv_tup us)).push (PySem.HandSPX.excO C hp.objs.size)).get? (hp.objs.size + 1) = some (PySem.HandSPX.excO C hp.objs.size) := by heap_get
  have I2 : Inv X pins σ (upd H1 (hp.objs.size + 1) (exo (hp.objs.size + 1) C none)) ⟨(hp.push (PySem.W.kdv_tup us)).push (PySem.HandSPX.excO C hp.objs.size), g, dr, tk, os⟩ := I1.laid (t' := tk) kk hsz (exo_ok hget)
  have r2 : Vals (V.ref (hp.objs.size + 1) :: vs) (Value.ref (hp.objs.size + 1) :: zs) := .cons rfl r
  have hl : (Value.ref (hp.objs.size + 1) :: zs).length = ps.length := by rw [← r2.length]; exact F1.len _ _ _ _ hq
  have hus : us.length ≤ sizeLine := by rw [sizeLine_eq]; omega
  have e0 : Env0 X.prog X.w X.K X.mg X.base (X.A.under (.builtin "type.__call__" ⟨.ref C :: us, kw⟩)) X.stack _ _ := I2.env0.make C us kw
  refine wpAny_call (PySem.XE.callK T.base (I1.kIn _ _ hC) (PySem.W.looks_findIn I1.kIn iC) (fun self => PySem.W.bind_fn I1.kIn self tI) hus
    (codeAny_mono (F1.run _ X.stack _ _ ⟨Value.ref (hp.objs.size + 1) :: us, kw⟩ (Value.ref (hp.objs.size + 1) :: zs) _ _ E0 (hr.make C us kw) e0 (hb _ _ I2.kIn hl) r2 hq) fun r s' hq' => ?_))
  cases r with
  | error er => exact False.elim hq'
  | ok fl =>
    cases fl with
    | ret u =>
      obtain ⟨v, H2, J, rv, ev, q2⟩ := I2.after hq'
      subst ev
      exact ⟨rv, .ref (hp.objs.size + 1), H2, J, rfl, q2⟩
    | next => exact False.elim hq'
    | brk => exact False.elim hq'
    | cont => exact False.elim hq'
variable {x : Str} {C fI : Addr} {k : Nat} {fd : FuncData} {ps ks : List Str} {sp : Sp} {kws : List Keyword} {tk : TA} {g : List Value → List Value → List Value} {gV : List V → List V → List V}
theorem pe_exmk (T : ExF X.K C B newId initId bm) (iC : PySem.W.findIn X.K (.ref C) "__init__" = some (some (.ref fI))) (tI : PySem.W.typeIn X.K (.ref fI) = some (.type "function")) (F1 : FnOk X.prog X.w X.K X.mg X.base CX0 k fI fd ps sp) (hr : Room (k + 1) X.A) (hb : Binds X.K fd ps [])
    (hg : Gl X x) (hm : X.mg x = some (.ref C)) (ha : PA X (e :: es) ta) (hdb : (x == ("__debug__" : Str)) = false := by decide) (he : starEach (e :: es) X.env = (false, eval e X.env) :: starEach es X.env := by rfl) (hpl : (backTo pos (starEach es X.env)).any (·.1) = false := by rfl) :
    PE X (.Call (.Name x p) (e :: es) [] pos) (fun σ H Q => ta σ H fun vs H1 => vs.length ≤ 1000 ∧ ∀ a, H1 a = none → sp (.ref a :: vs) (upd H1 a (exo a C none)) (fun v H2 => v = .non ∧ Q (.ref a) H2) E0) := by
  refine ⟨fun pins s σ H Q I h => wpAny_Call_Name_kw (ld_glob I hg hm ?_ hdb)⟩
  refine PySem.W.callWith_K (h₀ := X.base) I.ok.mod.kin T.kC (thn (ha.run pos pins s σ H _ I h) fun us s1 ⟨vs, H1, I1, r1, hz, q1⟩ => ⟨I1.kIn, ?_⟩) he hpl
  refine run_exmk (us := us) T iC tI F1 hr I1 (by rw [← r1.length]; exact hz) (fun s a hk hl => ?_) r1 q1
  have b2 := hb s (.ref a :: us) hk (by rw [List.append_nil]; exact hl)
  rwa [List.append_nil] at b2
theorem pe_exmk0 (T : ExF X.K C B newId initId bm) (iC : PySem.W.findIn X.K (.ref C) "__init__" = some (some (.ref fI))) (tI : PySem.W.typeIn X.K (.ref fI) = some (.type "function")) (F1 : FnOk X.prog X.w X.K X.mg X.base CX0 k fI fd ps sp) (hr : Room (k + 1) X.A) (hb : Binds X.K fd ps [])
    (hg : Gl X x) (hm : X.mg x = some (.ref C)) (hdb : (x == ("__debug__" : Str)) = false := by decide) :
    PE X (.Call (.Name x p) [] [] pos) (fun σ H Q => ∀ a, H a = none → sp [.ref a] (upd H a (exo a C none)) (fun v H2 => v = .non ∧ Q (.ref a) H2) E0) := by
  refine ⟨fun pins s σ H Q I h => wpAny_Call_Name_kw (ld_glob I hg hm ?_ hdb)⟩
  refine PySem.W.callWith_K0 I.kIn T.kC (run_exmk (us := []) (kw := []) (zs := []) (vs := []) T iC tI F1 hr I (Nat.zero_le _) (fun s a hk hl => ?_) .nil h)
  have b2 := hb s [.ref a] hk (by rw [List.append_nil]; exact hl)
  rwa [List.append_nil] at b2
/-- C(k = v), one keyword -/
theorem pe_exmkK {kn : Str} (T : ExF X.K C B newId initId bm) (iC : PySem.W.findIn X.K (.ref C) "__init__" = some (some (.ref fI))) (tI : PySem.W.typeIn X.K (.ref fI) = some (.type "function")) (F1 : FnOk X.prog X.w X.K X.mg X.base CX0 k fI fd ps sp) (hr : Room (k + 1) X.A)
    (hb : ∀ (s : Shared) (a : Addr) (z : Value), X.K.In s.heap → (2 : Nat) = ps.length → BindsTo s fd ⟨[.ref a], [(kn, z)]⟩ (ps.zip [.ref a, z])) (hg : Gl X x) (hm : X.mg x = some (.ref C)) (hkw : PK X kws tk)
    (hall : (backToKw pos (keywordEach kws X.env)).all (·.1.isSome) = true := by rfl) (hks : (backToKw pos (keywordEach kws X.env)).filterMap (·.1) = [kn] := by rfl) (hdb : (x == ("__debug__" : Str)) = false := by decide)
    (hpl : ((backTo pos (starEach [] X.env)).any (·.1) || (backToKw pos (keywordEach kws X.env)).any (·.1.isNone)) = false := by rfl) :
    PE X (.Call (.Name x p) [] kws pos) (fun σ H Q => tk σ H fun zs H1 => zs.length = 1 ∧ ∀ a, H1 a = none → sp (.ref a :: zs) (upd H1 a (exo a C none)) (fun v H2 => v = .non ∧ Q (.ref a) H2) E0) := by
  refine ⟨fun pins s σ H Q I h => wpAny_Call_Name_kw (ld_glob I hg hm ?_ hdb)⟩
  refine PySem.W.callWith_KW0 (h₀ := X.base) I.ok.mod.kin T.kC hall (thn (hkw.run pos pins s σ H _ I h) fun ws s2 ⟨zs, H2, I2, rz, hz1, q2⟩ => ⟨I2.kIn, ?_⟩) hpl
  rw [hks]
  have hw : ws.length = 1 := by rw [← rz.length]; exact hz1
  match ws, hw, rz with
  | [z], _, rz => exact run_exmk (us := []) T iC tI F1 hr I2 (Nat.zero_le _) (fun s a hk hl => hb s a z hk hl) rz q2
/-- e.f of such an exception -/
theorem pe_exget {n : Str} (T : ExF X.K C B newId initId bm) (hno : PySem.W.findIn X.K (.ref C) n = some none) (he : PE X e te) (hb : attributeBase e n X.env (eval e X.env) = eval e X.env := by rfl) :
    PE X (.Attribute e n pos) (fun σ H Q => te σ H fun x H1 => ∃ a dd fs v, x = .ref a ∧ H1 a = some (exo a C (some dd)) ∧ H1 dd = some (exd dd fs) ∧ fs.lookup n = some v ∧ Q v H1) := by
  refine ⟨fun pins s σ H Q I h => attr_of hb (thn (he.run pins s σ H _ I h) fun u s1 hh => ?_)⟩
  obtain ⟨x, H1, I1, rx, a, dd, fs, v, ex, ea, ed, l, q⟩ := hh
  subst ex
  obtain rfl : u = Value.ref a := rx
  obtain ⟨t1, ho⟩ := exo_at I1.hok ea
  obtain ⟨mA, hns, hr⟩ := exd_at I1.hok ed
  obtain ⟨od, hod, hl⟩ := lookIn_ns hns
  obtain ⟨u, hu, ru⟩ := RelO.some_of (v := v) (o := mA n) (by rw [← l]; exact hr n)
  have J : PySem.W.InstAt s1.heap a { cls := .ref C, dict := some dd, data := .fields #[.ref t1, .none, .none, .none, .bool false, .none] } C (some od) := ⟨ho, rfl, rfl, hod⟩
  exact HandSPX.exc_get I1.kIn J T.ga T.gt T.exC (PySem.W.findObj_own T.hd hno rfl (by rw [hl, hu])) (handed_of ru) ⟨v, H1, I1.tok _, ru, q⟩
/-- isinstance(e, c) -/
theorem call_isiX : CallR X (.builtin "isinstance") (fun xs H Q => ∃ (a C : Addr) (d : Option Addr) (c : V) (u : Value) (b : Bool) (B newId initId : String) (bm : List Value), xs = [.ref a, c] ∧ ExF X.K C B newId initId bm ∧ H a = some (exo a C d) ∧ (∀ dd, d = some dd → ∃ fs, H dd = some (exd dd fs)) ∧ ClsV c u ∧ PySem.W.kitOne X.K (.ref C) u = some b ∧ Q (.bl b) H) := by
  intro pins s σ H xs us Q I r h
  obtain ⟨a, C, d, c, u, b, B, newId, initId, bm, rfl, T, ea, hd, k, e, q⟩ := h
  obtain ⟨u1, u2, rfl, r1, r2⟩ := vals2 r
  have e2 := k.eq r2
  subst e2
  obtain rfl : u1 = Value.ref a := r1
  obtain ⟨t1, od, J⟩ := inst_of I ea hd
  obtain ⟨nm, q0, N, bs, sn, sub, ab, col, dd, k0, k1, k2, k3, k5, hC⟩ := T.cls
  have hcl : (PySem.W.clsIn X.K C).isSome = true := by unfold PySem.W.clsIn; rw [hC]; rfl
  exact PySem.W.kia_one (PySem.W.kitx_exc hcl T.ga T.gt T.exC T.ca T.cn T.ct T.mo) I.kIn J e (fun z => nomatch z) fun tk => ⟨.bl b, H, I.tok tk, rfl, q⟩
theorem call_isiXT : CallR X (.builtin "isinstance") (fun xs H Q => ∃ (a C tp : Addr) (d : Option Addr) (cs : List V) (ws : List Value) (b : Bool) (B newId initId : String) (bm : List Value), xs = [.ref a, .ref tp] ∧ ExF X.K C B newId initId bm ∧ H a = some (exo a C d) ∧ (∀ dd, d = some dd → ∃ fs, H dd = some (exd dd fs)) ∧ H tp = some (.tup cs) ∧ Paired ClsV cs ws ∧ PySem.W.kitAny X.K (.ref C) ws = some b ∧ Q (.bl b) H) := by
  intro pins s σ H xs us Q I r h
  obtain ⟨a, C, tp, d, cs, ws, b, B, newId, initId, bm, rfl, T, ea, hd, hT, k, e, q⟩ := h
  obtain ⟨u1, u2, rfl, r1, r2⟩ := vals2 r
  obtain rfl : u1 = Value.ref a := r1
  cases (show u2 = Value.ref tp from r2)
  obtain ⟨t1, od, J⟩ := inst_of I ea hd
  obtain ⟨nm, q0, N, bs, sn, sub, ab, col, dd, k0, k1, k2, k3, k5, hC⟩ := T.cls
  have hcl : (PySem.W.clsIn X.K C).isSome = true := by unfold PySem.W.clsIn; rw [hC]; rfl
  obtain ⟨_, its, rv, o, h1, h2, n, h3⟩ := (show ObjOk X.prog X.w H s.heap tp (.tup cs) from I.hok tp _ hT)
  have e3 := ClsV.all k rv
  subst e3
  obtain ⟨oc, od', dt, sl⟩ := o
  simp only at h2 h3
  subst h2 h3
  exact PySem.W.kia_tup (PySem.W.kitx_exc hcl T.ga T.gt T.exC T.ca T.cn T.ct T.mo) I.kIn J h1 e (fun z => nomatch z) fun tk => ⟨.bl b, H, I.tok tk, rfl, q⟩
end
end XL
namespace XL
open PySem PySem.Spec PyProof.Rows L2
/-! ### a caught exception that is kept: its class and its dict are known -/
def exk (a : Addr) (cls : Value) (d : Option Addr) : HO := .ext fun h => ∃ (oe : Obj) (vs : Array Value), h.get? a = some oe ∧ oe.cls = cls ∧ oe.dict = d ∧ oe.data = .fields vs
theorem exk_ok {P : Program} {w : World} {H : Hp} {h : Heap} {a : Addr} {cls : Value} {d : Option Addr} {oe : Obj} {vs : Array Value} (he : h.get? a = some oe) (hc : oe.cls = cls) (hd : oe.dict = d) (hf : oe.data = .fields vs) : ObjOk P w H h a (exk a cls d) :=
  ⟨⟨oe, vs, he, hc, hd, hf⟩, ⟨_, he⟩, fun h1 h2 z k => by
    obtain ⟨o, v, q, r⟩ := z
    exact ⟨o, v, k _ q, r⟩⟩
theorem exk_at {P : Program} {w : World} {H : Hp} {h : Heap} {a : Addr} {cls : Value} {d : Option Addr} (hok : HOk P w H h) (he : H a = some (exk a cls d)) : ∃ (oe : Obj) (vs : Array Value), h.get? a = some oe ∧ oe.cls = cls ∧ oe.dict = d ∧ oe.data = .fields vs := by
  have x : ObjOk P w H h a (.ext fun h => ∃ (oe : Obj) (vs : Array Value), h.get? a = some oe ∧ oe.cls = cls ∧ oe.dict = d ∧ oe.data = .fields vs) := hok a _ he
  exact x.1
theorem flying_keep {B h h' : Heap} {l : List Env} {a : Addr} {Z : Obj → Prop} (x : HandSPX.FlyingZ B l a Z h) (k : ∀ b o, h.get? b = some o → h'.get? b = some o) : HandSPX.FlyingZ B l a Z h' := by
  obtain ⟨x1, x2, x3, oe, vs, T, oT, ts, e1, e2, e3, e4, e5, e6, e7, e8, e9⟩ := x
  exact ⟨fun b o e => k b o (x1 b o e), x2, x3.of_keeps fun b o e _ => ⟨o, k b o e, rfl⟩, oe, vs, T, oT, ts, k _ _ e1, e2, e3, e4, e5, e6, k _ _ e7, e8, e9⟩
section
variable {X : Cx} {pins : List (Addr × Obj)} {σ : L2.St} {H : Hp} {s : Shared} {a : Addr} {oe : Obj} {vs : Array Value} {cls : Value} {d : Option Addr}
theorem Inv.caught (S : Inv (X.suite a ((a, oe) :: (X.pn ++ pins))) [] σ H s) (ok : X.Ok) (n0 : X.s_0.heap.get? a = none) (np : ∀ p ∈ X.pn ++ pins, p.1 ≠ a) (hz : Zc cls d oe) (hd : oe.data = .fields vs) :
    Inv X pins σ (upd H a (exk a cls d)) s := by
  have U := S.unsuite ok
  obtain ⟨ea, na, nL, nF, nc⟩ := S.pin (a, oe) (by rw [List.append_nil]; exact List.mem_cons_self ..)
  have na' : H a = none := na
  have ne : ∀ {b : Addr} {o : HO}, H b = some o → b ≠ a := fun {b o} e z => by rw [z, na'] at e; cases e
  refine ⟨ok, U.os, U.bare, ⟨U.base.keep, U.base.slot, fun b o e n hx => ?_, U.base.there, fun b ys e => ?_, fun b o u e => ?_, fun b ps e => ?_⟩, U.loc, U.cell, ?_, fun x c e => ?_, fun p hp => ?_, fun b o e => ?_, U.len⟩
  · rw [upd_ne (fun z => by rw [z, n0] at e; cases e)]; exact U.base.free b o e n hx
  · have q := U.base.tups b ys e
    rw [upd_ne (ne q)]; exact q
  · have q := U.base.frzs b o u e
    rw [upd_ne (ne q)]; exact q
  · obtain ⟨m, q⟩ := U.base.tbls b ps e
    exact ⟨m, by rw [upd_ne (ne q)]; exact q⟩
  · rw [upd_ne (fun z => nL z.symm)]; exact U.free
  · have hc : c ≠ a := fun z => by
      obtain ⟨w', o, ho, hdat⟩ := U.cell x c e
      rw [z] at ho
      have e2 : some o = some oe := ho.symm.trans ea
      cases e2
      exact nc w' hdat
    rw [upd_ne hc]; exact U.freeC x c e
  · obtain ⟨a1, a2, a3⟩ := U.pin p hp
    exact ⟨a1, by rw [upd_ne (np p hp)]; exact a2, a3⟩
  · by_cases hb : b = a
    · subst hb
      rw [upd_same] at e
      cases e
      exact exk_ok ea hz.1 hz.2 hd
    · rw [upd_ne hb] at e
      refine (U.hok b o e).stay (fun c v _ q => q) (fun c q => ?_) fun c ys q => ?_
      · rw [upd_ne (ne q)]; exact q
      · rw [upd_ne (ne q)]; exact q
end
/-- names of classes, read in an except clause -/
def EvAll (X : Cx) (es : List Expr) (cs : List Value) : Prop := ∀ (a : Addr) (pn pins : List (Addr × Obj)) (σ : L2.St) (H : Hp) (s : Shared) (pos : Pos) (Q : List Value → Shared → Prop) (E : Value → Shared → Prop), Inv (X.suite a pn) pins σ H s → Q cs s →
  wpAny (model X.prog X.w) (X.A.mark (some (.ref a))) (spliced (backTo pos (starEach es X.env))) Q E s
theorem ev_nil {X : Cx} : EvAll X [] [] := fun a pn pins σ H s pos Q E I q => args_nil q
theorem ev_cons {X : Cx} {x : Str} {p : Pos} {es : List Expr} {c : Value} {cs : List Value} (hg : Gl X x) (hm : X.mg x = some c) (r : EvAll X es cs) (hdb : (x == ("__debug__" : Str)) = false := by decide)
    (he : starEach (.Name x p :: es) X.env = (false, eval (.Name x p) X.env) :: starEach es X.env := by rfl) : EvAll X (.Name x p :: es) (c :: cs) := fun a pn pins σ H s pos Q E I q =>
  args_cons (ld_glob (X := X.suite a pn) I hg hm (r a pn pins σ H s pos _ E I q) hdb) he
/-- a tuple of such classes, against an exception -/
def ExTup (cs : List Value) : Prop := ∀ (M : Model) (K : PySem.W.Frag) (h : Heap) (cls : Value) (tp e : Addr) (b : Bool), K.In h → PySem.W.Looks M h (typeOf (.ref e)) cls → h.get? tp = some { cls := .type "tuple", data := .seq cs.toArray } → PySem.W.exmAny K cls cs = some b → PySem.W.Looks M h (excMatches (.ref e) (.ref tp)) b
theorem ext2 (c1 c2 : Value) : ExTup [c1, c2] := fun M K h cls tp e b k l p x => PySem.W.exm_tup2 k l p x
theorem ext3 (c1 c2 c3 : Value) : ExTup [c1, c2, c3] := fun M K h cls tp e b k l p x => PySem.W.exm_tup3 k l p x
theorem ext4 (c1 c2 c3 c4 : Value) : ExTup [c1, c2, c3, c4] := fun M K h cls tp e b k l p x => PySem.W.exm_tup4 k l p x
/-- what 'except (x, ..) as n' wishes of what the body raises; all is caught -/
def wCt (K : PySem.W.Frag) (cs : List Value) (i : Nat) (ts : Addr → Value → Option Addr → TS) (D : Ends) : WX := fun cls d σ H => PySem.W.exmAny K cls cs = some true ∧ ∀ a, H a = none →
  ts a cls d { nx := fun σ' H' => D.nx (σ'.set i none) (upd H' a (exk a cls d)), rt := fun v H' => D.rt v (upd H' a (exk a cls d)), bk := fun σ' H' => D.bk (σ'.set i none) (upd H' a (exk a cls d)), ct := fun σ' H' => D.ct (σ'.set i none) (upd H' a (exk a cls d)) } (σ.set i (some (.ref a))) H
section
variable {X : Cx} {n : Str} {es : List Expr} {cs : List Value} {i kk : Nat} {body suite : List Stmt} {b₀ : Stmt} {tp pos pos' : Pos} {tb : WX → TS} {ts : Addr → Value → Option Addr → TS}
theorem ps_try_ct (hs : X.stack = X.env :: X.outer) (hf : X.env.frame = some X.env.locals) (hN : X.N.Nodup) (hi : X.N[i]? = some n) (hln : X.env.kindOf n = some .local) (ev : EvAll X es cs) (hx : ExTup cs) (hex : X.ex = []) (hcs : cs.length ≤ 1000)
    (hb : ∀ (W : WX) (pn : List (Addr × Obj)) (xe : Value → Shared → Prop), Takes (X.tr pn xe) W → PassesOwn (model X.prog X.w) X.A X.env xe → PSs (X.tr pn xe) body (tb W))
    (hsu : ∀ (a : Addr) (oe : Obj) (cls : Value) (d : Option Addr) (pn : List (Addr × Obj)), Zc cls d oe → (∃ vs, oe.data = .fields vs) → PSs (X.suite a ((a, oe) :: pn)) (b₀ :: suite) (ts a cls d)) :
    PS X (.Try body [.ExceptHandler (some (.Tuple es kk tp)) (some n) (b₀ :: suite) pos'] [] [] pos) (fun D σ H => tb (wCt X.K cs i ts D) D σ H) := by
  refine ⟨fun pins s σ H D I h => ?_⟩
  have ok := I.ok
  have hfr : X.A.frames = some (X.env :: X.outer) := by rw [ok.frames, hs]
  have hloc : Loc X.env.scope n := .inl hln
  refine wpAny_Try_except ?_
  refine wpAny_mono ((hb (wCt X.K cs i ts D) (X.pn ++ pins) (fun e s₁ => wpAny (model X.prog X.w) X.A (noteFrame e X.env) (fun _ s₂ => wpAny (model X.prog X.w) X.A (setFlight e none) (fun _ s₃ =>
    wpAny (model X.prog X.w) X.A (handleBy e X.env [.ExceptHandler (some (.Tuple es kk tp)) (some n) (b₀ :: suite) pos']) (SP X pins D) X.xe s₃) X.xe s₂) X.xe s₁) (fun u s' xx => ?_) PassesOwn.looking).run [] s σ H D (I.toTry _) h) (fun f s1 hsp => ?_) (fun e s1 he => he)
  · obtain ⟨a, B, sI, pins', σ', H', cls, d, rfl, J', nb, up, sky, na, os, ag, hb1, hyes⟩ := xx
    have J : Inv X pins σ' H' sI := J'.ofTry ok
    have sky' : Sky B (X.env :: X.outer) a (Zc cls d) X.env.locals s'.heap := by rw [← hs]; exact sky
    have nB : B.get? a = none := by
      rcases sky with z | z | z
      · exact z.2.1
      · exact z.2.1
      · exact z.2.1
    refine Sky.land Zc.steady hfr hf sky' fun h3 fl3 up3 => ?_
    obtain ⟨oe3, vs3, he3, hz3, hd3⟩ := fl3.there
    have notFr : ∀ {h : Heap} {o : Obj} {vs : Array Value}, h.FunFrames B (X.env :: X.outer) → h.get? a = some o → o.data = .fields vs → a ∉ frs (X.env :: X.outer) := fun {h o vs} ff e dd hm => by
      obtain ⟨_, o', e', hnf⟩ := ff.mem hm
      rw [e] at e'
      cases e'
      exact hnf _ dd
    have nfr := notFr fl3.2.2.1 he3 hd3
    have nL : a ≠ X.env.locals := fun z => nfr (List.mem_filterMap.mpr ⟨X.env, List.mem_cons_self, by rw [hf, z]⟩)
    have nF : a ∉ X.fs := fun hm => by
      obtain ⟨e, he, q⟩ := List.mem_filterMap.mp hm
      exact nfr (List.mem_filterMap.mpr ⟨e, List.mem_cons_of_mem _ he, q⟩)
    have nI : sI.heap.get? a = none := by
      cases q : sI.heap.get? a with
      | none => rfl
      | some o =>
        have := nb a o q (by rw [hs]; exact nfr)
        rw [nB] at this; cases this
    have n0 : X.s_0.heap.get? a = none := by
      cases q : X.s_0.heap.get? a with
      | none => rfl
      | some o =>
        obtain ⟨o', e⟩ := J.base.there a o q (by rw [hex]; simp)
        rw [nI] at e; cases e
    have np : ∀ p ∈ X.pn ++ pins, p.1 ≠ a := fun p hp z => by
      obtain ⟨e, _⟩ := J.pin p hp
      rw [z, nI] at e; cases e
    have J3 : Inv X pins σ' H' { s' with heap := h3 } := J.landed nb fl3.1 (up.trans up3) os ag
    have S3 := J3.suite he3 hd3 na nL nF
    refine wpAny_handleBy_cons (codeAny_handlers_test ?_) (by intro q; cases q)
    refine Tuple_ (ev a _ [] σ' H' _ _ _ _ S3 (wpAny_newTuple ?_ (by rw [sizeLine_eq]; omega)))
    have k3 : ∀ b o, h3.get? b = some o → (h3.push { cls := .type "tuple", data := .seq cs.toArray }).get? b = some o := fun b o e => Heap.get?_push_of_some _ e
    have fl3' := flying_keep fl3 k3
    have J3' : Inv X pins σ' H' { s' with heap := h3.push { cls := .type "tuple", data := .seq cs.toArray } } := J3.kept (t' := s'.toks) k3
    have LT : PySem.W.Looks (model X.prog X.w) (h3.push { cls := .type "tuple", data := .seq cs.toArray }) (typeOf (.ref a)) cls := fun A Q E s k q => wpAny_typeOf_ref (k _ _ (k3 _ _ he3)) (by rw [hz3.1]; exact q)
    refine (hx (model X.prog X.w) X.K _ cls _ a true J3'.kIn LT (Heap.get?_push_size _ rfl) hb1).here ?_
    refine codeAny_handlers_suite_as ?_
    refine HandSPX.lands_againZ fl3' fun h4 fl4 up4 => ?_
    have up34 : h3.UpToSlots h4 := fun b o e hn => up4 b o (k3 b o e) hn
    have J4 : Inv X pins σ' H' { s' with heap := h4 } := J.landed nb fl4.1 ((up.trans up3).trans up34) os ag
    obtain ⟨oe4, vs4, he4, hz4, hd4⟩ := fl4.there
    have S4 := J4.suite he4 hd4 na nL nF
    refine store_ok (X := X.suite a ((a, oe4) :: (X.pn ++ pins))) (v := .ref a) S4 hN hi hloc rfl (fun s5 S5 => ?_) (.inr hln)
    refine wpAny_mono ((hsu a oe4 cls d (X.pn ++ pins) hz4 ⟨_, hd4⟩).run [] s5 _ H' _ S5 (hyes a na)) (fun f s6 hsp => ?_) (fun _ _ z => False.elim z)
    have fin : ∀ {σ6 : L2.St} {H6 : Hp} {Q : Shared → Prop}, Inv (X.suite a ((a, oe4) :: (X.pn ++ pins))) [] σ6 H6 s6 → (∀ s7, Inv X pins (σ6.set i none) (upd H6 a (exk a cls d)) s7 → Q s7) →
        wpAny (model X.prog X.w) X.A (do bindName X.env n .none; unbindBehindTheSuite X.env n pos') (fun _ s7 => Q s7) X.xe s6 := fun {σ6 H6 Q} S6 hq =>
      gone_ok (X := X.suite a ((a, oe4) :: (X.pn ++ pins))) S6 hN hi hln fun s7 S7 => hq s7 (Inv.caught S7 ok n0 np hz4 hd4)
    cases f with
    | next =>
      obtain ⟨σ6, H6, S6, q6⟩ := hsp
      exact fin S6 fun s7 J7 => ⟨_, _, J7, q6⟩
    | brk =>
      obtain ⟨σ6, H6, S6, q6⟩ := hsp
      exact fin S6 fun s7 J7 => ⟨_, _, J7, q6⟩
    | cont =>
      obtain ⟨σ6, H6, S6, q6⟩ := hsp
      exact fin S6 fun s7 J7 => ⟨_, _, J7, q6⟩
    | ret u =>
      obtain ⟨v6, σ6, H6, S6, r6, q6⟩ := hsp
      exact fin S6 fun s7 J7 => ⟨_, _, _, J7, r6, q6⟩
  · cases f with
    | next =>
      obtain ⟨σ', H', J', q⟩ := hsp
      exact wpAny_execs_nil ⟨σ', H', J'.ofTry ok, q⟩
    | brk =>
      obtain ⟨σ', H', J', q⟩ := hsp
      exact ⟨σ', H', J'.ofTry ok, q⟩
    | cont =>
      obtain ⟨σ', H', J', q⟩ := hsp
      exact ⟨σ', H', J'.ofTry ok, q⟩
    | ret u =>
      obtain ⟨v, σ', H', J', r, q⟩ := hsp
      exact ⟨v, σ', H', J'.ofTry ok, r, q⟩
end
end XL
namespace XL
open PySem PySem.Spec PyProof.Rows L2
section
variable {X : Cx} {e : Expr} {es : List Expr} {te : TE} {ta : TA} {p pos : Pos} {B newId initId : String} {bm : List Value} {x : Str} {C fI : Addr} {k : Nat} {fd : FuncData} {ps : List Str} {sp : Sp}
/-- raise x(e, ..): an own exception with its own __init__ that stores fields -/
theorem pmk_ex (T : ExF X.K C B newId initId bm) (tyC : PySem.W.typeIn X.K (.ref C) = some (.type "type")) (iC : PySem.W.findIn X.K (.ref C) "__init__" = some (some (.ref fI))) (tI : PySem.W.typeIn X.K (.ref fI) = some (.type "function")) (F1 : FnOk X.prog X.w X.K X.mg X.base CX0 k fI fd ps sp) (hr : Room (k + 1) X.A) (hb : Binds X.K fd ps [])
    (hg : Gl X x) (hm : X.mg x = some (.ref C)) (ha : PA X (e :: es) ta) (hdb : (x == ("__debug__" : Str)) = false := by decide) (he : starEach (e :: es) X.env = (false, eval e X.env) :: starEach es X.env := by rfl) (hpl : (backTo pos (starEach es X.env)).any (·.1) = false := by rfl) :
    PMk X (.Call (.Name x p) (e :: es) [] pos) (fun σ H Q => ta σ H fun vs H1 => vs.length ≤ 1000 ∧ ∀ a, H1 a = none → sp (.ref a :: vs) (upd H1 a (exo a C none)) (fun v H2 => v = .non ∧ ∃ d fs, H2 a = some (exo a C (some d)) ∧ H2 d = some (exd d fs) ∧ H1 d = none ∧ Q (.ref C) (some d) (upd (del H2 a) d (.xd fs))) E0) := by
  intro pins s σ H Q I h
  obtain ⟨nm, q, N, bs, sn, sub, ab, col, dd, k0, k1, k2, k3, k5, hC⟩ := T.cls
  refine wpAny_Call_Name_kw (ld_glob I hg hm ?_ hdb)
  refine PySem.W.callWith_K (h₀ := X.base) I.ok.mod.kin T.kC (thn (ha.run pos pins s σ H _ I h) fun us s1 ⟨vs, H1, I1, r1, hz, q1⟩ => ⟨I1.kIn, ?_⟩) he hpl
  show wpAny _ _ (call (.ref C) us) _ _ _
  obtain ⟨hp, g, dr, tk, os⟩ := s1
  have hsz : hp.objs.size ≤ hp.objs.size + 1 := Nat.le_succ _
  have hq := q1 (hp.objs.size + 1) (I1.hok.fresh hsz)
  have kk : ∀ b o, hp.get? b = some o → ((hp.push (PySem.W.kdv_tup us)).push (PySem.HandSPX.excO C hp.objs.size)).get? b = some o := fun b o e => Heap.get?_push_of_some _ (Heap.get?_push_of_some _ e)
  have hget : ((hp.push (PySem.W.kdv_tup us)).push (PySem.HandSPX.excO C hp.objs.size)).get? (hp.objs.size + 1) = some (PySem.HandSPX.excO C hp.objs.size) := by heap_get
  have I2 : Inv X pins σ (upd H1 (hp.objs.size + 1) (exo (hp.objs.size + 1) C none)) ⟨(hp.push (PySem.W.kdv_tup us)).push (PySem.HandSPX.excO C hp.objs.size), g, dr, tk, os⟩ := I1.laid (t' := tk) kk hsz (exo_ok hget)
  have r2 : Vals (V.ref (hp.objs.size + 1) :: vs) (Value.ref (hp.objs.size + 1) :: us) := .cons rfl r1
  have hl : (Value.ref (hp.objs.size + 1) :: us).length = ps.length := by rw [← r2.length]; exact F1.len _ _ _ _ hq
  have hus : us.length ≤ sizeLine := by rw [← r1.length, sizeLine_eq]; omega
  have e0 : Env0 X.prog X.w X.K X.mg X.base (X.A.under (.builtin "type.__call__" ⟨.ref C :: us, []⟩)) X.stack _ _ := I2.env0.make C us []
  have hb2 : ∀ s : Shared, X.K.In s.heap → BindsTo s fd ⟨.ref (hp.objs.size + 1) :: us, []⟩ (ps.zip (.ref (hp.objs.size + 1) :: us)) := fun s hk => by
    have b2 := hb s (.ref (hp.objs.size + 1) :: us) hk (by rw [List.append_nil]; exact hl)
    rwa [List.append_nil] at b2
  refine wpAny_call (PySem.XE.callK T.base (I1.kIn _ _ hC) (PySem.W.looks_findIn I1.kIn iC) (fun self => PySem.W.bind_fn I1.kIn self tI) hus
    (codeAny_mono (F1.run _ X.stack _ _ ⟨Value.ref (hp.objs.size + 1) :: us, []⟩ (Value.ref (hp.objs.size + 1) :: us) _ _ E0 (hr.make C us []) e0 (hb2 _ I2.kIn) r2 hq) fun r s' hq' => ?_))
  cases r with
  | error er => exact False.elim hq'
  | ok fl =>
    cases fl with
    | ret u =>
      obtain ⟨v, H2, os2, bare2, un2, hok2, rv, ev, d, fs, ea, ed, hd1, q2⟩ := hq'
      subst ev
      obtain ⟨h2, g2, d2, t2, os'⟩ := s'
      exact ⟨rv, mk_end (raises_own T.exC tyC) I1 hsz kk un2 hok2 os2 bare2 ea ed hd1 q2⟩
    | next => exact False.elim hq'
    | brk => exact False.elim hq'
    | cont => exact False.elim hq'
/-! ### the kept one: isinstance, fields -/
theorem inst_k {pins : List (Addr × Obj)} {σ : L2.St} {H : Hp} {s : Shared} {a C : Addr} {d : Option Addr} (I : Inv X pins σ H s) (ea : H a = some (exk a (.ref C) d)) (hd : ∀ dd, d = some dd → ∃ fs, H dd = some (.xd fs)) : ∃ oe od, PySem.W.InstAt s.heap a oe C od := by
  obtain ⟨oe, vs, ho, hc, hdd, hf⟩ := exk_at I.hok ea
  cases d with
  | none => exact ⟨oe, none, ho, hc, by unfold PySem.W.notCls; rw [hf], by rw [hdd]; trivial⟩
  | some dd =>
    obtain ⟨fs, ed⟩ := hd dd rfl
    obtain ⟨mA, hns, hr⟩ := (show ObjOk X.prog X.w H s.heap dd (.xd fs) from I.hok dd _ ed)
    obtain ⟨od, hod, hl⟩ := lookIn_ns hns
    exact ⟨oe, some od, ho, hc, by unfold PySem.W.notCls; rw [hf], by rw [hdd]; exact hod⟩
def rIsK (K : PySem.W.Frag) : List V → Hp → VK → Prop := fun xs H Q => ∃ (a C : Addr) (d : Option Addr) (c : V) (u : Value) (b : Bool) (B newId initId : String) (bm : List Value), xs = [.ref a, c] ∧ ExF K C B newId initId bm ∧ H a = some (exk a (.ref C) d) ∧ (∀ dd, d = some dd → ∃ fs, H dd = some (.xd fs)) ∧ ClsV c u ∧ PySem.W.kitOne K (.ref C) u = some b ∧ Q (.bl b) H
theorem call_isK : CallR X (.builtin "isinstance") (rIsK X.K) := by
  intro pins s σ H xs us Q I r h
  obtain ⟨a, C, d, c, u, b, B, newId, initId, bm, rfl, T, ea, hd, k, e, q⟩ := h
  obtain ⟨u1, u2, rfl, r1, r2⟩ := vals2 r
  have e2 := k.eq r2
  subst e2
  obtain rfl : u1 = Value.ref a := r1
  obtain ⟨oe, od, J⟩ := inst_k I ea hd
  obtain ⟨nm, q0, N, bs, sn, sub, ab, col, dd, k0, k1, k2, k3, k5, hC⟩ := T.cls
  have hcl : (PySem.W.clsIn X.K C).isSome = true := by unfold PySem.W.clsIn; rw [hC]; rfl
  exact PySem.W.kia_one (PySem.W.kitx_exc hcl T.ga T.gt T.exC T.ca T.cn T.ct T.mo) I.kIn J e (fun z => nomatch z) fun tk => ⟨.bl b, H, I.tok tk, rfl, q⟩
def rIsKT (K : PySem.W.Frag) : List V → Hp → VK → Prop := fun xs H Q => ∃ (a C tp : Addr) (d : Option Addr) (cs : List V) (ws : List Value) (b : Bool) (B newId initId : String) (bm : List Value), xs = [.ref a, .ref tp] ∧ ExF K C B newId initId bm ∧ H a = some (exk a (.ref C) d) ∧ (∀ dd, d = some dd → ∃ fs, H dd = some (.xd fs)) ∧ H tp = some (.tup cs) ∧ Paired ClsV cs ws ∧ PySem.W.kitAny K (.ref C) ws = some b ∧ Q (.bl b) H
theorem call_isKT : CallR X (.builtin "isinstance") (rIsKT X.K) := by
  intro pins s σ H xs us Q I r h
  obtain ⟨a, C, tp, d, cs, ws, b, B, newId, initId, bm, rfl, T, ea, hd, hT, k, e, q⟩ := h
  obtain ⟨u1, u2, rfl, r1, r2⟩ := vals2 r
  obtain rfl : u1 = Value.ref a := r1
  cases (show u2 = Value.ref tp from r2)
  obtain ⟨oe, od, J⟩ := inst_k I ea hd
  obtain ⟨nm, q0, N, bs, sn, sub, ab, col, dd, k0, k1, k2, k3, k5, hC⟩ := T.cls
  have hcl : (PySem.W.clsIn X.K C).isSome = true := by unfold PySem.W.clsIn; rw [hC]; rfl
  obtain ⟨_, its, rv, o, h1, h2, n, h3⟩ := (show ObjOk X.prog X.w H s.heap tp (.tup cs) from I.hok tp _ hT)
  have e3 := ClsV.all k rv
  subst e3
  obtain ⟨oc, od', dt, sl⟩ := o
  simp only at h2 h3
  subst h2 h3
  exact PySem.W.kia_tup (PySem.W.kitx_exc hcl T.ga T.gt T.exC T.ca T.cn T.ct T.mo) I.kIn J h1 e (fun z => nomatch z) fun tk => ⟨.bl b, H, I.tok tk, rfl, q⟩
theorem pe_kget {n : Str} (T : ExF X.K C B newId initId bm) (hno : PySem.W.findIn X.K (.ref C) n = some none) (he : PE X e te) (hb : attributeBase e n X.env (eval e X.env) = eval e X.env := by rfl) :
    PE X (.Attribute e n pos) (fun σ H Q => te σ H fun x H1 => ∃ a dd fs v, x = .ref a ∧ H1 a = some (exk a (.ref C) (some dd)) ∧ H1 dd = some (.xd fs) ∧ fs.lookup n = some v ∧ Q v H1) := by
  refine ⟨fun pins s σ H Q I h => attr_of hb (thn (he.run pins s σ H _ I h) fun u s1 hh => ?_)⟩
  obtain ⟨x, H1, I1, rx, a, dd, fs, v, ex, ea, ed, l, q⟩ := hh
  subst ex
  obtain rfl : u = Value.ref a := rx
  obtain ⟨oe, vs, ho, hc, hdd, hf⟩ := exk_at I1.hok ea
  obtain ⟨mA, hns, hr⟩ := (show ObjOk X.prog X.w H1 s1.heap dd (.xd fs) from I1.hok dd _ ed)
  obtain ⟨od, hod, hl⟩ := lookIn_ns hns
  obtain ⟨u, hu, ru⟩ := RelO.some_of (v := v) (o := mA n) (by rw [← l]; exact hr n)
  have J : PySem.W.InstAt s1.heap a oe C (some od) := ⟨ho, hc, by unfold PySem.W.notCls; rw [hf], by rw [hdd]; exact hod⟩
  exact HandSPX.exc_get I1.kIn J T.ga T.gt T.exC (PySem.W.findObj_own T.hd hno rfl (by rw [hl, hu])) (handed_of ru) ⟨v, H1, I1.tok _, ru, q⟩
end
end XL
namespace XL
open PySem PySem.Spec PyProof.Rows L2
/-! ### own exceptions straight over one of four of Python's own -/
def bN : Nat → String
  | 0 => "ValueError" | 1 => "LookupError" | 2 => "RuntimeError" | _ => "OverflowError"
def bW : Nat → String
  | 0 => "ValueError.__new__" | 1 => "LookupError.__new__" | 2 => "RuntimeError.__new__" | _ => "OverflowError.__new__"
def bI : Nat → String
  | 0 => "ValueError.__init__" | 1 => "LookupError.__init__" | 2 => "RuntimeError.__init__" | _ => "OverflowError.__init__"
def bM : Nat → List Value
  | 0 => [.type "ValueError", .type "Exception", .type "BaseException", .type "object"]
  | 1 => [.type "LookupError", .type "Exception", .type "BaseException", .type "object"]
  | 2 => [.type "RuntimeError", .type "Exception", .type "BaseException", .type "object"]
  | _ => [.type "OverflowError", .type "ArithmeticError", .type "Exception", .type "BaseException", .type "object"]
abbrev ExK (K : PySem.W.Frag) (C : Addr) (b : Nat) : Prop := ExF K C (bN b) (bW b) (bI b) (bM b)
theorem PE.imp {X : Cx} {e : Expr} {t t' : TE} (h : PE X e t) (i : ∀ σ H Q, t' σ H Q → t σ H Q) : PE X e t' := ⟨fun pins s σ H Q I q => h.run pins s σ H Q I (i σ H Q q)⟩
def spI (c : Addr) (f : Str) : Sp := fun vs H Q _ => ∃ (a : Addr) (y : V), vs = [.ref a, y] ∧ H a = some (exo a c none) ∧ ∀ dx, H dx = none → dx ≠ a → Q .non (upd (upd H dx (exd dx [(f, y)])) a (exo a c (some dx)))
def spI0 (c : Addr) : Sp := fun vs H Q _ => ∃ a : Addr, vs = [.ref a] ∧ H a = some (exo a c none) ∧ Q .non H
section
variable {K : PySem.W.Frag}
theorem boot_ValueError : bootBuiltins "ValueError" = some (.type "ValueError") := by decide +kernel
theorem tyf_ValueError : typeOf (.type "ValueError") = pure (.type "type") := PySem.W.kitMeta_of (by decide +kernel)
theorem fnd_ValueError : PySem.W.findCls K (.type "ValueError") (.type "type") "__init__" = some (.val (.builtin "ValueError.__init__")) := by rfl
theorem stb_ValueError : Manifest.isStub "ValueError" = false := by decide +kernel
theorem hnd_ValueError : PySem.W.handedIn (.builtin "ValueError.__init__") = true := by decide +kernel
theorem boot_LookupError : bootBuiltins "LookupError" = some (.type "LookupError") := by decide +kernel
theorem tyf_LookupError : typeOf (.type "LookupError") = pure (.type "type") := PySem.W.kitMeta_of (by decide +kernel)
theorem fnd_LookupError : PySem.W.findCls K (.type "LookupError") (.type "type") "__init__" = some (.val (.builtin "LookupError.__init__")) := by rfl
theorem stb_LookupError : Manifest.isStub "LookupError" = false := by decide +kernel
theorem hnd_LookupError : PySem.W.handedIn (.builtin "LookupError.__init__") = true := by decide +kernel
theorem boot_RuntimeError : bootBuiltins "RuntimeError" = some (.type "RuntimeError") := by decide +kernel
theorem tyf_RuntimeError : typeOf (.type "RuntimeError") = pure (.type "type") := PySem.W.kitMeta_of (by decide +kernel)
theorem fnd_RuntimeError : PySem.W.findCls K (.type "RuntimeError") (.type "type") "__init__" = some (.val (.builtin "RuntimeError.__init__")) := by rfl
theorem stb_RuntimeError : Manifest.isStub "RuntimeError" = false := by decide +kernel
theorem hnd_RuntimeError : PySem.W.handedIn (.builtin "RuntimeError.__init__") = true := by decide +kernel
theorem boot_OverflowError : bootBuiltins "OverflowError" = some (.type "OverflowError") := by decide +kernel
theorem tyf_OverflowError : typeOf (.type "OverflowError") = pure (.type "type") := PySem.W.kitMeta_of (by decide +kernel)
theorem fnd_OverflowError : PySem.W.findCls K (.type "OverflowError") (.type "type") "__init__" = some (.val (.builtin "OverflowError.__init__")) := by rfl
theorem stb_OverflowError : Manifest.isStub "OverflowError" = false := by decide +kernel
theorem hnd_OverflowError : PySem.W.handedIn (.builtin "OverflowError.__init__") = true := by decide +kernel
end
/-- an own exception straight over the b-th of the four -/
theorem exk_mk {K : PySem.W.Frag} {C : Addr} {b : Nat} {nm q : Str} {N : Addr} {bs : List Value} {sn : List Str} {sub : List Value} {ab : Bool} {col : Option Bool} {dd : Option Addr} {k0 k1 k2 k3 k5 : Option Value} (base : ExcBaseFacts (bN b) (bW b) (bI b) (bM b)) (pass : ∀ self, refuseLoop self "__setattr__" (bM b) = pure ())
    (obj : (bM b).contains (.type "object") = true) (bas : (bM b).contains (.type "BaseException") = true) (hC : K.lookup C = some (excClassObj nm q C N bs (bM b) true sn sub ab col dd k0 k1 k2 k3 k5 (bW b))) (sa : PySem.W.findIn K (.ref C) "__setattr__" = some (some (.builtin "object.__setattr__"))) (ga : PySem.W.findIn K (.ref C) "__getattribute__" = some (some (.builtin "BaseException.__getattribute__"))) (gt : PySem.W.findIn K (.ref C) "__getattr__" = some none)
    (kC : PySem.W.keepIn K (.ref C) = true) (ca : PySem.W.findIn K (.ref C) "__class__" = some (some (.builtin "object.__class__"))) (hd : PySem.W.hasDictIn K C = true) (sg : PySem.W.specialIn K (.builtin "object.__class__") "__get__" = some (some (.builtin "getset_descriptor.__get__"))) (st : PySem.W.takesIn K (.builtin "object.__class__") = some true) : ExK K C b := by
  have hcl : PySem.W.clsIn K C = some { name := nm, bases := bs, mro := .ref C :: bM b, ns := N, qualname := q, hasDict := true, slotNames := sn, subclasses := sub, abstract := ab, collection := col, hasDel := false } := by unfold PySem.W.clsIn; rw [hC] <;> rfl
  have mo : ∀ v, (bM b).contains v = true → PySem.W.mroIn K C v = some true := fun v hv => by
    unfold PySem.W.mroIn
    rw [hcl]
    show some ((Value.ref C :: bM b).contains v) = some true
    rw [List.contains_cons, hv, Bool.or_true]
  exact ⟨base, fun self => by rw [refuseLoop_ref]; exact pass self, obj, ⟨nm, q, N, bs, sn, sub, ab, col, dd, k0, k1, k2, k3, k5, hC⟩, sa, ga, gt, mo _ bas, kC, hd, ca, sg, st, mo _ obj⟩
theorem fn_up {P : Program} {w : World} {K : PySem.W.Frag} {mg : Str → Option Value} {base : Heap} {k n : Nat} {f : Addr} {fd : FuncData} {ps : List Str} {sp : Sp} (h : k ≤ n) (F : FnOk P w K mg base CX0 k f fd ps sp) : FnOk P w K mg base CX0 n f fd ps sp :=
  ⟨F.len, fun A outer s H args us vs Q E hr e0 hb r q => F.run A outer s H args us vs Q E (hr.mono h) e0 hb r q⟩
/-- an own exception class, its __init__, its name -/
structure Er (P : Program) (w : World) (K : PySem.W.Frag) (mg : Str → Option Value) (base : Heap) (nm : Str) (b : Nat) (C fI : Addr) (fd : FuncData) (ps : List Str) (sp : Sp) : Prop where
  ex : ExK K C b
  ty : PySem.W.typeIn K (.ref C) = some (.type "type")
  ini : PySem.W.findIn K (.ref C) "__init__" = some (some (.ref fI))
  tI : PySem.W.typeIn K (.ref fI) = some (.type "function")
  g : mg nm = some (.ref C)
  ok : FnOk P w K mg base CX0 1 fI fd ps sp
  bi : Binds K fd ps []
/-- the heap behind a raise: the new dict alone -/
theorem del_upd' {H : Hp} {a d : Addr} {o o' o2 u : HO} (h : H a = none) (n : d ≠ a) : upd (del (upd (upd (upd H a o) d o') a o2) a) d u = upd H d u := by
  funext b
  by_cases hd : b = d
  · rw [hd, upd_same, upd_same]
  · rw [upd_ne hd, upd_ne hd]
    by_cases ha : b = a
    · rw [ha, del_same, h]
    · rw [del_ne ha, upd_ne ha, upd_ne hd, upd_ne ha]
theorem bM_ref (b : Nat) (D : Addr) : (bM b).contains (.ref D) = false := by
  unfold bM
  split <;> rfl
theorem cls_mro {K : PySem.W.Frag} {C : Addr} {B newId initId : String} {bm : List Value} (T : ExF K C B newId initId bm) (v : Value) : (PySem.W.clsIn K C).isSome = true ∧ PySem.W.mroIn K C v = some ((Value.ref C :: bm).contains v) := by
  obtain ⟨nm, q, N, bs, sn, sub, ab, col, dd, k0, k1, k2, k3, k5, hC⟩ := T.cls
  have hcl : PySem.W.clsIn K C = some { name := nm, bases := bs, mro := .ref C :: bm, ns := N, qualname := q, hasDict := true, slotNames := sn, subclasses := sub, abstract := ab, collection := col, hasDel := false } := by unfold PySem.W.clsIn; rw [hC] <;> rfl
  refine ⟨by rw [hcl]; rfl, ?_⟩
  unfold PySem.W.mroIn
  rw [hcl]
  rfl
/-! ### which class is under which -/
structure Cl (K : PySem.W.Frag) (D : Addr) : Prop where
  cls : ∃ nm q N bs bm sn sub ab col dd k0 k1 k2 k3 k5 newId, K.lookup D = some (excClassObj nm q D N bs bm true sn sub ab col dd k0 k1 k2 k3 k5 newId)
  ty : PySem.W.typeIn K (.ref D) = some (.type "type")
  bas : PySem.W.subIn K (.ref D) (.type "BaseException") = some true
  hd : PySem.W.hasDictIn K D = true
theorem kit_self {K : PySem.W.Frag} {C : Addr} : PySem.W.kitOne K (.ref C) (.ref C) = some true := by
  unfold PySem.W.kitOne
  rw [if_pos (beq_self_eq_true _)]
theorem kit_ne {K : PySem.W.Frag} {C D : Addr} {b : Nat} (T : ExK K C b) (hD : Cl K D) (ne : D ≠ C) : PySem.W.kitOne K (.ref C) (.ref D) = some false := by
  unfold PySem.W.kitOne
  have hn : (Value.ref C == Value.ref D) = false := by
    rw [beq_eq_false_iff_ne]
    exact fun z => ne (Value.ref.inj z).symm
  obtain ⟨nm, q, N, bs, bm, sn, sub, ab, col, dd, k0, k1, k2, k3, k5, newId, hC⟩ := hD.cls
  have hs : (PySem.W.clsIn K D).isSome = true := by unfold PySem.W.clsIn; rw [hC]; rfl
  rw [hn, if_neg Bool.false_ne_true]
  show (if ((PySem.W.clsIn K D).isSome && PySem.W.typeIn K (.ref D) == some (.type "type")) = true then PySem.W.mroIn K C (.ref D) else none) = some false
  have hn2 : (Value.ref D == Value.ref C) = false := by
    rw [beq_eq_false_iff_ne]
    exact fun z => ne (Value.ref.inj z)
  rw [hs, hD.ty, (cls_mro T (.ref D)).2, List.contains_cons, bM_ref, hn2]
  rfl
theorem kit_py {K : PySem.W.Frag} {C : Addr} {b : Nat} {t : String} {r : Bool} (T : ExK K C b) (hm : PySem.W.kitMeta t = true) (hc : (bM b).contains (.type t) = r) : PySem.W.kitOne K (.ref C) (.type t) = some r := by
  unfold PySem.W.kitOne
  have hn : (Value.ref C == Value.type t) = false := by
    rw [beq_eq_false_iff_ne]
    exact fun z => nomatch z
  rw [hn, if_neg Bool.false_ne_true]
  show (if PySem.W.kitMeta t = true then PySem.W.mroIn K C (.type t) else none) = some r
  have hn2 : (Value.type t == Value.ref C) = false := by
    rw [beq_eq_false_iff_ne]
    exact fun z => nomatch z
  rw [if_pos hm, (cls_mro T (.type t)).2, List.contains_cons, hc, hn2, Bool.false_or]
theorem kit_nil {K : PySem.W.Frag} {v : Value} : PySem.W.kitAny K v [] = some false := rfl
theorem kit_cons {K : PySem.W.Frag} {v c : Value} {cs : List Value} {a : Bool} (h : PySem.W.kitOne K v c = some false) (r : PySem.W.kitAny K v cs = some a) : PySem.W.kitAny K v (c :: cs) = some a :=
  kitAny_cons h (fun _ => r) (fun e => nomatch e)
theorem exm_of_sub {K : PySem.W.Frag} {C D : Addr} {r : Bool} (hD : Cl K D) (h : PySem.W.subIn K (.ref C) (.ref D) = some r) : PySem.W.exmOne K (.ref C) (.ref D) = some r := PySem.W.exm_ref hD.bas hD.hd hD.ty h
theorem exm_cons {K : PySem.W.Frag} {v c : Value} {cs : List Value} {a b : Bool} (h : PySem.W.exmOne K v c = some a) (r : PySem.W.exmAny K v cs = some b) : PySem.W.exmAny K v (c :: cs) = some (a || b) := by
  unfold PySem.W.exmAny
  rw [h, r]
end XL
namespace XL
open PySem PySem.Spec PyProof.Rows L2
abbrev sGone : Stmt := topS 13
abbrev sIB : Stmt := inClass (topS 9) 0
section
variable {P : Program} {w : World} {K : PySem.W.Frag} {mg : Str → Option Value} {base : Heap}
theorem scIB : FnScope ["self", "going"] ["self", "going"] (defScope sIB) := ⟨rfl, rfl, rfl, by decide +kernel, rfl, by decide +kernel, by decide +kernel⟩
theorem ok_IB {f c : Addr} {fd : FuncData} (F : Fun K "__init__" "NoBoat.__init__" sIB f fd) (T : ExK K c 2) (no : PySem.W.findIn K (.ref c) "going" = some none) (mB : mg "RuntimeError" = none) : FnOk P w K mg base CX0 1 f fd ["self", "going"] (spI c "going") := by
  refine F.ok scIB (fun vs H Q E h => ?_) (fun cdv A outer s H vs Q E hr h => ?_)
  · obtain ⟨a, y, rfl, _⟩ := h
    rfl
  obtain ⟨a, y, rfl, ea, q⟩ := h
  refine ⟨_, pss_cons (ps_expr (pe_binit (B := "RuntimeError") (newId := bW 2) (initId := "RuntimeError.__init__") (bm := bM 2) rfl mB boot_RuntimeError tyf_RuntimeError fnd_RuntimeError (pa_cons (pv 0) (pa_cons pe_str pa_nil)) (by decide) (by decide) stb_RuntimeError hnd_RuntimeError))
    (pss_one (ps_os1 (B := "RuntimeError") (newId := bW 2) (initId := "RuntimeError.__init__") (bm := bM 2) (pv 0) (pv 1))), ?_⟩
  refine ⟨_, rfl, a, c, _, rfl, (by show 1 ≤ 1000; decide), T, ea, ?_⟩
  exact ⟨_, rfl, _, rfl, a, c, rfl, T, no, ea, fun dx n ne => q dx n ne⟩
/-! ### gone -/
abbrev nGone : List Str := ["canal", "standing", "going", "lock", "water", "start", "end", "reds", "blues", "stands", "boats"]
theorem scGone : FnScope nGone ["canal", "standing", "going"] (defScope sGone) := ⟨rfl, rfl, rfl, by decide +kernel, rfl, by decide +kernel, by decide +kernel⟩
def spGone (K : PySem.W.Frag) (CB : Addr) : Sp := fun vs H Q E => ∃ (v u : V) (g : Addr) (i : Nat) (r : Bool) (c : Cn) (s : Sn) (B : Int), vs = [v, u, .ref g] ∧ CnAny K H v c ∧ SnAny K H u s ∧ Sq2 K H g (mvV (i, r)) ∧ i < c.ls.length ∧ okCn 100 100 c ∧ okSn c B s ∧
  (hasB c s i r = true → ∀ v' H', Same H H' → Dp K H' v' (snD (goneS c s i r)) → Q v' H') ∧
  (hasB c s i r = false → ∀ d t H', Same H H' → H d = none → H' d = some (.xd [("going", .ref t)]) → H' t = some (.tup (mvV (i, r))) → E (.ref CB) (some d) H')
theorem set_at {zs : List Int} {j x : Int} (h0 : 0 ≤ j) (h1 : j < zs.length) : ixN (zs.map V.int).length j = some j.toNat := by
  unfold ixN
  rw [if_pos h0, if_pos (by rw [List.length_map]; omega)]
theorem ok_gone {f fh ft fB CB : Addr} {fd fdh fdt fdB : FuncData} {k : Nat} {tR : Tok} (F : Fun K "gone" "gone" sGone f fd) (Ha : Fns P w K mg base (k + 1) "has_boat" ["canal", "standing", "lock", "water"] (spHas K) fh fdh) (FT : Fns P w K mg base (k + 1) "from_and_to" ["canal", "standing", "lock", "water"] (spFT K) ft fdt)
    (TB : Er P w K mg base "NoBoat" 2 CB fB fdB ["self", "going"] (spI CB "going")) (gRED : mg "RED" = some (.str "red" tR)) (m_list : mg "list" = none) (m_tuple : mg "tuple" = none) : FnOk P w K mg base (L2.CX P w) (k + 2 + 1) f fd ["canal", "standing", "going"] (spGone K CB) := by
  refine F.okX scGone (fun vs H Q E h => ?_) (fun cdv A outer s H vs Q E hr2 h => ?_)
  · obtain ⟨v, u, g, i, r, c, s, B, rfl, _⟩ := h
    rfl
  obtain ⟨v, u, g, i, r, c, s, B, rfl, hc, hs, hg, hi, okc, oks, qy, qn⟩ := h
  have hr : Room (k + 1) _ := hr2.mono (Nat.le_succ _)
  have hrB : Room (1 + 1) _ := hr2.mono (by omega)
  have FB := TB.ok
  have bB := TB.bi
  refine ⟨_, (pss_cons (ps_asg (pv 2) (pg_any rfl (pgs_cons (pg_name (i := 3) scGone.nd rfl (.inl rfl)) (pgs_cons (pg_name (i := 4) scGone.nd rfl (.inl rfl)) pgs_nil))))
    (pss_cons (ps_if (pt_not (pt_val (pe_fn Ha hr rfl (pa_cons (pv 0) (pa_cons (pv 1) (pa_cons (pv 3) (pa_cons (pv 4) pa_nil))))))) (pss_one (ps_raise rfl (takes_of rfl rfl rfl rfl) (pmk_ex TB.ex TB.ty TB.ini TB.tI FB hrB bB rfl TB.g (pa_cons (pe_tup (pa_cons (pv 3) (pa_cons (pv 4) pa_nil))) pa_nil)))) pss_nil)
    (pss_cons (ps_asg (pe_fn FT hr rfl (pa_cons (pv 0) (pa_cons (pv 1) (pa_cons (pv 3) (pa_cons (pv 4) pa_nil))))) (pg_any rfl (pgs_cons (pg_name (i := 5) scGone.nd rfl (.inl rfl)) (pgs_cons (pg_name (i := 6) scGone.nd rfl (.inl rfl)) pgs_nil))))
    (pss_cons (ps_par3 (i := 7) (j := 8) (l := 9) rfl scGone.nd rfl rfl rfl (by decide) (by decide) (by decide) rfl rfl rfl (pa_cons (pe_callTy (r := rLstA K) call_listA rfl m_list boot_list (pa_cons (pe_ix (r := rIxA K) ix_any (pv 1) pe_int (fun _ _ => rfl)) pa_nil)) (pa_cons (pe_callTy (r := rLstA K) call_listA rfl m_list boot_list (pa_cons (pe_ix (r := rIxA K) ix_any (pv 1) pe_int (fun _ _ => rfl)) pa_nil)) (pa_cons (pe_callTy (r := rLstA K) call_listA rfl m_list boot_list (pa_cons (pe_ix (r := rIxA K) ix_any (pv 1) pe_int (fun _ _ => rfl)) pa_nil)) pa_nil))) rfl)
    (pss_cons (ps_set (i := 10) scGone.nd rfl (.inl rfl) (pe_ifExp (pt_cmpR op_eq (pv 4) (pe_glob (v := .str "red") rfl gRED ⟨_, rfl⟩) (nomark _)) (pv 7) (pv 8)))
    (pss_cons (ps_augS (pv 10) (pv 5) get_list pe_int ip_sub set_list)
    (pss_cons (ps_augS (pv 10) (pv 6) get_list pe_int ip_add set_list)
    (pss_cons (ps_asg (pe_op op_sub pe_int (pe_ix (r := rIxA K) ix_any (pv 9) (pv 3) (fun _ _ => rfl))) (pg_sub (pv 9) (pv 3) set_list))
    (pss_one (ps_ret (pe_tup (pa_cons (pe_callTy (r := rTupA K) call_tupleA rfl m_tuple boot_tuple (pa_cons (pv 7) pa_nil)) (pa_cons (pe_callTy (r := rTupA K) call_tupleA rfl m_tuple boot_tuple (pa_cons (pv 8) pa_nil)) (pa_cons (pe_callTy (r := rTupA K) call_tupleA rfl m_tuple boot_tuple (pa_cons (pv 9) pa_nil)) pa_nil)))))))))))))), ?_⟩
  refine ⟨_, rfl, g, _, rfl, hg, rfl, _, _, rfl, _, _, rfl, rfl, ?_⟩
  refine at_s (σ' := [some v, some u, some (.ref g), some (.int i), some (.str (wS r)), none, none, none, none, none, none]) rfl ?_
  refine ⟨_, rfl, _, rfl, _, rfl, _, rfl, v, u, i, r, c, s, B, rfl, hc, hs, hi, okc, oks, fun H1 s1 => ⟨_, rfl, ?_⟩⟩
  cases hb : hasB c s i r with
  | false =>
    refine iteT ?_
    refine ⟨_, rfl, _, rfl, (by show 2 ≤ sizeLine; decide), fun t nt => ⟨(by show 1 ≤ 1000; decide), fun a na => ?_⟩⟩
    have st : Same H1 (upd H1 t (.tup (mvV (i, r)))) := same_new nt
    refine ⟨a, .ref t, rfl, upd_same, fun dx nx nxa => ⟨rfl, dx, [("going", .ref t)], upd_same, by rw [upd_ne nxa, upd_same], by rw [upd_ne nxa] at nx; exact nx, ?_⟩⟩
    have nx' : (upd H1 t (.tup (mvV (i, r)))) dx = none := by rw [upd_ne nxa] at nx; exact nx
    rw [del_upd' na nxa]
    exact qn hb dx t _ (s1.trans (st.trans (same_new nx'))) (s1.free (st.free nx')) upd_same ((same_new nx') _ _ upd_same)
  | true =>
    refine iteF ?_
    have qy := qy hb
    have fo := fromTo_ok okc (s := s) hi r
    have hl := boats_len oks r
    refine ⟨_, rfl, _, rfl, _, rfl, _, rfl, v, u, i, r, c, s, rfl, hc.same s1, hs.same s1, hi, by rw [oks.n]; exact hi, fun p H2 s2 np ep => ?_⟩
    have s12 := s1.trans s2
    refine ⟨p, _, rfl, .inr (.inl (.inl ep)), rfl, _, _, rfl, _, _, rfl, rfl, ?_⟩
    refine at_s (σ' := [some v, some u, some (.ref g), some (.int i), some (.str (wS r)), some (.int (fromTo c s i r).1), some (.int (fromTo c s i r).2), none, none, none, none]) rfl ?_
    obtain ⟨b, br, bb, bl, rfl, hb', hbr, hbb, hbl⟩ := (hs.same s12).ex
    refine ⟨_, rfl, b, _, _, _, rfl, rfl, hb', rfl, br, _, rfl, hbr, fun l1 n1 => ?_⟩
    have t1 : Same H2 (upd H2 l1 (.lst (s.rs.map V.int))) := same_new n1
    refine ⟨_, rfl, b, _, _, _, rfl, rfl, Same.sq2 t1 hb', rfl, bb, _, rfl, Same.sq2 t1 hbb, fun l2 n2 => ?_⟩
    have t2 : Same _ (upd (upd H2 l1 (.lst (s.rs.map V.int))) l2 (.lst (s.bs.map V.int))) := same_new n2
    have t12 := t1.trans t2
    refine ⟨_, rfl, b, _, _, _, rfl, rfl, Same.sq2 t12 hb', rfl, bl, _, rfl, Same.sq2 t12 hbl, fun l3 n3 => ?_⟩
    have t3 : Same _ (upd (upd (upd H2 l1 (.lst (s.rs.map V.int))) l2 (.lst (s.bs.map V.int))) l3 (.lst (s.ls.map V.int))) := same_new n3
    have e1 := t2 _ _ (show (upd H2 l1 (.lst (s.rs.map V.int))) l1 = _ from upd_same)
    have e2 := t3 _ _ (show (upd (upd H2 l1 (.lst (s.rs.map V.int))) l2 (.lst (s.bs.map V.int))) l2 = _ from upd_same)
    have e1' := t3 _ _ e1
    have d12 : l1 ≠ l2 := fun z => by rw [← z, upd_same] at n2; cases n2
    have d13 : l1 ≠ l3 := fun z => by rw [← z, e1] at n3; cases n3
    have d23 : l2 ≠ l3 := fun z => by rw [← z, upd_same] at n3; cases n3
    have hn1 : H2 l1 = none := n1
    have hn2 : H2 l2 = none := t1.free n2
    have hn3 : H2 l3 = none := t12.free n3
    have e3 : (upd (upd (upd H2 l1 (.lst (s.rs.map V.int))) l2 (.lst (s.bs.map V.int))) l3 (.lst (s.ls.map V.int))) l3 = some (.lst (s.ls.map V.int)) := upd_same
    have tt : Same H2 (upd (upd (upd H2 l1 (.lst (s.rs.map V.int))) l2 (.lst (s.bs.map V.int))) l3 (.lst (s.ls.map V.int))) := t12.trans t3
    refine ⟨_, _, _, rfl, ?_⟩
    refine at_s (σ' := [some v, some (.ref b), some (.ref g), some (.int i), some (.str (wS r)), some (.int (fromTo c s i r).1), some (.int (fromTo c s i r).2), some (.ref l1), some (.ref l2), some (.ref l3), none]) rfl ?_
    generalize upd (upd (upd H2 l1 (.lst (s.rs.map V.int))) l2 (.lst (s.bs.map V.int))) l3 (.lst (s.ls.map V.int)) = H3 at e1' e2 e3 tt
    -- the three lists are our own
    have s3i : (i : Int) < s.ls.length := by rw [oks.n]; omega
    -- what follows, by the boats' list
    have tail : ∀ (D : Ends) (lw : Addr) (H4 : Hp) (zr zb : List Int), D.rt = Q → Same H2 H4 → H4 l1 = some (.lst (zr.map V.int)) → H4 l2 = some (.lst (zb.map V.int)) → H4 l3 = some (.lst ((flip1 s.ls i).map V.int)) → (goneS c s i r) = ⟨zr, zb, flip1 s.ls i⟩ →
        (tRet (tTup (tCons (tCB (rTupA K) (tCons (tVar 7) tNil)) (tCons (tCB (rTupA K) (tCons (tVar 8) tNil)) (tCons (tCB (rTupA K) (tCons (tVar 9) tNil)) tNil))))) D [some v, some (.ref b), some (.ref g), some (.int i), some (.str (wS r)), some (.int (fromTo c s i r).1), some (.int (fromTo c s i r).2), some (.ref l1), some (.ref l2), some (.ref l3), some (.ref lw)] H4 := by
      intro D lw H4 zr zb hD s4 f1 f2 f3 eg
      refine ⟨_, rfl, l1, _, rfl, .inl ⟨SqL.of f1, fun p1 np1 => ?_⟩⟩
      have u1 : Same H4 (upd H4 p1 (.tup (zr.map V.int))) := same_new np1
      refine ⟨_, rfl, l2, _, rfl, .inl ⟨SqL.of (u1 _ _ f2), fun p2 np2 => ?_⟩⟩
      have u2 : Same _ (upd (upd H4 p1 (.tup (zr.map V.int))) p2 (.tup (zb.map V.int))) := same_new np2
      refine ⟨_, rfl, l3, _, rfl, .inl ⟨SqL.of (u2 _ _ (u1 _ _ f3)), fun p3 np3 => ?_⟩⟩
      have u3 : Same _ (upd (upd (upd H4 p1 (.tup (zr.map V.int))) p2 (.tup (zb.map V.int))) p3 (.tup ((flip1 s.ls i).map V.int))) := same_new np3
      refine ⟨(by show 3 ≤ sizeLine; decide), fun p4 np4 => ?_⟩
      have u4 : Same _ (upd (upd (upd (upd H4 p1 (.tup (zr.map V.int))) p2 (.tup (zb.map V.int))) p3 (.tup ((flip1 s.ls i).map V.int))) p4 (.tup [.ref p1, .ref p2, .ref p3])) := same_new np4
      rw [hD]
      refine qy _ _ (s12.trans (s4.trans (u1.trans (u2.trans (u3.trans u4))))) ?_
      rw [eg]
      have dpi : ∀ (zs : List Int) (G : Hp), DpAll K G (zs.map V.int) (intsD zs) := by
        intro zs G
        induction zs with
        | nil => exact .nil
        | cons z zs ih => exact .cons (.int z) ih
      exact .tup (.inl (.inl upd_same)) (.cons (.tup (.inl (.inl (u4 _ _ (u3 _ _ (u2 _ _ upd_same))))) (dpi _ _)) (.cons (.tup (.inl (.inl (u4 _ _ (u3 _ _ upd_same)))) (dpi _ _)) (.cons (.tup (.inl (.inl (u4 _ _ upd_same))) (dpi _ _)) .nil)))
    refine ⟨_, rfl, rfl, _, rfl, ite2 (fun e => ?_) (fun e => ?_)⟩
    · have er : r = true := by rw [← isRed_wS r]; exact e
      subst er
      refine ⟨_, rfl, ?_⟩
      refine at_g (σ' := [some v, some (.ref b), some (.ref g), some (.int i), some (.str (wS true)), some (.int (fromTo c s i true).1), some (.int (fromTo c s i true).2), some (.ref l1), some (.ref l2), some (.ref l3), some (.ref l1)]) rfl ?_
      have L1 : (fromTo c s i true).1 < (s.rs.length : Int) := by rw [show (s.rs.length : Int) = basW true c from hl]; exact fo.1.2
      have L2 : (fromTo c s i true).2 < (s.rs.length : Int) := by rw [show (s.rs.length : Int) = basW true c from hl]; exact fo.2.2
      refine ⟨_, rfl, _, rfl, l1, _, _, _, rfl, rfl, SqL.of e1', fo.1.1, by rw [List.getElem?_map, gt_get fo.1.1 L1]; rfl, _, _, rfl, rfl, l1, _, _, _, rfl, rfl, e1', set_at (x := 0) fo.1.1 L1, ?_⟩
      rw [set_ints]
      have L2' : (fromTo c s i true).2 < ((s.rs.set (fromTo c s i true).1.toNat (gt s.rs (fromTo c s i true).1 - 1)).length : Int) := by rw [List.length_set]; exact L2
      refine ⟨_, rfl, _, rfl, l1, _, _, _, rfl, rfl, SqL.of upd_same, fo.2.1, by rw [List.getElem?_map, gt_get fo.2.1 L2']; rfl, _, _, rfl, rfl, l1, _, _, _, rfl, rfl, upd_same, set_at (x := 0) fo.2.1 L2', ?_⟩
      rw [set_ints, upd_upd]
      have e3' : upd H3 l1 (.lst ((mov s.rs (fromTo c s i true)).map V.int)) l3 = some (.lst (s.ls.map V.int)) := by rw [upd_ne (Ne.symm d13)]; exact e3
      refine ⟨_, rfl, _, rfl, l3, _, _, _, rfl, rfl, .inl (SqL.of e3'), gt_at (by omega) s3i, _, _, rfl, rfl, _, rfl, _, rfl, l3, _, _, _, rfl, rfl, e3', set_at (x := 0) (by omega) s3i, ?_⟩
      rw [set_ints]
      refine tail _ _ _ (mov s.rs (fromTo c s i true)) s.bs rfl (fun c' o e => ?_) ?_ ?_ ?_ rfl
      · rw [upd_ne (ne_of_none e hn3), upd_ne (ne_of_none e hn1)]; exact tt _ _ e
      · rw [upd_ne d13, upd_same]; rfl
      · rw [upd_ne d23, upd_ne (Ne.symm d12)]; exact e2
      · rw [upd_same]; rfl
    · have er : r = false := by
        cases r with
        | false => rfl
        | true => exact absurd (isRed_wS true) e
      subst er
      refine ⟨_, rfl, ?_⟩
      refine at_g (σ' := [some v, some (.ref b), some (.ref g), some (.int i), some (.str (wS false)), some (.int (fromTo c s i false).1), some (.int (fromTo c s i false).2), some (.ref l1), some (.ref l2), some (.ref l3), some (.ref l2)]) rfl ?_
      have L1 : (fromTo c s i false).1 < (s.bs.length : Int) := by rw [show (s.bs.length : Int) = basW false c from hl]; exact fo.1.2
      have L2 : (fromTo c s i false).2 < (s.bs.length : Int) := by rw [show (s.bs.length : Int) = basW false c from hl]; exact fo.2.2
      refine ⟨_, rfl, _, rfl, l2, _, _, _, rfl, rfl, SqL.of e2, fo.1.1, by rw [List.getElem?_map, gt_get fo.1.1 L1]; rfl, _, _, rfl, rfl, l2, _, _, _, rfl, rfl, e2, set_at (x := 0) fo.1.1 L1, ?_⟩
      rw [set_ints]
      have L2' : (fromTo c s i false).2 < ((s.bs.set (fromTo c s i false).1.toNat (gt s.bs (fromTo c s i false).1 - 1)).length : Int) := by rw [List.length_set]; exact L2
      refine ⟨_, rfl, _, rfl, l2, _, _, _, rfl, rfl, SqL.of upd_same, fo.2.1, by rw [List.getElem?_map, gt_get fo.2.1 L2']; rfl, _, _, rfl, rfl, l2, _, _, _, rfl, rfl, upd_same, set_at (x := 0) fo.2.1 L2', ?_⟩
      rw [set_ints, upd_upd]
      have e3' : upd H3 l2 (.lst ((mov s.bs (fromTo c s i false)).map V.int)) l3 = some (.lst (s.ls.map V.int)) := by rw [upd_ne (Ne.symm d23)]; exact e3
      refine ⟨_, rfl, _, rfl, l3, _, _, _, rfl, rfl, .inl (SqL.of e3'), gt_at (by omega) s3i, _, _, rfl, rfl, _, rfl, _, rfl, l3, _, _, _, rfl, rfl, e3', set_at (x := 0) (by omega) s3i, ?_⟩
      rw [set_ints]
      refine tail _ _ _ s.rs (mov s.bs (fromTo c s i false)) rfl (fun c' o e => ?_) ?_ ?_ ?_ rfl
      · rw [upd_ne (ne_of_none e hn3), upd_ne (ne_of_none e hn2)]; exact tt _ _ e
      · rw [upd_ne d13, upd_ne d12]; exact e1'
      · rw [upd_ne d23, upd_same]; rfl
      · rw [upd_same]; rfl
end
end XL
namespace XL
open PySem PySem.Spec PyProof.Rows L2
abbrev sLF : Stmt := topS 33
abbrev sSt : Stmt := topS 34
abbrev sBe : Stmt := topS 35
theorem dp_ints' {K : PySem.W.Frag} {H : Hp} : ∀ zs : List Int, DpAll K H (zs.map V.int) (intsD zs)
  | [] => .nil
  | z :: zs => .cons (.int z) (dp_ints' zs)
section
variable {P : Program} {w : World} {K : PySem.W.Frag} {mg : Str → Option Value} {base : Heap}
/-! ### the law's own: from and to -/
abbrev nLF : List Str := ["_law_ship_way", "_law_lying", "_law_hop", "_law_gate", "_law_hue", "_law_ends"]
theorem scLF : FnScope nLF ["_law_ship_way", "_law_lying", "_law_hop"] (defScope sLF) := ⟨rfl, rfl, rfl, by decide +kernel, rfl, by decide +kernel, by decide +kernel⟩
def spLF (K : PySem.W.Frag) : Sp := fun vs H Q _ => ∃ (v u : V) (m : Addr) (i : Nat) (r : Bool) (c : Cn) (s : Sn), vs = [v, u, .ref m] ∧ Dp K H v (cnD c) ∧ SnAny K H u s ∧ Sq2 K H m (mvV (i, r)) ∧ i < c.ls.length ∧ i < s.ls.length ∧ ∀ p H', Same H H' → H p = none → H' p = some (.tup (prV (fromTo c s i r))) → Q (.ref p) H'
theorem ok_lf {f : Addr} {fd : FuncData} {k : Nat} (F : Fun K "_law_from_to" "_law_from_to" sLF f fd) : FnOk P w K mg base CX0 (k + 1) f fd ["_law_ship_way", "_law_lying", "_law_hop"] (spLF K) := by
  refine F.ok scLF (fun vs H Q E h => ?_) (fun cdv A outer s H vs Q E hr h => ?_)
  · obtain ⟨v, u, m, i, r, c, s, rfl, _⟩ := h
    rfl
  obtain ⟨v, u, m, i, r, c, s, rfl, hc, hs, hm, hi, hi2, q⟩ := h
  obtain ⟨a, g, vs, rfl, ha, hg, hl⟩ := cn_of hc
  obtain ⟨b, br, bb, bl, rfl, hb, hbr, hbb, hbl⟩ := hs.ex
  refine ⟨_, (pss_cons (ps_asg (pv 2) (pg_any rfl (pgs_cons (pg_name (i := 3) scLF.nd rfl (.inl rfl)) (pgs_cons (pg_name (i := 4) scLF.nd rfl (.inl rfl)) pgs_nil))))
    (pss_cons (ps_set (i := 5) scLF.nd rfl (.inl rfl) (pe_ifExp (pt_cmpR op_eq (pv 4) pe_str (nomark _)) (pe_slice sl_tup (pe_ix (r := rIxA K) ix_any (pe_ix (r := rIxA K) ix_any (pv 0) pe_int (fun _ _ => rfl)) (pv 3) (fun _ _ => rfl)) po_none (po_some pe_int)) (pe_slice sl_tup (pe_ix (r := rIxA K) ix_any (pe_ix (r := rIxA K) ix_any (pv 0) pe_int (fun _ _ => rfl)) (pv 3) (fun _ _ => rfl)) (po_some pe_int) po_none)))
    (pss_one (ps_ret (pe_ifExp (pt_cmpR op_eq (pe_ix (r := rIxA K) ix_any (pe_ix (r := rIxA K) ix_any (pv 1) pe_int (fun _ _ => rfl)) (pv 3) (fun _ _ => rfl)) pe_int (nomark _)) (pv 5) (pe_rev2 (pv 5))))))), ?_⟩
  have hvl : vs.length = c.ls.length := by rw [DpAll.length hl, List.length_map]
  have hvi : i < vs.length := by omega
  obtain ⟨d, ed, pd⟩ := DpAll.get hl (List.getElem?_eq_getElem hvi)
  rw [List.getElem?_map, lkAt_get hi] at ed
  cases ed
  obtain ⟨t, et, ht⟩ := ends_of pd
  refine ⟨_, rfl, m, _, rfl, hm, rfl, _, _, rfl, _, _, rfl, rfl, ?_⟩
  refine at_s (σ' := [some (.ref a), some (.ref b), some (.ref m), some (.int i), some (.str (wS r)), none]) rfl ?_
  have fin : ∀ (p : Addr), H p = none → gt s.ls (i : Int) = 0 → Q (.ref p) (upd H p (.tup (prV (endW r (lkAt c i))))) := fun p np e => by
    refine q p _ (same_new np) np ?_
    rw [upd_same]; unfold fromTo; rw [if_pos e]
  have fin2 : ∀ (p p2 : Addr), H p = none → ¬ gt s.ls (i : Int) = 0 → upd H p (.tup (prV (endW r (lkAt c i)))) p2 = none → Q (.ref p2) (upd (upd H p (.tup (prV (endW r (lkAt c i))))) p2 (.tup [.int (endW r (lkAt c i)).2, .int (endW r (lkAt c i)).1])) := fun p p2 np e np2 => by
    refine q p2 _ ((same_new np).trans (same_new np2)) ((same_new np).free np2) ?_
    rw [upd_same]; unfold fromTo; rw [if_neg e]; rfl
  refine ⟨_, rfl, rfl, _, rfl, ite2 (fun e => ?_) (fun e => ?_)⟩
  · have er : r = true := by rw [← isRed_wS r]; exact e
    subst er
    refine ⟨_, rfl, a, _, _, _, rfl, rfl, .inr ha, rfl, _, rfl, g, _, _, _, rfl, rfl, .inr hg, atI_nat (List.getElem?_eq_getElem hvi), 2, rfl, ?_⟩
    rw [et]
    refine ⟨t, _, rfl, ht, (fun z => absurd (show HT.sIx 4 4 (some 2) = 4 from z.2) (by decide)), fun p np => ?_⟩
    refine at_g (σ' := [some (.ref a), some (.ref b), some (.ref m), some (.int i), some (.str (wS true)), some (.ref p)]) rfl ?_
    have s1 : Same H (upd H p (.tup (prV (endW true (lkAt c i))))) := same_new np
    refine ⟨_, rfl, b, _, _, _, rfl, rfl, Same.sq2 s1 hb, rfl, _, rfl, bl, _, _, _, rfl, rfl, Same.sq2 s1 hbl, gt_at (by omega) (by omega), rfl, _, rfl, ite2 (fun e2 => ?_) (fun e2 => ?_)⟩
    · exact ⟨_, rfl, fin p np (V.int.inj (of_decide_eq_true e2))⟩
    · exact ⟨_, rfl, p, _, _, rfl, .inl (.inl upd_same), fun p2 np2 => fin2 p p2 np (fun z => e2 (decide_eq_true (by rw [z]))) np2⟩
  · have er : r = false := by
      cases r with
      | false => rfl
      | true => exact absurd (isRed_wS true) e
    subst er
    refine ⟨_, rfl, a, _, _, _, rfl, rfl, .inr ha, rfl, _, rfl, g, _, _, _, rfl, rfl, .inr hg, atI_nat (List.getElem?_eq_getElem hvi), 2, rfl, ?_⟩
    rw [et]
    refine ⟨t, _, rfl, ht, (fun z => absurd (show HT.sIx 4 0 (some 2) = 0 from z.1) (by decide)), fun p np => ?_⟩
    refine at_g (σ' := [some (.ref a), some (.ref b), some (.ref m), some (.int i), some (.str (wS false)), some (.ref p)]) rfl ?_
    have s1 : Same H (upd H p (.tup (prV (endW false (lkAt c i))))) := same_new np
    refine ⟨_, rfl, b, _, _, _, rfl, rfl, Same.sq2 s1 hb, rfl, _, rfl, bl, _, _, _, rfl, rfl, Same.sq2 s1 hbl, gt_at (by omega) (by omega), rfl, _, rfl, ite2 (fun e2 => ?_) (fun e2 => ?_)⟩
    · exact ⟨_, rfl, fin p np (V.int.inj (of_decide_eq_true e2))⟩
    · exact ⟨_, rfl, p, _, _, rfl, .inl (.inl upd_same), fun p2 np2 => fin2 p p2 np (fun z => e2 (decide_eq_true (by rw [z]))) np2⟩
/-! ### steps -/
abbrev nSt : List Str := ["_law_ship_way", "_law_lying", "_law_found", "_law_gate", "_law_k", "_law_hue"]
theorem scSt : FnScope nSt ["_law_ship_way", "_law_lying"] (defScope sSt) := ⟨rfl, rfl, rfl, by decide +kernel, rfl, by decide +kernel, by decide +kernel⟩
def spSt (K : PySem.W.Frag) : Sp := fun vs H Q _ => ∃ (v u : V) (c : Cn) (s : Sn) (B : Int), vs = [v, u] ∧ Dp K H v (cnD c) ∧ SnAny K H u s ∧ okCn 100 100 c ∧ okSn c B s ∧ ∀ p us H', Same H H' → H p = none → MvAt H' p (may c s c.ls.length) us → Q (.ref p) H'
theorem ok_st {f fe : Addr} {fd fde : FuncData} {k : Nat} (F : Fun K "_law_steps" "_law_steps" sSt f fd) (LF : Fns P w K mg base k "_law_from_to" ["_law_ship_way", "_law_lying", "_law_hop"] (spLF K) fe fde) (m_range : mg "range" = none) (m_len : mg "len" = none) (m_enumerate : mg "enumerate" = none) : FnOk P w K mg base CX0 (k + 1) f fd ["_law_ship_way", "_law_lying"] (spSt K) := by
  refine F.ok scSt (fun vs H Q E h => ?_) (fun cdv A outer s H vs Q E hr h => ?_)
  · obtain ⟨v, u, c, s, B, rfl, _⟩ := h
    rfl
  obtain ⟨v, u, c, s, B, rfl, hc, hs, okc, oks, q⟩ := h
  obtain ⟨a, g, vs, rfl, ha, hg, hl⟩ := cn_of hc
  have hvl : vs.length = c.ls.length := by rw [DpAll.length hl, List.length_map]
  refine ⟨_, (pss_cons (ps_set (i := 2) scSt.nd rfl (.inl rfl) (pe_lst pa_nil))
    (pss_cons (ps_for PassesOwn.never rfl (pi_range1 rfl m_range (pa_cons (pe_callB (r := rLenA K) call_lenA rfl m_len PySem.boot_len (pa_cons (pe_ix (r := rIxA K) ix_any (pv 0) pe_int (fun _ _ => rfl)) pa_nil)) pa_nil)) (pg_name (i := 3) scSt.nd rfl (.inl rfl))
    (pss_one (ps_for PassesOwn.never rfl (pi_enumT rfl m_enumerate (pa_cons (pe_tup (pa_cons pe_str (pa_cons pe_str pa_nil))) pa_nil)) (pg_any rfl (pgs_cons (pg_name (i := 4) scSt.nd rfl (.inl rfl)) (pgs_cons (pg_name (i := 5) scSt.nd rfl (.inl rfl)) pgs_nil)))
    (pss_one (ps_if (pt_cmpR op_gt (pe_ix (r := rIxA K) ix_any (pe_ix (r := rIxA K) ix_any (pv 1) (pv 4) (fun _ _ => rfl)) (pe_ix (r := rIxA K) ix_any (pe_fn LF hr rfl (pa_cons (pv 0) (pa_cons (pv 1) (pa_cons (pe_tup (pa_cons (pv 3) (pa_cons (pv 5) pa_nil))) pa_nil)))) pe_int (fun _ _ => rfl)) (fun _ _ => rfl)) pe_int (nomark _)) (pss_one (ps_expr (pe_bm PySem.F.plainAttrs_list PySem.F.slot_list_append PySem.F.type_list_append mt_append (pv 2) (pa_cons (pe_tup (pa_cons (pv 3) (pa_cons (pv 5) pa_nil))) pa_nil)))) pss_nil)))))
    (pss_one (ps_ret (pv 2))))), ?_⟩
  refine ⟨(by show 0 ≤ sizeLine; decide), fun tl ntl => ?_⟩
  have s1 : Same H (upd H tl (.lst [])) := same_new ntl
  refine at_g (σ' := [some (.ref a), some u, some (.ref tl), none, none, none]) rfl ?_
  have hnl : c.ls.length ≤ 100 := okc.n
  refine ⟨_, rfl, a, _, _, _, rfl, rfl, .inr (Same.tup s1 ha), rfl, g, vs, rfl, .inr (Same.tup s1 hg), _, rfl, by omega, by omega, for_it walk_range (fun i σ H3 => ∃ (us : List V) (y3 y4 y5 : Option V), σ = [some (.ref a), some u, some (.ref tl), y3, y4, y5] ∧ Same H H3 ∧ MvAt H3 tl (may c s i) us) ⟨[], none, none, none, rfl, s1, upd_same, rfl, fun j u h => by simp at h⟩ (fun _ _ _ _ _ => trivial) (fun i x σ H3 H4 hi h hy => ?_) (fun σ H3 h => ?_)⟩
  · obtain ⟨us, y3, y4, y5, rfl, sm, M⟩ := h
    obtain ⟨rfl, rfl⟩ := hy
    have hi2 : i < c.ls.length := by omega
    refine at_g (σ' := [some (.ref a), some u, some (.ref tl), some (.int (0 + i)), y4, y5]) rfl ?_
    rw [Int.zero_add]
    refine ⟨(by show 2 ≤ sizeLine; decide), fun tp ntp => ?_⟩
    have stp : Same H4 (upd H4 tp (.tup [.str "red", .str "blue"])) := same_new ntp
    have etp : (upd H4 tp (.tup [.str "red", .str "blue"])) tp = some (.tup [.str "red", .str "blue"]) := upd_same
    refine ⟨tp, [.str "red", .str "blue"], rfl, .inl (.inl etp), for_it (walk_enumT (xs := [.str "red", .str "blue"])) (fun j σ H5 => ∃ (us : List V) (y4 y5 : Option V), σ = [some (.ref a), some u, some (.ref tl), some (.int (i : Nat)), y4, y5] ∧ Same H H5 ∧ H5 tp = some (.tup [.str "red", .str "blue"]) ∧ MvAt H5 tl (may c s i ++ ([true, false].take j).filterMap fun r => if hasB c s i r = true then some (i, r) else none) us)
      ⟨us, y4, y5, rfl, sm.trans stp, etp, ?_⟩ (fun j σ H5 _ h => ?_) (fun j x σ H5 H6 hj h hy => ?_) (fun σ H5 h => ?_)⟩
    · rw [show ([true, false].take 0).filterMap (fun r => if hasB c s i r = true then some (i, r) else none) = [] from rfl, List.append_nil]
      exact ⟨stp _ _ M.e, M.l, fun j u hu => by
        obtain ⟨t, m, e1, e2, e3⟩ := M.d j u hu
        exact ⟨t, m, e1, e2, stp _ _ e3⟩⟩
    · obtain ⟨_, _, _, _, s5, e5, _⟩ := h
      exact .inl (.inl e5)
    · obtain ⟨us, y4, y5, rfl, s5, e5, M5⟩ := h
      obtain ⟨T, x1, x2, rfl, nT, rfl, q1, q2⟩ := hy
      have e1' : x1 = .int (j : Nat) := (Option.some.inj q1).symm
      subst e1'
      obtain ⟨r, rfl, er, hix⟩ : ∃ r : Bool, x2 = .str (wS r) ∧ [true, false][j]? = some r ∧ ∀ zr zb zl : V, [zr, zb, zl][j]? = some (if r = true then zr else zb) := by
        match j, hj, q2 with
        | 0, _, hx => exact ⟨true, (Option.some.inj hx).symm, rfl, fun _ _ _ => rfl⟩
        | 1, _, hx => exact ⟨false, (Option.some.inj hx).symm, rfl, fun _ _ _ => rfl⟩
      have etk : ([true, false].take (j + 1)) = [true, false].take j ++ [r] := by rw [List.take_succ, er]; rfl
      have sT : Same H5 (upd H5 T (.tup [.int (j : Nat), .str (wS r)])) := same_new nT
      refine ⟨T, _, rfl, .inr (.inl (.inl upd_same)), rfl, _, _, rfl, _, _, rfl, rfl, ?_⟩
      refine at_s (σ' := [some (.ref a), some u, some (.ref tl), some (.int (i : Nat)), some (.int (j : Nat)), some (.str (wS r))]) rfl ?_
      have s6 := s5.trans sT
      generalize upd H5 T (.tup [.int (j : Nat), .str (wS r)]) = H6 at sT s6
      obtain ⟨b, br, bb, bl, eu, hb, hbr, hbb, hbl⟩ := (hs.same s6).ex
      subst eu
      refine ⟨_, rfl, _, rfl, b, _, _, _, rfl, rfl, hb, atI_nat (hix _ _ _), _, rfl, _, rfl, _, rfl, _, rfl, (by show 2 ≤ sizeLine; decide), fun t nt => ?_⟩
      have st : Same H6 (upd H6 t (.tup (mvV (i, r)))) := same_new nt
      refine ⟨.ref a, .ref b, t, i, r, c, s, rfl, Dp.same (s6.trans st) _ hc, hs.same (s6.trans st), .inr (.inl (.inl upd_same)), hi2, by rw [oks.n]; exact hi2, fun p H7 s7 np ep => ?_⟩
      have s67 := st.trans s7
      have f := fromTo_ok okc (s := s) hi2 r
      have hlb := boats_len oks r
      have g1 : atI ((boatsW r s).map V.int) (fromTo c s i r).1 = some (.int (gt (boatsW r s) (fromTo c s i r).1)) := gt_at f.1.1 (by rw [hlb]; exact f.1.2)
      have hbt : Sq2 K H7 (if r = true then br else bb) ((boatsW r s).map V.int) := by
        cases r with
        | true => exact Same.sq2 s67 hbr
        | false => exact Same.sq2 s67 hbb
      refine ⟨p, _, _, _, rfl, rfl, .inr (.inl (.inl ep)), rfl, if r = true then br else bb, _, _, _, by cases r <;> rfl, rfl, hbt, g1, _, _, rfl, rfl, _, rfl, ?_⟩
      have s57 := sT.trans s67
      have M7 : MvAt H7 tl (may c s i ++ ([true, false].take j).filterMap fun r => if hasB c s i r = true then some (i, r) else none) us := ⟨s57 _ _ M5.e, M5.l, fun j u hu => by
        obtain ⟨t, m, e1, e2, e3⟩ := M5.d j u hu
        exact ⟨t, m, e1, e2, s57 _ _ e3⟩⟩
      show (if hasB c s i r = true then _ else _)
      cases hb' : hasB c s i r with
      | false =>
        refine iteF ⟨us, _, _, rfl, s5.trans s57, s57 _ _ e5, ?_⟩
        rw [etk, List.filterMap_append]
        have e0 : [r].filterMap (fun r => if hasB c s i r = true then some (i, r) else none) = [] := by simp [hb']
        rw [e0, List.append_nil]; exact M7
      | true =>
        refine iteT ⟨_, rfl, .inl ⟨rfl, _, SqL.of M7.e⟩, _, rfl, _, rfl, (by show 2 ≤ sizeLine; decide), fun t nt => ?_⟩
        have st : Same H7 (upd H7 t (.tup (mvV (i, r)))) := same_new nt
        have hul : us.length ≤ 1000 := by
          rw [M7.l, List.length_append]
          have h1 := may_len c s i
          have h2 : (([true, false].take j).filterMap fun r => if hasB c s i r = true then some (i, r) else none).length ≤ ([true, false].take j).length := List.length_filterMap_le _ _
          have h3 : ([true, false].take j).length ≤ 2 := by rw [List.length_take]; exact Nat.min_le_right _ _
          omega
        refine ⟨tl, us, _, rfl, rfl, st _ _ M7.e, small1000 hul, ?_⟩
        have htl : ∀ {b : Addr} {xs : List V}, H7 b = some (.tup xs) → upd (upd H7 t (.tup (mvV (i, r)))) tl (.lst (us ++ [.ref t])) b = some (.tup xs) := fun {b xs} e => by
          rw [upd_ne (fun z => by rw [z, M7.e] at e; cases e)]; exact st _ _ e
        have ttl : t ≠ tl := fun z => by rw [z, M7.e] at nt; cases nt
        refine ⟨us ++ [.ref t], _, _, rfl, fun b o e => ?_, htl (s57 _ _ e5), ?_⟩
        · rw [upd_ne (ne_of_none e ntl)]; exact st _ _ (s57 _ _ (s5 _ _ e))
        · rw [etk, List.filterMap_append]
          have e0 : [r].filterMap (fun r => if hasB c s i r = true then some (i, r) else none) = [(i, r)] := by simp [hb']
          rw [e0, ← List.append_assoc]
          exact M7.snoc (fun b xs e => htl e) (by rw [upd_ne ttl, upd_same]; rfl) upd_same
    · obtain ⟨us, y4, y5, rfl, s5, e5, M5⟩ := h
      refine ⟨us, _, _, _, rfl, s5, ?_⟩
      rw [may_succ]; exact M5
  · obtain ⟨us, y3, y4, y5, rfl, sm, M⟩ := h
    have en : ((vs.length : Int)).toNat = c.ls.length := by omega
    rw [en] at M
    exact ⟨_, rfl, q tl us H3 sm ntl M⟩
end
end XL
namespace XL
open PySem PySem.Spec PyProof.Rows L2
def trip (s : Sn) : List (List Int) := [s.rs, s.bs, s.ls]
def blI (r : Bool) : Int := if r = true then 0 else 1
theorem blI_eq (r : Bool) : (if decide (V.str (wS r) = V.str "blue") = true then (1 : Int) else 0) = blI r := by cases r <;> decide +kernel
/-! ### lists of our own, one by one -/
structure Own (H1 F : Hp) (zss : List (List Int)) (ls : List Addr) : Prop where
  nd : ls.Nodup
  at_ : ∀ (q : Nat) l, ls[q]? = some l → H1 l = none ∧ F l = some (.lst ((zss.getD q []).map V.int))
theorem Own.snoc {H1 F : Hp} {zss : List (List Int)} {ls : List Addr} {l : Addr} (h : Own H1 F zss ls) (s : Same H1 F) (nl : F l = none) : Own H1 (upd F l (.lst ((zss.getD ls.length []).map V.int))) zss (ls ++ [l]) := by
  have ne : ∀ x ∈ ls, x ≠ l := fun x hx z => by
    obtain ⟨q, hq⟩ := List.getElem?_of_mem hx
    have := (h.at_ q x hq).2
    rw [z, nl] at this; cases this
  refine ⟨List.nodup_append.mpr ⟨h.nd, by simp, fun x hx y hy e => ne x hx (by rw [e]; simpa using hy)⟩, fun q x hx => ?_⟩
  by_cases hq : q < ls.length
  · rw [List.getElem?_append_left hq] at hx
    obtain ⟨a, b⟩ := h.at_ q x hx
    exact ⟨a, by rw [upd_ne (ne x (List.mem_of_getElem? hx))]; exact b⟩
  · rw [List.getElem?_append_right (by omega)] at hx
    have hq0 : q - ls.length = 0 := by
      rcases Nat.eq_zero_or_pos (q - ls.length) with z | z
      · exact z
      · rw [List.getElem?_eq_none (by simp; omega)] at hx; cases hx
    rw [hq0] at hx
    have e : l = x := by simpa using hx
    have eq : q = ls.length := by omega
    subst e eq
    exact ⟨s.free nl, upd_same⟩
section
variable {P : Program} {w : World} {K : PySem.W.Frag} {mg : Str → Option Value} {base : Heap}
abbrev nBe : List Str := ["_law_ship_way", "_law_lying", "_law_hop", "_law_first", "_law_last", "_law_parts", "_law_k", "_law_part"]
theorem scBe : FnScope nBe ["_law_ship_way", "_law_lying", "_law_hop"] (defScope sBe) := ⟨rfl, rfl, rfl, by decide +kernel, rfl, by decide +kernel, by decide +kernel⟩
def spBe (K : PySem.W.Frag) : Sp := fun vs H Q _ => ∃ (v u : V) (m : Addr) (i : Nat) (r : Bool) (c : Cn) (s : Sn) (B : Int), vs = [v, u, .ref m] ∧ Dp K H v (cnD c) ∧ SnAny K H u s ∧ Sq2 K H m (mvV (i, r)) ∧ i < c.ls.length ∧ okCn 100 100 c ∧ okSn c B s ∧ ∀ v' H', Same H H' → Dp K H' v' (snD (goneS c s i r)) → Q v' H'
theorem ok_be {f fe : Addr} {fd fde : FuncData} {k : Nat} (F : Fun K "_law_behind" "_law_behind" sBe f fd) (LF : Fns P w K mg base k "_law_from_to" ["_law_ship_way", "_law_lying", "_law_hop"] (spLF K) fe fde) (m_list : mg "list" = none) (m_int : mg "int" = none) (m_tuple : mg "tuple" = none) : FnOk P w K mg base CX0 (k + 1) f fd ["_law_ship_way", "_law_lying", "_law_hop"] (spBe K) := by
  refine F.ok scBe (fun vs H Q E h => ?_) (fun cdv A outer s H vs Q E hr h => ?_)
  · obtain ⟨v, u, m, i, r, c, s, B, rfl, _⟩ := h
    rfl
  obtain ⟨v, u, m, i, r, c, s, B, rfl, hc, hs, hm, hi, okc, oks, q⟩ := h
  refine ⟨_, (pss_cons (ps_asg (pe_fn LF hr rfl (pa_cons (pv 0) (pa_cons (pv 1) (pa_cons (pv 2) pa_nil)))) (pg_any rfl (pgs_cons (pg_name (i := 3) scBe.nd rfl (.inl rfl)) (pgs_cons (pg_name (i := 4) scBe.nd rfl (.inl rfl)) pgs_nil))))
    (pss_cons (ps_par (i := 5) (j := 6) rfl scBe.nd rfl rfl (by decide) rfl rfl (pa_cons (pe_lc (own := [("_law_part", 7)]) (g := gName 7) (tt := tYes) rfl scBe.nd (pi_seq (pv 1)) (blkOk_by (own := [("_law_part", 7)]) (N := nBe) (sc := defScope sBe) (by decide +kernel)) (fun _ _ _ _ _ => (pg_name (i := 7) scBe.nd rfl (.inl rfl))) (fun _ _ _ _ _ => pts_nil) (fun _ _ _ _ _ => pe_hide (pe_callTy (r := rLstA K) call_listA rfl m_list boot_list (pa_cons (pv 7) pa_nil)))) (pa_cons (pe_callTy call_int1 rfl m_int boot_int' (pa_cons (pe_cmpR op_eq (pe_ix (r := rIxA K) ix_any (pv 2) pe_int (fun _ _ => rfl)) pe_str (nomark _)) pa_nil)) pa_nil)) rfl)
    (pss_cons (ps_asg (pe_op op_sub (pe_ix (r := rIxA K) ix_any (pe_ix (r := rIxA K) ix_any (pv 5) (pv 6) (fun _ _ => rfl)) (pv 3) (fun _ _ => rfl)) pe_int) (pg_sub (pe_ix (r := rIxA K) ix_any (pv 5) (pv 6) (fun _ _ => rfl)) (pv 3) set_list))
    (pss_cons (ps_asg (pe_op op_add (pe_ix (r := rIxA K) ix_any (pe_ix (r := rIxA K) ix_any (pv 5) (pv 6) (fun _ _ => rfl)) (pv 4) (fun _ _ => rfl)) pe_int) (pg_sub (pe_ix (r := rIxA K) ix_any (pv 5) (pv 6) (fun _ _ => rfl)) (pv 4) set_list))
    (pss_cons (ps_asg (pe_op op_sub pe_int (pe_ix (r := rIxA K) ix_any (pe_ix (r := rIxA K) ix_any (pv 5) pe_int (fun _ _ => rfl)) (pe_ix (r := rIxA K) ix_any (pv 2) pe_int (fun _ _ => rfl)) (fun _ _ => rfl))) (pg_sub (pe_ix (r := rIxA K) ix_any (pv 5) pe_int (fun _ _ => rfl)) (pe_ix (r := rIxA K) ix_any (pv 2) pe_int (fun _ _ => rfl)) set_list))
    (pss_one (ps_ret (pe_callTy (r := rTupA K) call_tupleA rfl m_tuple boot_tuple (pa_cons (pe_lc (own := [("_law_part", 7)]) (g := gName 7) (tt := tYes) rfl scBe.nd (pi_seq (pv 5)) (blkOk_by (own := [("_law_part", 7)]) (N := nBe) (sc := defScope sBe) (by decide +kernel)) (fun _ _ _ _ _ => (pg_name (i := 7) scBe.nd rfl (.inl rfl))) (fun _ _ _ _ _ => pts_nil) (fun _ _ _ _ _ => pe_hide (pe_callTy (r := rTupA K) call_tupleA rfl m_tuple boot_tuple (pa_cons (pv 7) pa_nil)))) pa_nil))))))))), ?_⟩
  refine ⟨_, rfl, _, rfl, _, rfl, v, u, m, i, r, c, s, rfl, hc, hs, hm, hi, by rw [oks.n]; exact hi, fun p H1 s1 np ep => ?_⟩
  refine ⟨p, _, rfl, .inr (.inl (.inl ep)), rfl, _, _, rfl, _, _, rfl, rfl, ?_⟩
  refine at_s (σ' := [some v, some u, some (.ref m), some (.int (fromTo c s i r).1), some (.int (fromTo c s i r).2), none, none, none]) rfl ?_
  obtain ⟨b, br, bb, bl, rfl, hb, hbr, hbb, hbl⟩ := (hs.same s1).ex
  have hpart : ∀ (j : Nat) (x : V), [V.ref br, V.ref bb, V.ref bl][j]? = some x → ∃ z, x = .ref z ∧ Sq2 K H1 z (((trip s).getD j []).map V.int) := by
    intro j x hx
    match j, hx with
    | 0, hx => exact ⟨br, (Option.some.inj hx).symm, hbr⟩
    | 1, hx => exact ⟨bb, (Option.some.inj hx).symm, hbb⟩
    | 2, hx => exact ⟨bl, (Option.some.inj hx).symm, hbl⟩
    | j + 3, hx => simp at hx
  refine ⟨_, rfl, b, _, rfl, hb, fun J wk => lc_acc wk (fun j acc F => Same H1 F ∧ ∃ ls : List Addr, acc = ls.map V.ref ∧ ls.length = j ∧ Own H1 F (trip s) ls) (by show 3 < sizeLine; decide) ⟨Same.refl _, [], rfl, rfl, ⟨List.Pairwise.nil, fun q l h => by simp at h⟩⟩ (fun j F D acc iv nF => ?_) (fun j x D acc F H' hj nD iv nF hy B hB => ?_) (fun D ys F nD iv nF hyl => ?_)⟩
  · have sD : Same _ (upd F D (.lst acc)) := iv.1.trans (same_new nF)
    exact ⟨fun _ z => sD.seq z, fun z => Same.tup sD z⟩
  · obtain ⟨rfl, hx⟩ := hy
    obtain ⟨sF, ls, rfl, ll, ow⟩ := iv
    obtain ⟨z, rfl, hz⟩ := hpart j x hx
    refine hB _ F rfl nF fun Qt hq => ?_
    refine ⟨_, rfl, z, _, rfl, Same.sq2 sF hz, fun l nl => hq _ _ ⟨sF.trans (same_new nl), ls ++ [l], by rw [List.map_append]; rfl, by rw [List.length_append, ll]; rfl, ?_⟩⟩
    have := ow.snoc sF nl
    rw [ll] at this; exact this
  obtain ⟨sF, ls, rfl, ll, ow⟩ := iv
  obtain ⟨l0, l1, l2, rfl⟩ : ∃ l0 l1 l2, ls = [l0, l1, l2] := by
    match ls, ll with
    | [l0, l1, l2], _ => exact ⟨l0, l1, l2, rfl⟩
  obtain ⟨n0, f0⟩ := ow.at_ 0 l0 rfl
  obtain ⟨n1, f1⟩ := ow.at_ 1 l1 rfl
  obtain ⟨n2, f2⟩ := ow.at_ 2 l2 rfl
  have d01 : l0 ≠ l1 := fun z => by have := ow.nd; rw [z] at this; simp at this
  have d02 : l0 ≠ l2 := fun z => by have := ow.nd; rw [z] at this; simp at this
  have d12 : l1 ≠ l2 := fun z => by have := ow.nd; rw [z] at this; simp at this
  have f0' : F l0 = some (.lst (s.rs.map V.int)) := f0
  have f1' : F l1 = some (.lst (s.bs.map V.int)) := f1
  have f2' : F l2 = some (.lst (s.ls.map V.int)) := f2
  have sD : Same F (upd F D (.lst ([l0, l1, l2].map V.ref))) := same_new nF
  have g0 := sD _ _ f0'
  have g1 := sD _ _ f1'
  have g2 := sD _ _ f2'
  have eD : (upd F D (.lst ([l0, l1, l2].map V.ref))) D = some (.lst [.ref l0, .ref l1, .ref l2]) := upd_same
  have h0D : l0 ≠ D := ne_of_none f0' nF
  have h1D : l1 ≠ D := ne_of_none f1' nF
  have h2D : l2 ≠ D := ne_of_none f2' nF
  have s1D := sF.trans sD
  have hmD : Sq2 K (upd F D (.lst ([l0, l1, l2].map V.ref))) m (mvV (i, r)) := Same.sq2 (s1.trans s1D) hm
  generalize upd F D (.lst ([l0, l1, l2].map V.ref)) = H2 at sD g0 g1 g2 eD s1D hmD
  -- k
  refine ⟨_, rfl, m, _, _, _, rfl, rfl, hmD, rfl, rfl, .inr ⟨_, rfl, ?_⟩⟩
  rw [blI_eq]
  refine ⟨_, _, rfl, ?_⟩
  refine at_s (σ' := [some v, some (.ref b), some (.ref m), some (.int (fromTo c s i r).1), some (.int (fromTo c s i r).2), some (.ref D), some (.int (blI r)), none]) rfl ?_
  have fo := fromTo_ok okc (s := s) hi r
  have hlb := boats_len oks r
  have s3i : (i : Int) < s.ls.length := by rw [oks.n]; omega
  obtain ⟨lw, hlw, ew, hwD, hw2, hnw⟩ : ∃ lw, atI [V.ref l0, V.ref l1, V.ref l2] (blI r) = some (.ref lw) ∧ H2 lw = some (.lst ((boatsW r s).map V.int)) ∧ lw ≠ D ∧ lw ≠ l2 ∧ H1 lw = none := by
    cases r with
    | true => exact ⟨l0, rfl, g0, h0D, d02, n0⟩
    | false => exact ⟨l1, rfl, g1, h1D, d12, n1⟩
  have L1 : (fromTo c s i r).1 < ((boatsW r s).length : Int) := by rw [hlb]; exact fo.1.2
  have L2 : (fromTo c s i r).2 < ((boatsW r s).length : Int) := by rw [hlb]; exact fo.2.2
  refine ⟨_, rfl, _, rfl, D, _, _, _, rfl, rfl, .inl (SqL.of eD), hlw, _, rfl, lw, _, _, _, rfl, rfl, .inl (SqL.of ew), gt_at fo.1.1 L1, _, _, rfl, rfl, ?_⟩
  refine ⟨_, rfl, _, rfl, D, _, _, _, rfl, rfl, .inl (SqL.of eD), hlw, _, rfl, lw, _, _, _, rfl, rfl, ew, set_at (x := 0) fo.1.1 L1, ?_⟩
  rw [set_ints]
  have L2' : (fromTo c s i r).2 < (((boatsW r s).set (fromTo c s i r).1.toNat (gt (boatsW r s) (fromTo c s i r).1 - 1)).length : Int) := by rw [List.length_set]; exact L2
  have eD2 : upd H2 lw (.lst (((boatsW r s).set (fromTo c s i r).1.toNat (gt (boatsW r s) (fromTo c s i r).1 - 1)).map V.int)) D = some (.lst [.ref l0, .ref l1, .ref l2]) := by rw [upd_ne (Ne.symm hwD)]; exact eD
  refine ⟨_, rfl, _, rfl, D, _, _, _, rfl, rfl, .inl (SqL.of eD2), hlw, _, rfl, lw, _, _, _, rfl, rfl, .inl (SqL.of upd_same), gt_at fo.2.1 L2', _, _, rfl, rfl, ?_⟩
  refine ⟨_, rfl, _, rfl, D, _, _, _, rfl, rfl, .inl (SqL.of eD2), hlw, _, rfl, lw, _, _, _, rfl, rfl, upd_same, set_at (x := 0) fo.2.1 L2', ?_⟩
  rw [set_ints, upd_upd, show ((boatsW r s).set (fromTo c s i r).1.toNat (gt (boatsW r s) (fromTo c s i r).1 - 1)).set (fromTo c s i r).2.toNat (gt ((boatsW r s).set (fromTo c s i r).1.toNat (gt (boatsW r s) (fromTo c s i r).1 - 1)) (fromTo c s i r).2 + 1) = mov (boatsW r s) (fromTo c s i r) from rfl]
  have eD3 : upd H2 lw (.lst ((mov (boatsW r s) (fromTo c s i r)).map V.int)) D = some (.lst [.ref l0, .ref l1, .ref l2]) := by rw [upd_ne (Ne.symm hwD)]; exact eD
  have e23 : upd H2 lw (.lst ((mov (boatsW r s) (fromTo c s i r)).map V.int)) l2 = some (.lst (s.ls.map V.int)) := by rw [upd_ne (Ne.symm hw2)]; exact g2
  have hm3 : Sq2 K (upd H2 lw (.lst ((mov (boatsW r s) (fromTo c s i r)).map V.int))) m (mvV (i, r)) := Same.sq2 (fun c' o e => by rw [upd_ne (ne_of_none e hnw)]; exact s1D _ _ e) (Same.sq2 s1 hm)
  refine ⟨_, rfl, D, _, _, _, rfl, rfl, .inl (SqL.of eD3), rfl, _, rfl, m, _, _, _, rfl, rfl, hm3, rfl, l2, _, _, _, rfl, rfl, .inl (SqL.of e23), gt_at (by omega) s3i, _, _, rfl, rfl, ?_⟩
  refine ⟨_, rfl, D, _, _, _, rfl, rfl, .inl (SqL.of eD3), rfl, _, rfl, m, _, _, _, rfl, rfl, hm3, rfl, l2, _, _, _, rfl, rfl, e23, set_at (x := 0) (by omega) s3i, ?_⟩
  rw [set_ints]
  -- three lists behind it
  have S4 : Same H1 (upd (upd H2 lw (.lst ((mov (boatsW r s) (fromTo c s i r)).map V.int))) l2 (.lst ((flip1 s.ls i).map V.int))) := fun c' o e => by
    rw [upd_ne (ne_of_none e n2), upd_ne (ne_of_none e hnw)]; exact s1D _ _ e
  have hl4 : ∀ (j : Nat) (x : V), [V.ref l0, V.ref l1, V.ref l2][j]? = some x → ∃ z, x = .ref z ∧ (upd (upd H2 lw (.lst ((mov (boatsW r s) (fromTo c s i r)).map V.int))) l2 (.lst ((flip1 s.ls i).map V.int))) z = some (.lst (((trip (goneS c s i r)).getD j []).map V.int)) := by
    intro j x hx
    cases r with
    | true =>
      have ew0 : lw = l0 := by have := Option.some.inj hlw; exact (V.ref.inj this).symm
      subst ew0
      match j, hx with
      | 0, hx => exact ⟨lw, (Option.some.inj hx).symm, by rw [upd_ne d02, upd_same]; rfl⟩
      | 1, hx => exact ⟨l1, (Option.some.inj hx).symm, by rw [upd_ne d12, upd_ne (Ne.symm d01)]; exact g1⟩
      | 2, hx => exact ⟨l2, (Option.some.inj hx).symm, upd_same⟩
      | j + 3, hx => simp at hx
    | false =>
      have ew0 : lw = l1 := by have := Option.some.inj hlw; exact (V.ref.inj this).symm
      subst ew0
      match j, hx with
      | 0, hx => exact ⟨l0, (Option.some.inj hx).symm, by rw [upd_ne d02, upd_ne d01]; exact g0⟩
      | 1, hx => exact ⟨lw, (Option.some.inj hx).symm, by rw [upd_ne d12, upd_same]; rfl⟩
      | 2, hx => exact ⟨l2, (Option.some.inj hx).symm, upd_same⟩
      | j + 3, hx => simp at hx
  have eD4 : upd (upd H2 lw (.lst ((mov (boatsW r s) (fromTo c s i r)).map V.int))) l2 (.lst ((flip1 s.ls i).map V.int)) D = some (.lst [.ref l0, .ref l1, .ref l2]) := by rw [upd_ne (Ne.symm h2D)]; exact eD3
  have hfl : s.ls.set ((i : Nat) : Int).toNat (1 - gt s.ls ((i : Nat) : Int)) = flip1 s.ls i := by unfold flip1; rw [show ((i : Nat) : Int).toNat = i by omega]
  rw [hfl]
  generalize upd (upd H2 lw (.lst ((mov (boatsW r s) (fromTo c s i r)).map V.int))) l2 (.lst ((flip1 s.ls i).map V.int)) = H4 at S4 hl4 eD4
  refine ⟨_, rfl, D, _, rfl, .inl (SqL.of eD4), fun J wk => lc_map wk Same (fun a b => a.trans b) (fun j y F => ∃ zs, (trip (goneS c s i r))[j]? = some zs ∧ Dp K F y (.tuple (intsD zs))) (fun j y A B s ⟨zs, e, p⟩ => ⟨zs, e, Dp.same s _ p⟩) (by show 3 < sizeLine; decide) (Same.refl _) (fun F D acc sF nF => ?_) (fun j x D acc F H' hj nD sF nF hy B hB => ?_) (fun D2 ys F nD sF nF hyl hR => ?_)⟩
  · have sD : Same _ (upd F D (.lst acc)) := sF.trans (same_new nF)
    exact ⟨fun _ z => sD.seq z, fun z => Same.tup sD z⟩
  · obtain ⟨rfl, hx⟩ := hy
    obtain ⟨z, rfl, hz⟩ := hl4 j x hx
    refine hB _ F rfl nF fun Qt hq => ?_
    have htr : (trip (goneS c s i r))[j]? = some ((trip (goneS c s i r)).getD j []) := by
      have : j < (trip (goneS c s i r)).length := hj
      rw [List.getD_eq_getElem?_getD, List.getElem?_eq_getElem this]; rfl
    exact ⟨_, rfl, z, _, rfl, .inl ⟨SqL.of (sF _ _ hz), fun p np => hq _ _ (same_new np) ⟨_, htr, .tup (.inl (.inl upd_same)) (dp_ints' _)⟩⟩⟩
  · obtain ⟨y0, y1, y2, rfl⟩ : ∃ y0 y1 y2, ys = [y0, y1, y2] := by
      match ys, hyl with
      | [y0, y1, y2], _ => exact ⟨y0, y1, y2, rfl⟩
    obtain ⟨z0, e0, p0⟩ := hR 0 y0 rfl
    obtain ⟨z1, e1, p1⟩ := hR 1 y1 rfl
    obtain ⟨z2, e2, p2⟩ := hR 2 y2 rfl
    cases (show some (goneS c s i r).rs = some z0 from e0)
    cases (show some (goneS c s i r).bs = some z1 from e1)
    cases (show some (goneS c s i r).ls = some z2 from e2)
    have sa : Same F (upd F D2 (.lst [y0, y1, y2])) := same_new nF
    refine ⟨D2, _, rfl, .inl ⟨SqL.of upd_same, fun t nt => ?_⟩⟩
    have sb : Same _ (upd (upd F D2 (.lst [y0, y1, y2])) t (.tup [y0, y1, y2])) := same_new nt
    have sab := sa.trans sb
    exact q _ _ (s1.trans (S4.trans (sF.trans sab))) (.tup (.inl (.inl upd_same)) (.cons (Dp.same sab _ p0) (.cons (Dp.same sab _ p1) (.cons (Dp.same sab _ p2) .nil))))
end
end XL
namespace XL
open PySem PySem.Spec PyProof.Rows L2
/-! ### rows of goings -/
def goM (c : Cn) (s : Sn) (m : Mv) : Sn := goneS c s m.1 m.2
def runS (c : Cn) (s : Sn) (ms : List Mv) : Sn := ms.foldl (goM c) s
def okRun (c : Cn) : Sn → List Mv → Prop
  | _, [] => True
  | s, m :: ms => (m.1 < c.ls.length ∧ hasB c s m.1 m.2 = true) ∧ okRun c (goM c s m) ms
theorem runS_snoc (c : Cn) (s : Sn) (ms : List Mv) (m : Mv) : runS c s (ms ++ [m]) = goM c (runS c s ms) m := by unfold runS; rw [List.foldl_append]; rfl
theorem okRun_snoc {c : Cn} {m : Mv} : ∀ {s : Sn} {ms : List Mv}, okRun c s ms → m.1 < c.ls.length → hasB c (runS c s ms) m.1 m.2 = true → okRun c s (ms ++ [m])
  | s, [], _, h1, h2 => ⟨⟨h1, h2⟩, trivial⟩
  | s, m' :: ms, h, h1, h2 => ⟨h.1, okRun_snoc (s := goM c s m') (ms := ms) h.2 h1 h2⟩
theorem runS_ok {c : Cn} {W U : Nat} (okc : okCn W U c) : ∀ {ms : List Mv} {s : Sn} {B : Int}, okSn c B s → okRun c s ms → okSn c (B + ms.length) (runS c s ms)
  | [], s, B, h, _ => by
    show okSn c (B + ((0 : Nat) : Int)) s
    rw [show B + ((0 : Nat) : Int) = B by omega]; exact h
  | m :: ms, s, B, h, r => by
    have h2 := runS_ok okc (ms := ms) (goneS_ok okc h r.1.1 m.2 r.1.2) r.2
    rw [List.length_cons, show B + ((ms.length + 1 : Nat) : Int) = B + 1 + (ms.length : Int) by omega]
    exact h2
def bump (zs : List Int) (i : Nat) (x : Int) : List Int := zs.set i (gt zs i + x)
theorem bump_len (zs : List Int) (i : Nat) (x : Int) : (bump zs i x).length = zs.length := by unfold bump; rw [List.length_set]
abbrev Nt := List Int × List Int
/-- one going in the book -/
def note (s : Sn) (p : Nt) (m : Mv) : Nt := if m.2 = true then (bump p.1 m.1 (1 - 2 * gt s.ls m.1), p.2) else (p.1, bump p.2 m.1 (1 - 2 * gt s.ls m.1))
def book (c : Cn) (s : Sn) (p : Nt) (ms : List Mv) : Sn × Nt := ms.foldl (fun q m => (goM c q.1 m, note q.1 q.2 m)) (s, p)
theorem book_snoc (c : Cn) (s : Sn) (p : Nt) (ms : List Mv) (m : Mv) : book c s p (ms ++ [m]) = (goM c (book c s p ms).1 m, note (book c s p ms).1 (book c s p ms).2 m) := by unfold book; rw [List.foldl_append]; rfl
theorem book_run (c : Cn) : ∀ (ms : List Mv) (s : Sn) (p : Nt), (book c s p ms).1 = runS c s ms
  | [], _, _ => rfl
  | m :: ms, s, p => by
    show (book c (goM c s m) (note s p m) ms).1 = runS c (goM c s m) ms
    exact book_run c ms _ _
def zer (n : Nat) : List Int := List.replicate n 0
theorem rep_zero : ∀ n : Nat, (List.replicate n [V.int 0]).flatten = (zer n).map V.int
  | 0 => rfl
  | n + 1 => by
    rw [List.replicate_succ, List.flatten_cons, rep_zero n]
    show V.int 0 :: (zer n).map V.int = (zer (n + 1)).map V.int
    unfold zer
    rw [List.replicate_succ]; rfl
theorem note_len (s : Sn) (p : Nt) (m : Mv) : (note s p m).1.length = p.1.length ∧ (note s p m).2.length = p.2.length := by
  unfold note
  split
  · exact ⟨bump_len _ _ _, rfl⟩
  · exact ⟨rfl, bump_len _ _ _⟩
theorem book_len (c : Cn) : ∀ (ms : List Mv) (s : Sn) (p : Nt), (book c s p ms).2.1.length = p.1.length ∧ (book c s p ms).2.2.length = p.2.length
  | [], _, _ => ⟨rfl, rfl⟩
  | m :: ms, s, p => by
    have h := book_len c ms (goM c s m) (note s p m)
    have h2 := note_len s p m
    show (book c (goM c s m) (note s p m) ms).2.1.length = _ ∧ (book c (goM c s m) (note s p m) ms).2.2.length = _
    exact ⟨h.1.trans h2.1, h.2.trans h2.2⟩
/-! ### goings as data -/
theorem wS_ok (r : Bool) : PyData.strOk (wS r) = true := by cases r <;> decide +kernel
theorem mv_lay (m : Mv) : (mvD m).canLay0 = true := by simp [mvD, PyData.canLay0, PyData.canLayAll0, wS_ok]
theorem mv_depth (m : Mv) : (mvD m).depth = 1 := by simp [mvD, PyData.depth, PyData.depthAll]
theorem mvs_lay : ∀ ms : List Mv, PyData.canLayAll0 (ms.map mvD) = true
  | [] => by simp [PyData.canLayAll0]
  | m :: ms => by simp [PyData.canLayAll0, mv_lay m, mvs_lay ms]
theorem mvs_depth : ∀ ms : List Mv, PyData.depthAll (ms.map mvD) ≤ 1
  | [] => by simp [PyData.depthAll]
  | m :: ms => by
    have h1 := mvs_depth ms; have h2 := mv_depth m
    simp only [List.map_cons, PyData.depthAll]; omega
theorem mvs_shaped (ms : List Mv) : SeqAt.shaped (.list (ms.map mvD)) = true := by
  have h1 := mvs_depth ms
  have h2 : PyData.depth (.list (ms.map mvD)) ≤ 64 := by simp only [PyData.depth]; omega
  show (PyData.canLay0 (.list (ms.map mvD)) && decide (PyData.depth (.list (ms.map mvD)) ≤ 64)) = true
  rw [Bool.and_eq_true]; exact ⟨by simp only [PyData.canLay0]; exact mvs_lay ms, decide_eq_true h2⟩
theorem mv_shaped (m : Mv) : SeqAt.shaped (mvD m) = true := by
  show (PyData.canLay0 (mvD m) && decide (PyData.depth (mvD m) ≤ 64)) = true
  rw [mv_lay, mv_depth]; rfl
theorem mvs_nil (ms : List Mv) : PyData.eqv (.list (ms.map mvD)) (.list []) = ms.isEmpty := by
  cases ms with
  | nil => simp [PyData.eqv, PyData.eqvAll]
  | cons l ls => simp [PyData.eqv, PyData.eqvAll]
section
variable {P : Program} {w : World} {K : PySem.W.Frag} {mg : Str → Option Value} {base : Heap}
theorem MvAt.move {H H' : Hp} {a : Addr} {ms : List Mv} {us : List V} (h : MvAt H a ms us) (ea : H' a = some (.lst us)) (t : Tp H H') : MvAt H' a ms us := ⟨ea, h.l, fun j u hu => by
  obtain ⟨x, m, e1, e2, e3⟩ := h.d j u hu
  exact ⟨x, m, e1, e2, t.t _ _ e3⟩⟩
end
end XL
namespace XL
open PySem PySem.Spec PyProof.Rows L2
abbrev sTupled : Stmt := topS 1
abbrev sGA : Stmt := topS 14
/-! ### going back -/
theorem gt_set_self {zs : List Int} {j x : Int} (h0 : 0 ≤ j) (h1 : j < zs.length) : gt (zs.set j.toNat x) j = x := by
  unfold gt
  rw [List.getD_eq_getElem?_getD, List.getElem?_set_self (by omega)]; rfl
theorem gt_set_ne {zs : List Int} {i j x : Int} (h : i.toNat ≠ j.toNat) : gt (zs.set i.toNat x) j = gt zs j := by
  unfold gt
  rw [List.getD_eq_getElem?_getD, List.getElem?_set_ne h, List.getD_eq_getElem?_getD]
theorem set_gt {zs : List Int} {j : Int} (h0 : 0 ≤ j) (h1 : j < zs.length) : zs.set j.toNat (gt zs j) = zs := by
  have h := gt_get h0 h1
  rw [List.getElem?_eq_some_iff] at h
  obtain ⟨hl, e⟩ := h
  rw [← e]
  exact List.set_getElem_self hl
theorem mov_back {zs : List Int} {p : Int × Int} (h0 : 0 ≤ p.1) (h1 : p.1 < zs.length) (h2 : 0 ≤ p.2) (h3 : p.2 < zs.length) : mov (mov zs p) (p.2, p.1) = zs := by
  have hb : (zs.set p.1.toNat (gt zs p.1 - 1)).length = zs.length := List.length_set ..
  unfold mov
  dsimp only
  rw [gt_set_self h2 (by rw [hb]; exact h3), List.set_set, show gt (zs.set p.1.toNat (gt zs p.1 - 1)) p.2 + 1 - 1 = gt (zs.set p.1.toNat (gt zs p.1 - 1)) p.2 by omega, set_gt h2 (by rw [hb]; exact h3), gt_set_self h0 h1, List.set_set, show gt zs p.1 - 1 + 1 = gt zs p.1 by omega, set_gt h0 h1]
theorem flip_gt {zs : List Int} {i : Nat} (h : i < zs.length) : gt (flip1 zs i) (i : Int) = 1 - gt zs i := by
  have := gt_set_self (zs := zs) (j := (i : Int)) (x := 1 - gt zs i) (by omega) (by omega)
  rw [show ((i : Int)).toNat = i by omega] at this
  exact this
theorem flip_flip {zs : List Int} {i : Nat} (h : i < zs.length) : flip1 (flip1 zs i) i = zs := by
  have e := flip_gt h
  show (flip1 zs i).set i (1 - gt (flip1 zs i) (i : Int)) = zs
  rw [e]
  unfold flip1
  rw [List.set_set, show 1 - (1 - gt zs (i : Int)) = gt zs (i : Int) by omega]
  have := set_gt (zs := zs) (j := (i : Int)) (by omega) (by omega)
  rw [show ((i : Int)).toNat = i by omega] at this
  exact this
theorem goneS_ls (c : Cn) (s : Sn) (i : Nat) (r : Bool) : (goneS c s i r).ls = flip1 s.ls i := by unfold goneS; split <;> rfl
theorem goneS_boats (c : Cn) (s : Sn) (i : Nat) (r : Bool) : boatsW r (goneS c s i r) = mov (boatsW r s) (fromTo c s i r) := by cases r <;> rfl
theorem fromTo_back {c : Cn} {B : Int} {s : Sn} (ok : okSn c B s) {i : Nat} (hi : i < c.ls.length) (r : Bool) : fromTo c (goneS c s i r) i r = ((fromTo c s i r).2, (fromTo c s i r).1) := by
  have hl : i < s.ls.length := by rw [ok.n]; exact hi
  unfold fromTo
  rw [goneS_ls, flip_gt hl]
  rcases ok.l0 _ (gt_mem (zs := s.ls) (j := (i : Int)) (by omega) (by omega)) with e | e
  · rw [e, if_pos rfl, if_neg (by decide)]
  · rw [e, if_neg (by decide : ¬ (1 : Int) = 0), if_pos (by decide)]
theorem go_back {c : Cn} {W U : Nat} {B : Int} {s : Sn} (okc : okCn W U c) (ok : okSn c B s) {i : Nat} (hi : i < c.ls.length) (r : Bool) (h : hasB c s i r = true) : hasB c (goneS c s i r) i r = true ∧ goneS c (goneS c s i r) i r = s := by
  have f := fromTo_ok okc (s := s) hi r
  have hl := boats_len ok r
  have hls : i < s.ls.length := by rw [ok.n]; exact hi
  have eb := fromTo_back ok hi r
  have hp : gt (boatsW r s) (fromTo c s i r).1 > 0 := of_decide_eq_true h
  have h1 : (fromTo c s i r).1 < ((boatsW r s).length : Int) := by rw [hl]; exact f.1.2
  have h3 : (fromTo c s i r).2 < ((boatsW r s).length : Int) := by rw [hl]; exact f.2.2
  have nn : ∀ x ∈ boatsW r s, 0 ≤ x := fun x hx => by
    cases r with
    | true => exact (ok.r0 x hx).1
    | false => exact (ok.b0 x hx).1
  constructor
  · unfold hasB
    rw [goneS_boats, eb]
    refine decide_eq_true ?_
    show gt (mov (boatsW r s) (fromTo c s i r)) (fromTo c s i r).2 > 0
    have e : gt (mov (boatsW r s) (fromTo c s i r)) (fromTo c s i r).2 = gt ((boatsW r s).set (fromTo c s i r).1.toNat (gt (boatsW r s) (fromTo c s i r).1 - 1)) (fromTo c s i r).2 + 1 := gt_set_self f.2.1 (by rw [List.length_set]; exact h3)
    rw [e]
    have hm := gt_mem (zs := (boatsW r s).set (fromTo c s i r).1.toNat (gt (boatsW r s) (fromTo c s i r).1 - 1)) (j := (fromTo c s i r).2) f.2.1 (by rw [List.length_set]; exact h3)
    rcases mem_set_or hm with q | q
    · have := nn _ q; omega
    · omega
  · have em := mov_back (zs := boatsW r s) (p := fromTo c s i r) f.1.1 h1 f.2.1 h3
    have ef := flip_flip hls
    have e1 : goneS c (goneS c s i r) i r = (if r = true then ⟨mov (boatsW r (goneS c s i r)) (fromTo c (goneS c s i r) i r), (goneS c s i r).bs, flip1 (goneS c s i r).ls i⟩ else ⟨(goneS c s i r).rs, mov (boatsW r (goneS c s i r)) (fromTo c (goneS c s i r) i r), flip1 (goneS c s i r).ls i⟩) := by cases r <;> rfl
    rw [e1, goneS_boats, eb, em, goneS_ls, ef]
    cases r <;> rfl
theorem run_back {c : Cn} {W U : Nat} (okc : okCn W U c) : ∀ {ms : List Mv} {s : Sn} {B : Int}, okSn c B s → okRun c s ms → okRun c (runS c s ms) ms.reverse ∧ runS c (runS c s ms) ms.reverse = s
  | [], s, B, _, _ => ⟨trivial, rfl⟩
  | m :: ms, s, B, ok, h => by
    obtain ⟨a, b⟩ := run_back okc (ms := ms) (goneS_ok okc ok h.1.1 m.2 h.1.2) h.2
    obtain ⟨x, y⟩ := go_back okc ok h.1.1 m.2 h.1.2
    have e : runS c s (m :: ms) = runS c (goM c s m) ms := rfl
    rw [e, List.reverse_cons]
    refine ⟨okRun_snoc a h.1.1 ?_, ?_⟩
    · rw [show runS c (runS c (goM c s m) ms) ms.reverse = goM c s m from b]; exact x
    · rw [runS_snoc, show runS c (runS c (goM c s m) ms) ms.reverse = goM c s m from b]; exact y
/-! ### books by sums -/
def dl (s : Sn) (m : Mv) (i : Nat) (r : Bool) : Int := if m = (i, r) then 1 - 2 * gt s.ls i else 0
def tot (c : Cn) (i : Nat) (r : Bool) : Sn → List Mv → Int
  | _, [] => 0
  | s, m :: ms => dl s m i r + tot c i r (goM c s m) ms
theorem tot_snoc (c : Cn) (i : Nat) (r : Bool) (m : Mv) : ∀ (ms : List Mv) (s : Sn), tot c i r s (ms ++ [m]) = tot c i r s ms + dl (runS c s ms) m i r
  | [], s => by show dl s m i r + 0 = 0 + dl s m i r; omega
  | m' :: ms, s => by
    show dl s m' i r + tot c i r (goM c s m') (ms ++ [m]) = dl s m' i r + tot c i r (goM c s m') ms + dl (runS c (goM c s m') ms) m i r
    rw [tot_snoc c i r m ms]; omega
theorem tot_back {c : Cn} {W U : Nat} (okc : okCn W U c) (i : Nat) (r : Bool) : ∀ {ms : List Mv} {s : Sn} {B : Int}, okSn c B s → okRun c s ms → tot c i r (runS c s ms) ms.reverse = 0 - tot c i r s ms
  | [], s, B, _, _ => rfl
  | m :: ms, s, B, ok, h => by
    have ok1 := goneS_ok okc ok h.1.1 m.2 h.1.2
    have ih := tot_back okc i r (ms := ms) (s := goM c s m) ok1 h.2
    have bk := (run_back okc (ms := ms) (s := goM c s m) ok1 h.2).2
    have e : runS c s (m :: ms) = runS c (goM c s m) ms := rfl
    rw [e, List.reverse_cons, tot_snoc, ih, bk]
    show _ = 0 - (dl s m i r + tot c i r (goM c s m) ms)
    have hd : dl (goM c s m) m i r = 0 - dl s m i r := by
      unfold dl
      by_cases em : m = (i, r)
      · rw [if_pos em, if_pos em]
        have e2 : gt (goM c s m).ls (i : Int) = 1 - gt s.ls i := by
          unfold goM
          rw [goneS_ls, em]
          exact flip_gt (by rw [ok.n]; have := h.1.1; rw [em] at this; exact this)
        rw [e2]; omega
      · rw [if_neg em, if_neg em]; rfl
    rw [hd]; omega
theorem bump_gt {zs : List Int} {i j : Nat} {x : Int} (hi : i < zs.length) : gt (bump zs i x) (j : Int) = gt zs j + (if i = j then x else 0) := by
  unfold bump
  by_cases e : i = j
  · subst e
    have := gt_set_self (zs := zs) (j := (i : Int)) (x := gt zs i + x) (by omega) (by omega)
    rw [show ((i : Int)).toNat = i by omega] at this
    rw [if_pos rfl]; exact this
  · have := gt_set_ne (zs := zs) (i := (i : Int)) (j := (j : Int)) (x := gt zs i + x) (by omega)
    rw [show ((i : Int)).toNat = i by omega] at this
    rw [if_neg e, this]; omega
theorem book_tot (c : Cn) (j : Nat) : ∀ (ms : List Mv) (s : Sn) (p : Nt), okRun c s ms → p.1.length = c.ls.length → p.2.length = c.ls.length → gt (book c s p ms).2.1 (j : Int) = gt p.1 j + tot c j true s ms ∧ gt (book c s p ms).2.2 (j : Int) = gt p.2 j + tot c j false s ms
  | [], s, p, _, _, _ => by
    show gt p.1 (j : Int) = gt p.1 j + 0 ∧ gt p.2 (j : Int) = gt p.2 j + 0
    omega
  | m :: ms, s, p, h, h1, h2 => by
    obtain ⟨mi, mr⟩ := m
    have nl := note_len s p (mi, mr)
    obtain ⟨a, b⟩ := book_tot c j ms (goM c s (mi, mr)) (note s p (mi, mr)) h.2 (nl.1.trans h1) (nl.2.trans h2)
    have hm : mi < c.ls.length := h.1.1
    show gt (book c (goM c s (mi, mr)) (note s p (mi, mr)) ms).2.1 (j : Int) = gt p.1 j + (dl s (mi, mr) j true + tot c j true (goM c s (mi, mr)) ms) ∧ gt (book c (goM c s (mi, mr)) (note s p (mi, mr)) ms).2.2 (j : Int) = gt p.2 j + (dl s (mi, mr) j false + tot c j false (goM c s (mi, mr)) ms)
    rw [a, b]
    cases mr with
    | true =>
      have e1 : gt (note s p (mi, true)).1 (j : Int) = gt p.1 j + dl s (mi, true) j true := by
        show gt (bump p.1 mi (1 - 2 * gt s.ls mi)) (j : Int) = _
        rw [bump_gt (by rw [h1]; exact hm)]
        unfold dl
        by_cases e : mi = j
        · subst e; rw [if_pos rfl, if_pos rfl]
        · rw [if_neg e, if_neg (fun z => e (Prod.mk.inj z).1)]
      have e2 : gt (note s p (mi, true)).2 (j : Int) = gt p.2 j + dl s (mi, true) j false := by
        unfold dl
        rw [if_neg (fun z => by cases (Prod.mk.inj z).2)]
        show gt p.2 (j : Int) = gt p.2 j + 0
        omega
      rw [e1, e2]; omega
    | false =>
      have e1 : gt (note s p (mi, false)).1 (j : Int) = gt p.1 j + dl s (mi, false) j true := by
        unfold dl
        rw [if_neg (fun z => by cases (Prod.mk.inj z).2)]
        show gt p.1 (j : Int) = gt p.1 j + 0
        omega
      have e2 : gt (note s p (mi, false)).2 (j : Int) = gt p.2 j + dl s (mi, false) j false := by
        show gt (bump p.2 mi (1 - 2 * gt s.ls mi)) (j : Int) = _
        rw [bump_gt (by rw [h2]; exact hm)]
        unfold dl
        by_cases e : mi = j
        · subst e; rw [if_pos rfl, if_pos rfl]
        · rw [if_neg e, if_neg (fun z => e (Prod.mk.inj z).1)]
      rw [e1, e2]; omega
theorem gt_ext {xs ys : List Int} (hl : xs.length = ys.length) (h : ∀ j : Nat, j < xs.length → gt xs (j : Int) = gt ys (j : Int)) : xs = ys := by
  refine List.ext_getElem? fun j => ?_
  by_cases hj : j < xs.length
  · have a := gt_get (zs := xs) (j := (j : Int)) (by omega) (by omega)
    have b := gt_get (zs := ys) (j := (j : Int)) (by omega) (by omega)
    rw [show ((j : Int)).toNat = j by omega] at a b
    rw [a, b, h j hj]
  · rw [List.getElem?_eq_none (by omega), List.getElem?_eq_none (by omega)]
def bk0 (c : Cn) (s : Sn) (ms : List Mv) : Nt := (book c s (zer c.ls.length, zer c.ls.length) ms).2
theorem zer_len (n : Nat) : (zer n).length = n := by unfold zer; rw [List.length_replicate]
theorem bk0_len (c : Cn) (s : Sn) (ms : List Mv) : (bk0 c s ms).1.length = c.ls.length ∧ (bk0 c s ms).2.length = c.ls.length := by
  have h := book_len c ms s (zer c.ls.length, zer c.ls.length)
  exact ⟨h.1.trans (zer_len _), h.2.trans (zer_len _)⟩
theorem gt_map_neg {zs : List Int} {j : Nat} (h : j < zs.length) : gt (zs.map fun x => 0 - x) (j : Int) = 0 - gt zs j := by
  have a := gt_get (zs := zs) (j := (j : Int)) (by omega) (by omega)
  have b := gt_get (zs := zs.map fun x => 0 - x) (j := (j : Int)) (by omega) (by rw [List.length_map]; omega)
  rw [List.getElem?_map, a] at b
  exact (Option.some.inj b).symm
theorem bk_back {c : Cn} {W U : Nat} (okc : okCn W U c) {ms : List Mv} {s : Sn} {B : Int} (ok : okSn c B s) (h : okRun c s ms) : bk0 c (runS c s ms) ms.reverse = ((bk0 c s ms).1.map fun x => 0 - x, (bk0 c s ms).2.map fun x => 0 - x) := by
  have l1 := bk0_len c s ms
  have l2 := bk0_len c (runS c s ms) ms.reverse
  have hb := (run_back okc ok h).1
  have z0 : ∀ j : Nat, gt (zer c.ls.length) (j : Int) = 0 := fun j => by
    unfold gt zer
    rw [List.getD_eq_getElem?_getD, List.getElem?_replicate]
    split <;> rfl
  have t : ∀ j : Nat, (gt (bk0 c (runS c s ms) ms.reverse).1 (j : Int) = 0 - gt (bk0 c s ms).1 (j : Int)) ∧ (gt (bk0 c (runS c s ms) ms.reverse).2 (j : Int) = 0 - gt (bk0 c s ms).2 (j : Int)) := fun j => by
    have a := book_tot c j ms.reverse (runS c s ms) (zer c.ls.length, zer c.ls.length) hb (zer_len _) (zer_len _)
    have b := book_tot c j ms s (zer c.ls.length, zer c.ls.length) h (zer_len _) (zer_len _)
    have t1 := tot_back okc j true ok h
    have t2 := tot_back okc j false ok h
    have z := z0 j
    have a1 := a.1; have a2 := a.2; have b1 := b.1; have b2 := b.2
    rw [show (zer c.ls.length, zer c.ls.length).1 = zer c.ls.length from rfl, z, t1] at a1
    rw [show (zer c.ls.length, zer c.ls.length).2 = zer c.ls.length from rfl, z, t2] at a2
    rw [show (zer c.ls.length, zer c.ls.length).1 = zer c.ls.length from rfl, z] at b1
    rw [show (zer c.ls.length, zer c.ls.length).2 = zer c.ls.length from rfl, z] at b2
    unfold bk0
    rw [a1, a2, b1, b2]; omega
  refine Prod.ext (gt_ext (by rw [List.length_map, l1.1, l2.1]) fun j hj => ?_) (gt_ext (by rw [List.length_map, l1.2, l2.2]) fun j hj => ?_)
  · rw [gt_map_neg (by rw [l1.1, ← l2.1]; exact hj)]; exact (t j).1
  · rw [gt_map_neg (by rw [l1.2, ← l2.2]; exact hj)]; exact (t j).2
theorem okRun_app {c : Cn} : ∀ {ms ns : List Mv} {s : Sn}, okRun c s (ms ++ ns) ↔ okRun c s ms ∧ okRun c (runS c s ms) ns
  | [], ns, s => ⟨fun h => ⟨trivial, h⟩, fun h => h.2⟩
  | m :: ms, ns, s => by
    show (_ ∧ okRun c (goM c s m) (ms ++ ns)) ↔ (_ ∧ okRun c (goM c s m) ms) ∧ okRun c (runS c (goM c s m) ms) ns
    rw [okRun_app (ms := ms)]
    exact ⟨fun ⟨a, b, d⟩ => ⟨⟨a, b⟩, d⟩, fun ⟨⟨a, b⟩, d⟩ => ⟨a, b, d⟩⟩
theorem runS_app (c : Cn) (s : Sn) (ms ns : List Mv) : runS c s (ms ++ ns) = runS c (runS c s ms) ns := by unfold runS; rw [List.foldl_append]
theorem okRun_lt {c : Cn} : ∀ {ms : List Mv} {s : Sn}, okRun c s ms → ∀ m ∈ ms, m.1 < c.ls.length
  | [], _, _, m, h => by simp at h
  | m' :: ms, s, hr, m, h => by
    rcases List.mem_cons.mp h with e | e
    · rw [e]; exact hr.1.1
    · exact okRun_lt hr.2 m e
theorem take_snoc {α : Type} {xs : List α} {j : Nat} {x : α} (h : xs[j]? = some x) : xs.take (j + 1) = xs.take j ++ [x] := by rw [List.take_succ, h]; rfl
section
variable {P : Program} {w : World} {K : PySem.W.Frag} {mg : Str → Option Value} {base : Heap}
/-! ### tupled -/
theorem scTupled : FnScope ["thing", "part"] ["thing"] (defScope sTupled) := ⟨rfl, rfl, rfl, by decide +kernel, rfl, by decide +kernel, by decide +kernel⟩
def spTupled (K : PySem.W.Frag) (n : Nat) : Sp := fun vs H Q _ => ∃ (v : V) (d : PyData), vs = [v] ∧ Dp K H v d ∧ okD n d ∧ ∀ (v' : V) (H' : Hp), Same H H' → Dp K H' v' (tupD d) → Q v' H'
theorem ok_tupled {f : Addr} {fd : FuncData} (F : Fun K "tupled" "tupled" sTupled f fd) (b : Binds K fd ["thing"] []) (gF : mg "tupled" = some (.ref f)) (mi : mg "isinstance" = none) (ml : mg "list" = none) (mt : mg "tuple" = none) :
    ∀ n : Nat, FnOk P w K mg base CX0 n f fd ["thing"] (spTupled K n)
  | 0 => no_fn fun vs H Q E ⟨v, d, _, _, h, _⟩ => h
  | n + 1 => by
    have G := ok_tupled F b gF mi ml mt n
    refine F.ok scTupled (fun vs H Q E h => ?_) (fun cdv A outer s H vs Q E hr h => ?_)
    · obtain ⟨v, d, rfl, _⟩ := h
      rfl
    obtain ⟨v, d, rfl, hd, ok, q⟩ := h
    refine ⟨_, pss_cons (ps_if (pt_val (pe_callB call_isiT rfl mi boot_isinstance (pa_cons (pv 0) (pa_cons (pe_tup (pa_cons (pe_bltn (v := .ty "list") rfl ml boot_list rfl) (pa_cons (pe_bltn (v := .ty "tuple") rfl mt boot_tuple rfl) pa_nil))) pa_nil))))
        (pss_one (ps_ret (pe_callTy call_tuple_of rfl mt boot_tuple (pa_cons (pe_lc (own := [("part", 1)]) (g := gName 1) (tt := tYes) rfl scTupled.nd (pi_seq (pv 0)) (blkOk_by (own := [("part", 1)]) (N := ["thing", "part"]) (sc := defScope sTupled) (by decide +kernel))
          (fun _ _ _ _ _ => pg_name (i := 1) scTupled.nd rfl (Or.inl rfl)) (fun _ _ _ _ _ => pts_nil) (fun _ _ _ _ _ => pe_hide (pe_call G hr rfl gF F.kp b .nil pass0 (pa_cons (pv 1) pa_nil)))) pa_nil)))) pss_nil)
      (pss_one (ps_ret (pv 0))), ?_⟩
    refine ⟨_, rfl, (by show 2 ≤ sizeLine; decide), fun tp np => ?_⟩
    have s1 : Same H (upd H tp (.tup [.ty "list", .ty "tuple"])) := same_new np
    refine ⟨v, tp, _, tyD d, _, isSeq d, rfl, upd_same, .cons (.ty _) (.cons (.ty _) .nil), tyx_of (Dp.same s1 d hd), seq_kit d (Dp.nodict hd), isSeq d, rfl, ?_⟩
    cases hsq : isSeq d with
    | false =>
      refine iteF ⟨_, rfl, ?_⟩
      have e : tupD d = d := by cases d <;> first | rfl | (simp [isSeq] at hsq)
      exact q _ _ s1 (by rw [e]; exact Dp.same s1 d hd)
    | true =>
      obtain ⟨a, xs, ds, rfl, hs, hall, het, hok, hlen⟩ : ∃ a xs ds, v = .ref a ∧ Sq2 K H a xs ∧ DpAll K H xs ds ∧ tupD d = .tuple (ds.map tupD) ∧ (∀ e ∈ ds, okD n e) ∧ ds.length ≤ 1000 := by
        cases hd with
        | lst h1 h2 => exact ⟨_, _, _, rfl, .inl h1, h2, by rw [tupD, tupDs_eq], ok.2, ok.1⟩
        | tup h1 h2 => exact ⟨_, _, _, rfl, .inr h1, h2, by rw [tupD, tupDs_eq], ok.2, ok.1⟩
        | _ => simp [isSeq] at hsq
      have hxl : xs.length = ds.length := DpAll.length hall
      refine iteT ⟨_, rfl, a, xs, rfl, Same.sq2 s1 hs, fun J wk => lc_map wk Same (fun a b => a.trans b) (fun i y F => ∃ d, ds[i]? = some d ∧ Dp K F y (tupD d)) (fun i y A B s ⟨d, e, p⟩ => ⟨d, e, Dp.same s _ p⟩) (by rw [hxl]; exact small1000 hlen) (Same.refl _) (fun F D acc sF nF => ?_) (fun i x D acc F H' hi nD sF nF hy B hB => ?_) (fun D ys F nD sF nF hl hR => ?_)⟩
      · have sD : Same _ (upd F D (.lst acc)) := sF.trans (same_new nF)
        exact ⟨fun _ z => sD.seq z, fun z => Same.tup sD z⟩
      · obtain ⟨rfl, hx⟩ := hy
        obtain ⟨e, he, hp⟩ := DpAll.get hall hx
        refine hB _ F rfl nF fun Qt hq => ?_
        refine ⟨x, rfl, x, e, rfl, Dp.same (s1.trans sF) e hp, hok e (List.mem_of_getElem? he), fun v' H' s' p' => hq _ _ s' ⟨e, he, p'⟩⟩
      · refine ⟨D, ys, rfl, .inl ⟨SqL.of upd_same, fun l nl => ?_⟩⟩
        have sD : Same F (upd F D (.lst ys)) := same_new nF
        have s3 : Same F (upd (upd F D (.lst ys)) l (.tup ys)) := sD.trans (same_new nl)
        refine q _ _ (s1.trans (sF.trans s3)) ?_
        rw [het]
        exact .tup (.inl (.inl upd_same)) (DpAll.same s3 _ (dpall_of (by rw [hl, hxl]) hR))
/-! ### rows -/
structure FnX (P : Program) (w : World) (K : PySem.W.Frag) (mg : Str → Option Value) (base : Heap) (n : Nat) (name : Str) (ps : List Str) (sp : Sp) (f : Addr) (fd : FuncData) : Prop where
  ok : FnOk P w K mg base (L2.CX P w) n f fd ps sp
  g : mg name = some (.ref f)
  k : PySem.W.keepIn K (.ref f) = true
  b : Binds K fd ps []
/-- a row of goings: a list or a tuple of lists or tuples -/
structure RowAt (K : PySem.W.Frag) (H : Hp) (a : Addr) (ms : List Mv) : Prop where
  ex : ∃ us : List V, Sq2 K H a us ∧ us.length = ms.length ∧ ∀ (j : Nat) u, us[j]? = some u → ∃ t m, u = .ref t ∧ ms[j]? = some m ∧ Sq2 K H t (mvV m)
theorem RowAt.same {H H' : Hp} {a : Addr} {ms : List Mv} (h : RowAt K H a ms) (s : Same H H') : RowAt K H' a ms := by
  obtain ⟨us, h1, h2, h3⟩ := h.ex
  refine ⟨us, Same.sq2 s h1, h2, fun j u hu => ?_⟩
  obtain ⟨t, m, e1, e2, e3⟩ := h3 j u hu
  exact ⟨t, m, e1, e2, Same.sq2 s e3⟩
abbrev nGA : List Str := ["canal", "standing", "row", "now", "going"]
theorem scGA : FnScope nGA ["canal", "standing", "row"] (defScope sGA) := ⟨rfl, rfl, rfl, by decide +kernel, rfl, by decide +kernel, by decide +kernel⟩
def spGA (K : PySem.W.Frag) (CB : Addr) : Sp := fun vs H Q E => ∃ (v u : V) (rw : Addr) (ms : List Mv) (c : Cn) (s : Sn) (B : Int) (d : PyData), vs = [v, u, .ref rw] ∧ CnAny K H v c ∧ Dp K H u d ∧ okD 4 d ∧ tupD d = snD s ∧ RowAt K H rw ms ∧ ms.length ≤ 400 ∧ (∀ m ∈ ms, m.1 < c.ls.length) ∧ okCn 100 100 c ∧ okSn c B s ∧
  (okRun c s ms → ∀ v' H', Same H H' → Dp K H' v' (snD (runS c s ms)) → Q v' H') ∧
  (∀ (j : Nat) (m : Mv) (dd t : Addr) (H' : Hp), ms[j]? = some m → okRun c s (ms.take j) → hasB c (runS c s (ms.take j)) m.1 m.2 = false → Same H H' → H dd = none → H' dd = some (.xd [("going", .ref t)]) → H' t = some (.tup (mvV m)) → E (.ref CB) (some dd) H')
theorem ok_ga {f fg ft CB : Addr} {fd fdg fdt : FuncData} {k : Nat} (F : Fun K "gone_all" "gone_all" sGA f fd) (Go : FnX P w K mg base (k + 4) "gone" ["canal", "standing", "going"] (spGone K CB) fg fdg) (Tu : Fns P w K mg base 4 "tupled" ["thing"] (spTupled K 4) ft fdt) : FnOk P w K mg base (L2.CX P w) (k + 4 + 1) f fd ["canal", "standing", "row"] (spGA K CB) := by
  refine F.okX scGA (fun vs H Q E h => ?_) (fun cdv A outer s H vs Q E hr h => ?_)
  · obtain ⟨v, u, rw, ms, c, s, B, d, rfl, _⟩ := h
    rfl
  obtain ⟨v, u, rw, ms, c, s, B, d, rfl, hc, hu, okd, etd, hrw, hml, hlt, okc, oks, qy, qn⟩ := h
  have hrT : Room 4 _ := hr.mono (by omega)
  refine ⟨_, (pss_cons (ps_set (i := 3) scGA.nd rfl (.inl rfl) (pe_fn Tu hrT rfl (pa_cons (pv 1) pa_nil)))
    (pss_cons (ps_for (passes_of rfl) rfl (pi_seq (pv 2)) (pg_name (i := 4) scGA.nd rfl (.inl rfl))
    (pss_one (ps_set (i := 3) scGA.nd rfl (.inl rfl) (pe_callS Go.ok hr rfl Go.g Go.k Go.b (fun σ => passAt (takes_of rfl rfl rfl rfl) σ) (pa_cons (pv 0) (pa_cons (pv 3) (pa_cons (pv 4) pa_nil)))))))
    (pss_one (ps_ret (pv 3))))), ?_⟩
  refine ⟨_, rfl, u, d, rfl, hu, okd, fun nw H1 s1 hnw => ?_⟩
  rw [etd] at hnw
  refine at_g (σ' := [some v, some u, some (.ref rw), some nw, none]) rfl ?_
  obtain ⟨us, h1, h2, h3⟩ := (hrw.same s1).ex
  refine ⟨_, rfl, rw, us, rfl, h1, fun J wk => for_it wk (fun j σ H3 => ∃ (nw : V) (y4 : Option V), σ = [some v, some u, some (.ref rw), some nw, y4] ∧ Same H1 H3 ∧ okRun c s (ms.take j) ∧ Dp K H3 nw (snD (runS c s (ms.take j)))) ⟨nw, none, rfl, Same.refl _, trivial, hnw⟩ (fun j σ H3 _ h => ?_) (fun j x σ H3 H4 hj h hy => ?_) (fun σ H3 h => ?_)⟩
  · obtain ⟨_, _, _, s3, _⟩ := h
    exact ⟨fun _ z => s3.seq z, fun z => Same.tup s3 z⟩
  · obtain ⟨nw, y4, rfl, s3, okr, hn⟩ := h
    obtain ⟨rfl, hx⟩ := hy
    obtain ⟨t, m, rfl, em, ht⟩ := h3 j x hx
    refine at_g (σ' := [some v, some u, some (.ref rw), some nw, some (.ref t)]) rfl ?_
    have s13 := s1.trans s3
    have okn := runS_ok okc oks okr
    obtain ⟨mi, mr⟩ := m
    refine ⟨_, rfl, _, rfl, _, rfl, v, nw, t, mi, mr, c, runS c s (ms.take j), _, rfl, hc.same s13, snAny_t hn, Same.sq2 s3 ht, hlt _ (List.mem_of_getElem? em), okc, okn, (fun hb v' H5 s5 hv' => ?_), (fun hb dd tt H5 s5 nd ed et => ?_)⟩
    · refine ⟨v', _, rfl, s3.trans s5, ?_, ?_⟩
      · rw [take_snoc em]; exact okRun_snoc okr (hlt _ (List.mem_of_getElem? em)) hb
      · rw [take_snoc em, runS_snoc]; exact hv'
    · exact qn j (mi, mr) dd tt H5 em okr hb (s13.trans s5) (s13.free nd) ed et
  · obtain ⟨nw, y4, rfl, s3, okr, hn⟩ := h
    rw [h2, List.take_of_length_le (Nat.le_refl _)] at okr hn
    exact ⟨_, rfl, qy okr _ _ (s1.trans s3) hn⟩
end
end XL
namespace XL
open PySem PySem.Spec PyProof.Rows L2
/-! ### roads as mathematics -/
abbrev Rf := Int → Option (List Nat)
def inB (r : Bool) (c : Cn) (j : Int) : Prop := 0 ≤ j ∧ j < basW r c
structure Rd (c : Cn) (s : Sn) (r : Bool) (f : Rf) : Prop where
  rng : ∀ j ks, f j = some ks → inB r c j ∧ (ks.length : Int) < basW r c
  z : ∀ j, f j = some [] ↔ inB r c j ∧ gt (boatsW r s) j > 0
  st : ∀ j ks i, f j = some (ks ++ [i]) → i < c.ls.length ∧ (fromTo c s i r).2 = j ∧ f (fromTo c s i r).1 = some ks
  cl : ∀ i ks, i < c.ls.length → f (fromTo c s i r).1 = some ks → ∃ ks', f (fromTo c s i r).2 = some ks' ∧ ks'.length ≤ ks.length + 1
def Clo (c : Cn) (s : Sn) (r : Bool) (S : Int → Prop) : Prop := (∀ j, inB r c j → gt (boatsW r s) j > 0 → S j) ∧ ∀ i, i < c.ls.length → S (fromTo c s i r).1 → S (fromTo c s i r).2
theorem snoc_of {α : Type} {xs : List α} {n : Nat} (h : xs.length = n + 1) : ∃ ys y, xs = ys ++ [y] ∧ ys.length = n := by
  have hne : xs ≠ [] := fun z => by rw [z] at h; simp at h
  refine ⟨xs.dropLast, xs.getLast hne, (List.dropLast_concat_getLast hne).symm, by rw [List.length_dropLast]; omega⟩
theorem Rd.min {c : Cn} {s : Sn} {r : Bool} {f : Rf} {S : Int → Prop} (h : Rd c s r f) (C : Clo c s r S) : ∀ (n : Nat) (j : Int) (ks : List Nat), ks.length = n → f j = some ks → S j
  | 0, j, ks, hl, e => by
    rw [List.length_eq_zero_iff.mp hl] at e
    obtain ⟨h1, h2⟩ := (h.z j).mp e
    exact C.1 j h1 h2
  | n + 1, j, ks, hl, e => by
    obtain ⟨ys, i, rfl, hy⟩ := snoc_of hl
    obtain ⟨hi, hj, hs⟩ := h.st j ys i e
    have := C.2 i hi (Rd.min h C n _ ys hy hs)
    rw [hj] at this
    exact this
theorem Rd.clo {c : Cn} {s : Sn} {r : Bool} {f : Rf} (h : Rd c s r f) : Clo c s r (fun j => f j ≠ none) := by
  refine ⟨fun j h1 h2 e => ?_, fun i hi hs e => ?_⟩
  · rw [(h.z j).mpr ⟨h1, h2⟩] at e; cases e
  · cases hf : f (fromTo c s i r).1 with
    | none => exact hs hf
    | some ks =>
      obtain ⟨ks', e', _⟩ := h.cl i ks hi hf
      rw [e'] at e; cases e
/-! ### one going -/
theorem gt_mov {zs : List Int} {p : Int × Int} (h0 : 0 ≤ p.1) (h1 : p.1 < zs.length) (h2 : 0 ≤ p.2) (h3 : p.2 < zs.length) {j : Int} (hj : 0 ≤ j) : gt (mov zs p) j = gt zs j - (if j = p.1 then 1 else 0) + (if j = p.2 then 1 else 0) := by
  unfold mov
  have a : gt (zs.set p.1.toNat (gt zs p.1 - 1)) j = gt zs j - (if j = p.1 then 1 else 0) := by
    by_cases q : j = p.1
    · rw [if_pos q, q, gt_set_self h0 h1]
    · rw [if_neg q, gt_set_ne (by omega)]; omega
  by_cases q : j = p.2
  · rw [if_pos q]
    show gt ((zs.set p.1.toNat (gt zs p.1 - 1)).set p.2.toNat _) j = _
    have b : gt ((zs.set p.1.toNat (gt zs p.1 - 1)).set p.2.toNat (gt (zs.set p.1.toNat (gt zs p.1 - 1)) p.2 + 1)) p.2 = gt (zs.set p.1.toNat (gt zs p.1 - 1)) p.2 + 1 := gt_set_self h2 (by rw [List.length_set]; exact h3)
    rw [← a, q]; exact b
  · rw [if_neg q]
    show gt ((zs.set p.1.toNat (gt zs p.1 - 1)).set p.2.toNat _) j = _
    rw [gt_set_ne (by omega), a]; omega
theorem fromTo_ls {c : Cn} {s s' : Sn} {i : Nat} {r : Bool} (h : gt s'.ls (i : Int) = gt s.ls (i : Int)) : fromTo c s' i r = fromTo c s i r := by unfold fromTo; rw [h]
theorem gone_ls_ne {c : Cn} {s : Sn} {i j : Nat} {r : Bool} (h : i ≠ j) : gt (goneS c s i r).ls (j : Int) = gt s.ls (j : Int) := by
  rw [goneS_ls]
  have := gt_set_ne (zs := s.ls) (i := (i : Int)) (j := (j : Int)) (x := 1 - gt s.ls i) (by omega)
  rw [show ((i : Int)).toNat = i by omega] at this
  exact this
theorem fromTo_ends (c : Cn) (s : Sn) (i : Nat) (r : Bool) : fromTo c s i r = endW r (lkAt c i) ∨ fromTo c s i r = ((endW r (lkAt c i)).2, (endW r (lkAt c i)).1) := by
  unfold fromTo
  split
  · exact .inl rfl
  · exact .inr rfl
theorem boats_other {c : Cn} {s : Sn} {i : Nat} {r : Bool} : boatsW (!r) (goneS c s i r) = boatsW (!r) s := by
  cases r <;> rfl
section
variable {c : Cn} {W U : Nat} {r : Bool}
theorem gt_gone (okc : okCn W U c) {s : Sn} {B : Int} (ok : okSn c B s) {i : Nat} (hi : i < c.ls.length) {j : Int} (hj : 0 ≤ j) : gt (boatsW r (goneS c s i r)) j = gt (boatsW r s) j - (if j = (fromTo c s i r).1 then 1 else 0) + (if j = (fromTo c s i r).2 then 1 else 0) := by
  have hf := fromTo_ok okc (s := s) hi r
  have hl := boats_len ok r
  rw [goneS_boats]
  exact gt_mov hf.1.1 (by rw [hl]; exact hf.1.2) hf.2.1 (by rw [hl]; exact hf.2.2) hj
theorem Clo.ends {s : Sn} {S : Int → Prop} (okc : okCn W U c) (C : Clo c s r S) {i : Nat} (hi : i < c.ls.length) (hb : hasB c s i r = true) : S (fromTo c s i r).1 ∧ S (fromTo c s i r).2 := by
  have hf := fromTo_ok okc (s := s) hi r
  have a := C.1 _ hf.1 (of_decide_eq_true hb)
  exact ⟨a, C.2 i hi a⟩
theorem Clo.go (okc : okCn W U c) {s : Sn} {B : Int} (ok : okSn c B s) {S : Int → Prop} (C : Clo c s r S) {i : Nat} (hi : i < c.ls.length) (hb : hasB c s i r = true) : Clo c (goneS c s i r) r S := by
  obtain ⟨e1, e2⟩ := C.ends okc hi hb
  refine ⟨fun j hj hp => ?_, fun i' hi' hs => ?_⟩
  · rw [gt_gone okc ok hi hj.1] at hp
    by_cases q : j = (fromTo c s i r).2
    · rw [q]; exact e2
    · rw [if_neg q] at hp
      refine C.1 j hj ?_
      split at hp <;> omega
  · by_cases q : i = i'
    · subst q
      rw [fromTo_back ok hi r]
      exact e1
    · rw [fromTo_ls (gone_ls_ne q)] at hs ⊢
      exact C.2 i' hi' hs
theorem clo_run (okc : okCn W U c) {S : Int → Prop} : ∀ (ms : List Mv) (s : Sn) (B : Int), okSn c B s → okRun c s ms → (∀ m ∈ ms, m.2 = r) → Clo c s r S → Clo c (runS c s ms) r S ∧ ∀ m ∈ ms, S (endW r (lkAt c m.1)).1 ∧ S (endW r (lkAt c m.1)).2
  | [], s, B, _, _, _, C => ⟨C, fun m h => by cases h⟩
  | m :: ms, s, B, ok, h, hw, C => by
    obtain ⟨i, x⟩ := m
    obtain rfl : r = x := (hw _ (List.mem_cons_self ..)).symm
    have hb : hasB c s i r = true := h.1.2
    obtain ⟨a, b⟩ := clo_run okc ms _ _ (goneS_ok okc ok h.1.1 r hb) h.2 (fun m hm => hw m (List.mem_cons_of_mem _ hm)) (C.go okc ok h.1.1 hb)
    refine ⟨a, fun m hm => ?_⟩
    rcases List.mem_cons.mp hm with rfl | hm
    · have e := C.ends okc h.1.1 hb
      rcases fromTo_ends c s i r with q | q <;> rw [q] at e
      · exact e
      · exact ⟨e.2, e.1⟩
    · exact b m hm
theorem run_all {ms : List Mv} (h : ∀ m ∈ ms, m.2 = r) : ∀ m ∈ ms.reverse, m.2 = r := fun m hm => h m (List.mem_reverse.mp hm)
theorem dom_le {s s' : Sn} {f f' : Rf} (okc : okCn W U c) {B : Int} (ok : okSn c B s) {ms : List Mv} (h : okRun c s ms) (hw : ∀ m ∈ ms, m.2 = r) (R : Rd c s r f) (R' : Rd c (runS c s ms) r f') {j : Int} (e : f j = none) : f' j = none := by
  have C := (clo_run okc ms s B ok h hw R.clo).1
  cases q : f' j with
  | none => rfl
  | some ks => exact absurd e (R'.min C ks.length j ks rfl q)
theorem dom_eq {s : Sn} {f f' : Rf} (okc : okCn W U c) {B : Int} (ok : okSn c B s) {ms : List Mv} (h : okRun c s ms) (hw : ∀ m ∈ ms, m.2 = r) (R : Rd c s r f) (R' : Rd c (runS c s ms) r f') (j : Int) : f j = none ↔ f' j = none := by
  refine ⟨dom_le (s' := s) okc ok h hw R R', fun e => ?_⟩
  obtain ⟨hb, eb⟩ := run_back okc ok h
  have ok' := runS_ok okc ok h
  have R2 : Rd c (runS c (runS c s ms) ms.reverse) r f := by rw [eb]; exact R
  exact dom_le (s' := s) okc ok' hb (run_all hw) R' R2 e
/-! ### a road is gone -/
abbrev rowOf (r : Bool) (ks : List Nat) : List Mv := ks.map fun i => (i, r)
theorem Rd.mem {s : Sn} {f : Rf} (h : Rd c s r f) : ∀ (n : Nat) (j : Int) (ks : List Nat), ks.length = n → f j = some ks → ∀ i ∈ ks, ∃ ks', f (fromTo c s i r).1 = some ks' ∧ ks'.length < n
  | 0, j, ks, hl, e, i, hi => by rw [List.length_eq_zero_iff.mp hl] at hi; cases hi
  | n + 1, j, ks, hl, e, i, hi => by
    obtain ⟨ys, y, rfl, hy⟩ := snoc_of hl
    obtain ⟨h1, h2, h3⟩ := h.st j ys y e
    rcases List.mem_append.mp hi with q | q
    · obtain ⟨ks', a, b⟩ := Rd.mem h n _ ys hy h3 i q
      exact ⟨ks', a, by omega⟩
    · rw [List.mem_singleton.mp q]
      exact ⟨ys, h3, by omega⟩
theorem Rd.gone (okc : okCn W U c) {s : Sn} {f : Rf} {B : Int} (ok : okSn c B s) (h : Rd c s r f) : ∀ (n : Nat) (j : Int) (ks : List Nat), ks.length = n → f j = some ks → okRun c s (rowOf r ks) ∧ gt (boatsW r (runS c s (rowOf r ks))) j > 0 ∧ (∀ i, i ∉ ks → gt (runS c s (rowOf r ks)).ls (i : Int) = gt s.ls (i : Int)) ∧ ∀ j' ks', f j' = some ks' → n < ks'.length → gt (boatsW r (runS c s (rowOf r ks))) j' = gt (boatsW r s) j'
  | 0, j, ks, hl, e => by
    rw [List.length_eq_zero_iff.mp hl] at e ⊢
    exact ⟨trivial, ((h.z j).mp e).2, fun _ _ => rfl, fun _ _ _ _ => rfl⟩
  | n + 1, j, ks, hl, e => by
    obtain ⟨ys, i, rfl, hy⟩ := snoc_of hl
    obtain ⟨hi, hj, hs⟩ := h.st j ys i e
    obtain ⟨r1, r2, r3, r4⟩ := Rd.gone okc ok h n _ ys hy hs
    have ok' := runS_ok okc ok r1
    have ni : i ∉ ys := fun q => by
      obtain ⟨ks', a, b⟩ := h.mem n _ ys hy hs i q
      rw [hs] at a
      have := congrArg List.length (Option.some.inj a)
      omega
    have eft : fromTo c (runS c s (rowOf r ys)) i r = fromTo c s i r := fromTo_ls (r3 i ni)
    have hb : hasB c (runS c s (rowOf r ys)) i r = true := by
      unfold hasB
      rw [eft]
      exact decide_eq_true r2
    have erow : rowOf r (ys ++ [i]) = rowOf r ys ++ [(i, r)] := by unfold rowOf; rw [List.map_append]; rfl
    rw [erow, runS_snoc]
    have hbas := boats_len ok' r
    have nej : (fromTo c s i r).1 ≠ j := fun q => by
      rw [q, e] at hs
      have := congrArg List.length (Option.some.inj hs)
      rw [List.length_append] at this
      simp at this
    obtain ⟨hj0, _⟩ := h.rng j _ e
    have nn : 0 ≤ gt (boatsW r (runS c s (rowOf r ys))) j := by
      have hm := gt_mem (zs := boatsW r (runS c s (rowOf r ys))) (j := j) hj0.1 (by rw [hbas]; exact hj0.2)
      cases r with
      | true => exact (ok'.r0 _ hm).1
      | false => exact (ok'.b0 _ hm).1
    refine ⟨okRun_snoc r1 hi hb, ?_, fun i' hi' => ?_, fun j' ks' e' hl' => ?_⟩
    · show gt (boatsW r (goneS c (runS c s (rowOf r ys)) i r)) j > 0
      rw [gt_gone okc ok' hi hj0.1, eft, if_neg (fun q => nej q.symm), if_pos hj.symm]
      omega
    · show gt (goneS c (runS c s (rowOf r ys)) i r).ls (i' : Int) = _
      rw [gone_ls_ne (fun q => hi' (by rw [q]; exact List.mem_append_right _ (List.mem_singleton.mpr rfl)))]
      exact r3 i' fun q => hi' (List.mem_append_left _ q)
    · obtain ⟨hj', _⟩ := h.rng j' _ e'
      show gt (boatsW r (goneS c (runS c s (rowOf r ys)) i r)) j' = _
      rw [gt_gone okc ok' hi hj'.1, eft, if_neg (fun q => ?_), if_neg (fun q => ?_), r4 j' ks' e' (by omega)]
      · omega
      · rw [q, hj, e] at e'
        have := congrArg List.length (Option.some.inj e')
        omega
      · rw [q, hs] at e'
        have := congrArg List.length (Option.some.inj e')
        omega
theorem Rd.prefix {s : Sn} {f : Rf} (h : Rd c s r f) : ∀ (n : Nat) (j : Int) (ks : List Nat), ks.length = n → f j = some ks → ∀ t, t ≤ n → ∃ j', f j' = some (ks.take t)
  | 0, j, ks, hl, e, t, ht => ⟨j, by rw [e, List.length_eq_zero_iff.mp hl, List.take_nil]⟩
  | n + 1, j, ks, hl, e, t, ht => by
    by_cases q : t = n + 1
    · exact ⟨j, by rw [e, q, ← hl, List.take_length]⟩
    · obtain ⟨ys, i, rfl, hy⟩ := snoc_of hl
      obtain ⟨_, _, hs⟩ := h.st j ys i e
      obtain ⟨j', e'⟩ := Rd.prefix h n _ ys hy hs t (by omega)
      exact ⟨j', by rw [List.take_append_of_le_length (by omega)]; exact e'⟩
/-- on the way nothing lies yet in the basin that is woken -/
theorem Rd.way (okc : okCn W U c) {s : Sn} {f : Rf} {B : Int} (ok : okSn c B s) (h : Rd c s r f) {j : Int} {ks : List Nat} (e : f j = some ks) {t : Nat} (ht : t < ks.length) : okRun c s (rowOf r (ks.take t)) ∧ gt (boatsW r (runS c s (rowOf r (ks.take t)))) j = 0 := by
  obtain ⟨j', e'⟩ := h.prefix ks.length j ks rfl e t (by omega)
  have hl : (ks.take t).length = t := by rw [List.length_take]; omega
  obtain ⟨a, _, _, b⟩ := h.gone okc ok t j' _ hl e'
  refine ⟨a, ?_⟩
  rw [b j ks e ht]
  obtain ⟨hj, _⟩ := h.rng j _ e
  have hm := gt_mem (zs := boatsW r s) (j := j) hj.1 (by rw [boats_len ok r]; exact hj.2)
  have nn : 0 ≤ gt (boatsW r s) j := by
    cases r with
    | true => exact (ok.r0 _ hm).1
    | false => exact (ok.b0 _ hm).1
  have nz : ¬ gt (boatsW r s) j > 0 := fun q => by
    have := (h.z j).mpr ⟨hj, q⟩
    rw [e] at this
    have h0 := congrArg List.length (Option.some.inj this)
    rw [List.length_nil] at h0
    omega
  omega
/-! ### more boats wake sooner -/
theorem far_mono {s s' : Sn} {f f' : Rf} (R : Rd c s r f) (R' : Rd c s' r f') (hls : s'.ls = s.ls) (hb : ∀ j, inB r c j → gt (boatsW r s) j > 0 → gt (boatsW r s') j > 0) : ∀ (n : Nat) (j : Int) (ks : List Nat), ks.length = n → f j = some ks → ∃ ks', f' j = some ks' ∧ ks'.length ≤ n
  | 0, j, ks, hl, e => by
    rw [List.length_eq_zero_iff.mp hl] at e
    obtain ⟨h1, h2⟩ := (R.z j).mp e
    exact ⟨[], (R'.z j).mpr ⟨h1, hb j h1 h2⟩, Nat.le_refl _⟩
  | n + 1, j, ks, hl, e => by
    obtain ⟨ys, i, rfl, hy⟩ := snoc_of hl
    obtain ⟨hi, hj, hs⟩ := R.st j ys i e
    obtain ⟨ks', a, b⟩ := far_mono R R' hls hb n _ ys hy hs
    have eft : fromTo c s' i r = fromTo c s i r := fromTo_ls (by rw [hls])
    rw [← eft] at a
    obtain ⟨k2, a2, b2⟩ := R'.cl i ks' hi a
    rw [eft, hj] at a2
    exact ⟨k2, a2, by omega⟩
end
end XL
namespace XL
open PySem PySem.Spec PyProof.Rows L2
/-! ### the roads' rounds -/
theorem filter_less {α : Type} {p q : α → Bool} : ∀ {l : List α}, (∀ x ∈ l, q x = true → p x = true) → (l.filter q).length ≤ (l.filter p).length
  | [], _ => by simp
  | x :: l, h => by
    have ih := filter_less (l := l) fun y hy => h y (List.mem_cons_of_mem _ hy)
    have hx := h x (List.mem_cons_self ..)
    cases hq : q x with
    | true => rw [List.filter_cons_of_pos hq, List.filter_cons_of_pos (hx hq), List.length_cons, List.length_cons]; omega
    | false =>
      rw [List.filter_cons_of_neg (by rw [hq]; decide)]
      cases hp : p x with
      | true => rw [List.filter_cons_of_pos hp, List.length_cons]; omega
      | false => rw [List.filter_cons_of_neg (by rw [hp]; decide)]; exact ih
theorem filter_lt {α : Type} {p q : α → Bool} {x0 : α} (hp : p x0 = true) (hq : q x0 = false) : ∀ {l : List α}, (∀ x ∈ l, q x = true → p x = true) → x0 ∈ l → (l.filter q).length + 1 ≤ (l.filter p).length
  | x :: l, h, hm => by
    have hx := h x (List.mem_cons_self ..)
    have h' : ∀ y ∈ l, q y = true → p y = true := fun y hy => h y (List.mem_cons_of_mem _ hy)
    rcases List.mem_cons.mp hm with rfl | hm
    · have := filter_less h'
      rw [List.filter_cons_of_neg (by rw [hq]; decide), List.filter_cons_of_pos hp, List.length_cons]; omega
    · have ih := filter_lt hp hq h' hm
      cases hqx : q x with
      | true => rw [List.filter_cons_of_pos hqx, List.filter_cons_of_pos (hx hqx), List.length_cons, List.length_cons]; omega
      | false =>
        rw [List.filter_cons_of_neg (by rw [hqx]; decide)]
        cases hpx : p x with
        | true => rw [List.filter_cons_of_pos hpx, List.length_cons]; omega
        | false => rw [List.filter_cons_of_neg (by rw [hpx]; decide)]; exact ih
def cnt (c : Cn) (r : Bool) (f : Rf) : Nat := ((List.range (basW r c).toNat).filter fun j : Nat => (f (j : Int)).isNone).length
structure RI (c : Cn) (s : Sn) (r : Bool) (d : Nat) (f : Rf) : Prop where
  rng : ∀ j ks, f j = some ks → inB r c j ∧ ks.length ≤ d
  z : ∀ j, f j = some [] ↔ inB r c j ∧ gt (boatsW r s) j > 0
  st : ∀ j ks i, f j = some (ks ++ [i]) → i < c.ls.length ∧ (fromTo c s i r).2 = j ∧ f (fromTo c s i r).1 = some ks
  cl : ∀ i ks, i < c.ls.length → f (fromTo c s i r).1 = some ks → ks.length < d → ∃ ks', f (fromTo c s i r).2 = some ks' ∧ ks'.length ≤ ks.length + 1
  ct : ∀ j ks, f j = some ks → (d : Int) + 1 + (cnt c r f : Int) ≤ basW r c
structure GI (c : Cn) (s : Sn) (r : Bool) (f : Rf) (n : Nat) (g : Rf) : Prop where
  new : ∀ j ks, g j = some ks → f j = none ∧ ∃ row i, ks = row ++ [i] ∧ i < c.ls.length ∧ (fromTo c s i r).2 = j ∧ f (fromTo c s i r).1 = some row
  cov : ∀ i row, i < n → f (fromTo c s i r).1 = some row → f (fromTo c s i r).2 = none → g (fromTo c s i r).2 ≠ none
def both (g f : Rf) : Rf := fun j => match g j with
  | some ks => some ks
  | none => f j
theorem both_none {g f : Rf} {j : Int} (h : g j = none) : both g f j = f j := by unfold both; rw [h]
theorem both_some {g f : Rf} {j : Int} {ks : List Nat} (h : g j = some ks) : both g f j = some ks := by unfold both; rw [h]
def f0 (c : Cn) (s : Sn) (r : Bool) : Rf := fun j => if 0 ≤ j ∧ j < basW r c ∧ gt (boatsW r s) j > 0 then some [] else none
theorem app_ne {ks : List Nat} {i : Nat} (h : ([] : List Nat) = ks ++ [i]) : False := by have := congrArg List.length h; simp at this
section
variable {c : Cn} {s : Sn} {r : Bool} {f g : Rf} {d : Nat}
theorem ri0 : RI c s r 0 (f0 c s r) := by
  have key : ∀ j ks, f0 c s r j = some ks → ks = [] ∧ inB r c j ∧ gt (boatsW r s) j > 0 := fun j ks h => by
    unfold f0 at h
    by_cases q : 0 ≤ j ∧ j < basW r c ∧ gt (boatsW r s) j > 0
    · rw [if_pos q] at h; exact ⟨(Option.some.inj h).symm, ⟨q.1, q.2.1⟩, q.2.2⟩
    · rw [if_neg q] at h; cases h
  refine ⟨fun j ks h => ?_, fun j => ⟨fun h => (key j [] h).2, fun h => by unfold f0; rw [if_pos ⟨h.1.1, h.1.2, h.2⟩]⟩, fun j ks i h => ?_, fun i ks hi h hl => absurd hl (Nat.not_lt_zero _), fun j ks h => ?_⟩
  · obtain ⟨rfl, b, _⟩ := key j ks h
    exact ⟨b, Nat.le_refl _⟩
  · exact (app_ne (key j _ h).1.symm).elim
  · obtain ⟨rfl, b, hp⟩ := key j ks h
    have hj : j.toNat ∈ List.range (basW r c).toNat := List.mem_range.mpr (by have := b.1; have := b.2; omega)
    have e : ((j.toNat : Nat) : Int) = j := by have := b.1; omega
    have := filter_lt (p := fun _ : Nat => true) (q := fun j : Nat => (f0 c s r (j : Int)).isNone) (x0 := j.toNat) rfl (by show (f0 c s r ((j.toNat : Nat) : Int)).isNone = false; rw [e, h]; rfl) (l := List.range (basW r c).toNat) (fun _ _ _ => rfl) hj
    rw [List.filter_eq_self.mpr (fun _ _ => rfl), List.length_range] at this
    have h2 := b.1; have h3 := b.2
    show ((0 : Nat) : Int) + 1 + ((cnt c r (f0 c s r) : Nat) : Int) ≤ _
    unfold cnt
    omega
theorem GI.none_of (G : GI c s r f n g) {j : Int} {ks : List Nat} (h : f j = some ks) : g j = none := by
  cases q : g j with
  | none => rfl
  | some ks' => rw [(G.new j ks' q).1] at h; cases h
theorem RI.step {W U : Nat} (okc : okCn W U c) (R : RI c s r d f) (G : GI c s r f c.ls.length g) {j0 : Int} {k0 : List Nat} (h0 : g j0 = some k0) : RI c s r (d + 1) (both g f) ∧ cnt c r (both g f) + 1 ≤ cnt c r f := by
  have old : ∀ {j ks}, f j = some ks → both g f j = some ks := fun {j ks} h => by rw [both_none (G.none_of h)]; exact h
  have ib : ∀ {j ks}, g j = some ks → inB r c j := fun {j ks} h => by
    obtain ⟨_, row, i, _, hi, hj, _⟩ := G.new j ks h
    have := (fromTo_ok okc (s := s) hi r).2
    rw [hj] at this
    exact this
  have hc : cnt c r (both g f) + 1 ≤ cnt c r f := by
    have b := ib h0
    have e : ((j0.toNat : Nat) : Int) = j0 := by have := b.1; omega
    unfold cnt
    refine filter_lt (x0 := j0.toNat) ?_ ?_ (fun x _ hx => ?_) (List.mem_range.mpr (by have := b.1; have := b.2; omega))
    · show (f ((j0.toNat : Nat) : Int)).isNone = true
      rw [e, (G.new j0 k0 h0).1]; rfl
    · show (both g f ((j0.toNat : Nat) : Int)).isNone = false
      rw [e, both_some h0]; rfl
    · cases q : f (x : Int) with
      | none => rfl
      | some ks => rw [old q] at hx; cases hx
  refine ⟨⟨fun j ks h => ?_, fun j => ⟨fun h => ?_, fun h => old ((R.z j).mpr h)⟩, fun j ks i h => ?_, fun i ks hi h hl => ?_, fun j ks h => ?_⟩, hc⟩
  · cases q : g j with
    | none =>
      rw [both_none q] at h
      have := R.rng j ks h
      exact ⟨this.1, by omega⟩
    | some ks' =>
      rw [both_some q] at h
      obtain rfl := Option.some.inj h
      obtain ⟨_, row, i, rfl, hi, hj, hf⟩ := G.new j ks' q
      have := (R.rng _ _ hf).2
      exact ⟨ib q, by rw [List.length_append]; simp only [List.length_cons, List.length_nil]; omega⟩
  · cases q : g j with
    | none => rw [both_none q] at h; exact (R.z j).mp h
    | some ks' =>
      rw [both_some q] at h
      obtain ⟨_, row, i, e, _⟩ := G.new j ks' q
      rw [Option.some.inj h] at e
      exact (app_ne e).elim
  · cases q : g j with
    | none =>
      rw [both_none q] at h
      obtain ⟨a, b, e⟩ := R.st j ks i h
      exact ⟨a, b, old e⟩
    | some ks' =>
      rw [both_some q] at h
      obtain ⟨_, row, i', e, hi, hj, hf⟩ := G.new j ks' q
      rw [Option.some.inj h] at e
      obtain ⟨e1, e2⟩ := List.append_inj' e rfl
      obtain rfl : i = i' := by simpa using e2
      subst e1
      exact ⟨hi, hj, old hf⟩
  · cases q : g (fromTo c s i r).1 with
    | some ks' =>
      rw [both_some q] at h
      obtain rfl := Option.some.inj h
      obtain ⟨fn, row, i', rfl, hi', hj', hf⟩ := G.new _ ks' q
      rw [List.length_append] at hl
      simp only [List.length_cons, List.length_nil] at hl
      obtain ⟨k2, e2, _⟩ := R.cl i' row hi' hf (by omega)
      rw [hj', fn] at e2; cases e2
    | none =>
      rw [both_none q] at h
      cases qe : f (fromTo c s i r).2 with
      | some k2 =>
        refine ⟨k2, old qe, ?_⟩
        by_cases hd : ks.length < d
        · obtain ⟨k3, e3, l3⟩ := R.cl i ks hi h hd
          rw [qe] at e3
          rw [Option.some.inj e3]; exact l3
        · have := (R.rng _ _ qe).2; omega
      | none =>
        have hd : ¬ ks.length < d := fun hd => by
          obtain ⟨k3, e3, _⟩ := R.cl i ks hi h hd
          rw [qe] at e3; cases e3
        cases qg : g (fromTo c s i r).2 with
        | none => exact absurd qg (G.cov i ks hi h qe)
        | some k4 =>
          refine ⟨k4, both_some qg, ?_⟩
          obtain ⟨_, row, i', rfl, hi', hj', hf⟩ := G.new _ k4 qg
          have := (R.rng _ _ hf).2
          rw [List.length_append]; simp only [List.length_cons, List.length_nil]; omega
  · obtain ⟨_, row, i', _, _, _, hf⟩ := G.new j0 k0 h0
    have := R.ct _ _ hf
    rw [Int.natCast_add]
    show (d : Int) + 1 + 1 + _ ≤ _
    omega
theorem RI.done (R : RI c s r d f) (G : GI c s r f c.ls.length g) (h0 : ∀ j, g j = none) : Rd c s r f := by
  refine ⟨fun j ks h => ?_, R.z, R.st, fun i ks hi h => ?_⟩
  · have a := R.rng j ks h
    have b := R.ct j ks h
    exact ⟨a.1, by have := a.2; omega⟩
  · by_cases hd : ks.length < d
    · exact R.cl i ks hi h hd
    · cases qe : f (fromTo c s i r).2 with
      | some k2 =>
        have := (R.rng _ _ qe).2
        exact ⟨k2, rfl, by omega⟩
      | none => exact absurd (h0 _) (G.cov i ks hi h qe)
theorem RI.empty (R : RI c s r d f) (h0 : ∀ j, f j = none) : Rd c s r f := by
  refine ⟨fun j ks h => ?_, R.z, R.st, fun i ks hi h => ?_⟩
  · rw [h0] at h; cases h
  · rw [h0] at h; cases h
theorem both_empty (h0 : ∀ j, g j = none) : both g f = f := funext fun j => both_none (h0 j)
end
/-! ### boats behind unlike locks -/
def dj (c : Cn) (s : Sn) (r : Bool) (j : Int) (i : Nat) : Int := (if j = (fromTo c s i r).2 then 1 else 0) - (if j = (fromTo c s i r).1 then 1 else 0)
def ul (s s' : Sn) (n : Nat) : List Nat := (List.range n).filter fun i => decide (gt s.ls (i : Int) ≠ gt s'.ls (i : Int))
theorem ul_succ (s s' : Sn) (n : Nat) : ul s s' (n + 1) = ul s s' n ++ if gt s.ls (n : Int) ≠ gt s'.ls (n : Int) then [n] else [] := by
  unfold ul
  rw [List.range_succ, List.filter_append]
  congr 1
  by_cases q : gt s.ls (n : Int) ≠ gt s'.ls (n : Int)
  · rw [if_pos q]; simp [q]
  · rw [if_neg q]
    simp only [ne_eq, Decidable.not_not] at q
    simp [q]
def bsum (c : Cn) (s s' : Sn) (r : Bool) (j : Int) (n : Nat) : Int := ((ul s s' n).map (dj c s r j)).sum
theorem bsum_succ (c : Cn) (s s' : Sn) (r : Bool) (j : Int) (n : Nat) : bsum c s s' r j (n + 1) = bsum c s s' r j n + if gt s.ls (n : Int) ≠ gt s'.ls (n : Int) then dj c s r j n else 0 := by
  unfold bsum
  rw [ul_succ, List.map_append, List.sum_append]
  congr 1
  split <;> simp
section
variable {c : Cn} {W U : Nat} {r : Bool}
theorem dj_turn {s s1 : Sn} {B B1 : Int} (ok : okSn c B s) (ok1 : okSn c B1 s1) {i : Nat} (hi : i < c.ls.length) {j : Int} : dj c s1 r j i = if gt s.ls (i : Int) = gt s1.ls (i : Int) then dj c s r j i else - dj c s r j i := by
  by_cases q : gt s.ls (i : Int) = gt s1.ls (i : Int)
  · rw [if_pos q]
    unfold dj
    rw [fromTo_ls (s := s) (s' := s1) q.symm]
  · rw [if_neg q]
    have a := ok.l0 _ (gt_mem (zs := s.ls) (j := (i : Int)) (by omega) (by rw [ok.n]; omega))
    have b := ok1.l0 _ (gt_mem (zs := s1.ls) (j := (i : Int)) (by omega) (by rw [ok1.n]; omega))
    have e0 : ∀ {t : Sn}, gt t.ls (i : Int) = 0 → fromTo c t i r = endW r (lkAt c i) := fun {t} h => by unfold fromTo; rw [if_pos h]
    have e1 : ∀ {t : Sn}, gt t.ls (i : Int) = 1 → fromTo c t i r = ((endW r (lkAt c i)).2, (endW r (lkAt c i)).1) := fun {t} h => by unfold fromTo; rw [if_neg (by rw [h]; decide)]
    unfold dj
    rcases a with a | a <;> rcases b with b | b
    · exact absurd (a.trans b.symm) q
    · rw [e0 a, e1 b]; omega
    · rw [e1 a, e0 b]; omega
    · exact absurd (a.trans b.symm) q
theorem bsum_go {s s1 : Sn} {B B1 : Int} (ok : okSn c B s) (ok1 : okSn c B1 s1) {i : Nat} (hi : i < c.ls.length) {j : Int} : ∀ n : Nat, n ≤ c.ls.length → bsum c s (goneS c s1 i r) r j n = bsum c s s1 r j n + if i < n then dj c s1 r j i else 0
  | 0, _ => by unfold bsum ul; simp
  | n + 1, hn => by
    have ih := bsum_go ok ok1 hi (j := j) n (by omega)
    rw [bsum_succ, bsum_succ, ih]
    by_cases q : i = n
    · subst q
      rw [if_neg (Nat.lt_irrefl _), if_pos (Nat.lt_succ_self _), dj_turn ok ok1 hi]
      have a := ok.l0 _ (gt_mem (zs := s.ls) (j := (i : Int)) (by omega) (by rw [ok.n]; omega))
      have b := ok1.l0 _ (gt_mem (zs := s1.ls) (j := (i : Int)) (by omega) (by rw [ok1.n]; omega))
      have e : gt (goneS c s1 i r).ls (i : Int) = 1 - gt s1.ls (i : Int) := by rw [goneS_ls, flip_gt (by rw [ok1.n]; exact hi)]
      rw [e]
      by_cases q2 : gt s.ls (i : Int) = gt s1.ls (i : Int)
      · rw [if_pos q2, if_pos (by omega), if_neg (by omega)]
      · rw [if_neg q2, if_neg (by omega), if_pos q2]; omega
    · rw [gone_ls_ne q, show (if i < n + 1 then dj c s1 r j i else 0) = (if i < n then dj c s1 r j i else 0) from by
        by_cases q2 : i < n
        · rw [if_pos q2, if_pos (by omega)]
        · rw [if_neg q2, if_neg (by omega)]]
      omega
theorem run_sum (okc : okCn W U c) {s : Sn} {B : Int} (ok : okSn c B s) {j : Int} (hj : 0 ≤ j) : ∀ (ms : List Mv) (s1 : Sn) (B1 : Int), okSn c B1 s1 → okRun c s1 ms → (∀ m ∈ ms, m.2 = r) → gt (boatsW r s1) j = gt (boatsW r s) j + bsum c s s1 r j c.ls.length → gt (boatsW r (runS c s1 ms)) j = gt (boatsW r s) j + bsum c s (runS c s1 ms) r j c.ls.length
  | [], s1, B1, _, _, _, h => h
  | m :: ms, s1, B1, ok1, h, hw, e => by
    obtain ⟨i, x⟩ := m
    obtain rfl : r = x := (hw _ (List.mem_cons_self ..)).symm
    have hb : hasB c s1 i r = true := h.1.2
    refine run_sum okc ok hj ms (goneS c s1 i r) _ (goneS_ok okc ok1 h.1.1 r hb) h.2 (fun m hm => hw m (List.mem_cons_of_mem _ hm)) ?_
    rw [gt_gone okc ok1 h.1.1 hj, bsum_go ok ok1 h.1.1 _ (Nat.le_refl _), if_pos h.1.1, e]
    unfold dj; omega
theorem ul_self (s : Sn) (n : Nat) : ul s s n = [] := by
  unfold ul
  rw [List.filter_eq_nil_iff]
  intro x _ h
  exact absurd rfl (of_decide_eq_true h)
theorem run_unlike {s : Sn} : ∀ (ms : List Mv) (s1 : Sn), (∀ m ∈ ms, m.2 = r) → ∀ i : Nat, gt s.ls (i : Int) ≠ gt (runS c s1 ms).ls (i : Int) → gt s.ls (i : Int) ≠ gt s1.ls (i : Int) ∨ ∃ m ∈ ms, m.1 = i
  | [], s1, _, i, h => .inl h
  | m :: ms, s1, hw, i, h => by
    rcases run_unlike ms (goM c s1 m) (fun m hm => hw m (List.mem_cons_of_mem _ hm)) i h with q | ⟨m', hm, e⟩
    · by_cases e : m.1 = i
      · exact .inr ⟨m, List.mem_cons_self .., e⟩
      · left
        have : gt (goM c s1 m).ls (i : Int) = gt s1.ls (i : Int) := gone_ls_ne e
        rw [this] at q; exact q
    · exact .inr ⟨m', List.mem_cons_of_mem _ hm, e⟩
theorem mov_sum {zs : List Int} (okc : okCn W U c) {s : Sn} (hl : (zs.length : Int) = basW r c) {j : Int} (hj : 0 ≤ j) : ∀ (L : List Nat), (∀ i ∈ L, i < c.ls.length) → (L.foldl (fun z i => mov z (fromTo c s i r)) zs).length = zs.length ∧ gt (L.foldl (fun z i => mov z (fromTo c s i r)) zs) j = gt zs j + (L.map (dj c s r j)).sum := by
  intro L
  induction L generalizing zs with
  | nil => intro _; exact ⟨rfl, by simp⟩
  | cons i L ih =>
    intro h
    have hi := h i (List.mem_cons_self ..)
    have hf := fromTo_ok okc (s := s) hi r
    obtain ⟨a, b⟩ := ih (zs := mov zs (fromTo c s i r)) (by rw [mov_len]; exact hl) fun x hx => h x (List.mem_cons_of_mem _ hx)
    refine ⟨by rw [List.foldl_cons, a, mov_len], ?_⟩
    rw [List.foldl_cons, b, gt_mov hf.1.1 (by rw [hl]; exact hf.1.2) hf.2.1 (by rw [hl]; exact hf.2.2) hj, List.map_cons, List.sum_cons]
    unfold dj; omega
theorem ul_lt {s s' : Sn} {n i : Nat} (h : i ∈ ul s s' n) : i < n ∧ gt s.ls (i : Int) ≠ gt s'.ls (i : Int) := by
  unfold ul at h
  obtain ⟨a, b⟩ := List.mem_filter.mp h
  exact ⟨List.mem_range.mp a, of_decide_eq_true b⟩
/-- boats_behind gives what goings led to -/
theorem behind_eq (okc : okCn W U c) {s : Sn} {B : Int} (ok : okSn c B s) {ms : List Mv} (h : okRun c s ms) (hw : ∀ m ∈ ms, m.2 = r) : (ul s (runS c s ms) c.ls.length).foldl (fun z i => mov z (fromTo c s i r)) (boatsW r s) = boatsW r (runS c s ms) := by
  have ok' := runS_ok okc ok h
  have l1 := boats_len ok r
  have l2 := boats_len ok' r
  have e : ∀ j : Int, 0 ≤ j → _ := fun j hj => mov_sum (r := r) okc (s := s) l1 hj (ul s (runS c s ms) c.ls.length) fun i hi => (ul_lt hi).1
  refine gt_ext (by have := (e 0 (by omega)).1; omega) fun j hj => ?_
  rw [(e j (by omega)).2, run_sum okc ok (by omega) ms s B ok h hw (by unfold bsum; rw [ul_self]; simp)]
  rfl
end
end XL
namespace PySem
open Sem (wp)
section
variable {prog : Program} {w : World} {K : Type} [DecidableEq K] {knd : KeyKind prog w K} {A : Around} {E : Value → Shared → Prop} {s : Shared}
theorem wpAny_dictPut_pairs {d : Addr} {kvs : List (K × Value)} {k : K} {key v : Value} {Q : Unit → Shared → Prop} (hkey : knd.is k key = true) (hm : s.heap.DictOf knd d kvs)
    (hQ : ∀ h', h'.DictOf knd d (stored kvs k v) → Heap.SameBut d s.heap h' → Q () { s with heap := h' })
    (hsz : kvs.length ≤ sizeLine) :
    wpAny (model prog w) A (dictPut d (knd.hash k) key v) Q E s := by
  obtain ⟨o, es, ep, ho, hc, hd, hk, hp, hn⟩ := hm
  have hes : es.size ≤ sizeLine := by have e1 := hp.length; have e2 : es.toList.length = es.size := by simp
                                      omega
  unfold dictPut
  refine wpAny_bind (wpAny_dictFind_of hkey ho hd hk ?_)
  have hidx : (es.findIdx? fun e => knd.is k e.key) = kvs.findIdx? fun kv => decide (kv.1 = k) := by
    rw [← hp.findIdx k]; obtain ⟨l⟩ := es; simp
  cases hi : es.findIdx? fun e => knd.is k e.key with
  | some i =>
    refine wpAny_updateDict ho hd (hQ _ ⟨_, _, ep, Heap.get?_update_self _ ho (Obj.isFreed_of_dict (Obj.data_mapDict hd _)),
      hc.mapDict _, Obj.data_mapDict hd _, hk.modify _ _, ?_, ?_⟩ (Heap.SameBut.update ..))
    · rw [stored, if_pos (any_of_findIdx_some (hidx ▸ hi))]
      have hl : (es.toList.findIdx? fun e => knd.is k e.key) = some i := by rw [← hi]; obtain ⟨l⟩ := es; simp
      have := hp.modify hn hl v
      obtain ⟨l⟩ := es
      simpa using this
    · rw [stored, if_pos (any_of_findIdx_some (hidx ▸ hi)), keys_map_store]; exact hn
  | none =>
    have hnot : k ∉ kvs.map (·.1) := not_mem_of_findIdx_none (hidx ▸ hi)
    have hany : ¬ (kvs.any fun kv => decide (kv.1 = k)) = true := by
      rw [List.any_eq_true]; rintro ⟨kv, hkv, he⟩
      exact hnot (List.mem_map.mpr ⟨kv, hkv, of_decide_eq_true he⟩)
    refine wpAny_updateDictKeys (hz := hes) ho hd (hQ _ ⟨_, _, ep + 1, Heap.get?_update_self _ ho (Obj.isFreed_of_dict (Obj.data_mapDictKeys hd _)),
      hc.mapDictKeys _, Obj.data_mapDictKeys hd _, hk.push hkey _, ?_, ?_⟩ (Heap.SameBut.update ..))
    · rw [stored, if_neg hany]
      have := hp.append hkey (knd.hash k) v
      obtain ⟨l⟩ := es
      simpa using this
    · rw [stored, if_neg hany, List.map_append, List.nodup_append]
      refine ⟨hn, by simp, ?_⟩
      intro a ha b hb
      simp only [List.map_cons, List.map_nil, List.mem_singleton] at hb
      subst hb
      exact fun e => hnot (e ▸ ha)
theorem wpAny_mergeMapping {d o : Addr} {kvs more : List (K × Value)} {Q : Unit → Shared → Prop} (hdo : d ≠ o) (hoS : (o == sysModules) = false)
    (hd : s.heap.DictOf knd d kvs) (ho : s.heap.DictOf knd o more)
    (hQ : ∀ h', h'.DictOf knd d (merged kvs more) → h'.DictOf knd o more → Heap.SameBut d s.heap h' → Q () { s with heap := h' })
    (hsz : kvs.length + more.length ≤ sizeLine) :
    wpAny (model prog w) A (mergeMapping d (.ref o) false) Q E s := by
  obtain ⟨od, esd, epd, hod, hcd, hdd, hkd, hpd, hnd⟩ := id hd
  obtain ⟨oo, eso, epo, hoo, hco, hdo', hko, hpo, hno⟩ := id ho
  have hlen : more.length = eso.size := by rw [← hpo.length]; simp
  have loop : wpAny (model prog w) A (do
      let l ← dictEntries o
      let epoch ← dictEpoch o
      forIn (List.range l.size) PUnit.unit fun i (_ : PUnit) => (do
          let l' ← dictEntries o
          match l'[i]? with
            | some e => do
              holding [e.key, e.val] (dictPut d e.hash e.key e.val)
              let ep' ← dictEpoch o
              if (ep' != epoch) = true then do
                  (unsupported "dict.changed-during-merge" : Sem PUnit)
                  pure (ForInStep.yield PUnit.unit)
                else pure (ForInStep.yield PUnit.unit)
            | _ => do
              (unsupported "dict.changed-during-merge" : Sem PUnit)
              pure (ForInStep.yield PUnit.unit) : Sem (ForInStep PUnit))
      pure ()) Q E s := by
    refine wpAny_bind (wpAny_dictEntries hoo hdo' ?_)
    refine wpAny_bind (wpAny_dictEpoch hoo hdo' ?_)
    refine wpAny_bind ?_
    rw [List.range_eq_range']
    refine wpAny_forIn_list _
      (fun rest _ s' => ∃ h' i, s' = { s with heap := h' } ∧ rest = List.range' i (eso.size - i) ∧ i ≤ eso.size ∧ h'.DictOf knd d (merged kvs (more.take i)) ∧ h'.get? o = some oo ∧ Heap.SameBut d s.heap h')
      _ ?_ ?_ _ _ ⟨s.heap, 0, rfl, by simp, Nat.zero_le _, by simpa [merged] using hd, hoo, Heap.SameBut.refl _ _⟩
    · rintro x rest b s' ⟨h', i, rfl, hr, hi, hd', hoo', hs'⟩
      have hlt : i < eso.size := by
        rcases Nat.lt_or_ge i eso.size with h | h
        · exact h
        · rw [Nat.sub_eq_zero_of_le h] at hr; simp at hr
      obtain ⟨rfl, hrest⟩ : x = i ∧ rest = List.range' (i + 1) (eso.size - (i + 1)) := by
        have e : eso.size - i = (eso.size - (i + 1)) + 1 := by omega
        rw [e, List.range'_succ] at hr
        injection hr with h1 h2
        exact ⟨h1, h2⟩
      refine wpAny_bind (wpAny_dictEntries hoo' hdo' ?_)
      rw [Array.getElem?_eq_getElem hlt]
      obtain ⟨kv, hkv⟩ : ∃ kv, more[x]? = some kv := ⟨more[x]'(by rw [hlen]; exact hlt), List.getElem?_eq_getElem _⟩
      obtain ⟨k, v⟩ := kv
      obtain ⟨hkey, hval⟩ := hpo.get? (e := eso[x]) (by simp [hlt]) hkv
      obtain ⟨k', hkey', hhash⟩ := hko eso[x] (Array.getElem_mem hlt)
      obtain rfl : k' = k := knd.inj _ _ _ hkey' hkey
      show wpAny _ _ (holding [eso[x].key, eso[x].val] (dictPut d eso[x].hash eso[x].key eso[x].val) >>= _) _ _ _
      rw [hhash, hval]
      have hmx : (merged kvs (more.take x)).length ≤ sizeLine := by
        have e1 := merged_length_le kvs (more.take x)
        have e2 : (more.take x).length ≤ more.length := by rw [List.length_take]; omega
        omega
      refine wpAny_bind (wpAny_holding (wpAny_dictPut_pairs (hsz := hmx) hkey hd' fun h'' hd'' hs'' => ?_))
      have hoo'' : h''.get? o = some oo := (hs''.2 o (Ne.symm hdo)).trans hoo'
      refine wpAny_bind (wpAny_dictEpoch hoo'' hdo' ?_)
      rw [if_neg (by simp)]
      exact wpAny_pure ⟨h'', x + 1, rfl, hrest, hlt, by rw [merged_take_succ kvs more x (k', v) hkv]; exact hd'', hoo'', hs'.trans hs''⟩
    · rintro b s' ⟨h', i, rfl, hr, hi, hd', hoo', hs'⟩
      have hin : i = eso.size := by
        rcases Nat.lt_or_ge i eso.size with h | h
        · have e : eso.size - i = (eso.size - (i + 1)) + 1 := by omega
          rw [e, List.range'_succ] at hr; exact nomatch hr
        · exact Nat.le_antisymm hi h
      refine wpAny_pure (hQ h' ?_ ⟨oo, eso, epo, hoo', hco, hdo', hko, hpo, hno⟩ hs')
      rw [hin, ← hlen, List.take_length] at hd'; exact hd'
  unfold mergeMapping
  refine wpAny_bind (wpAny_isInstance ho.typeIs isSubtype_dict_dict ?_)
  dsimp only
  rw [if_pos rfl]
  refine wpAny_bind (wpAny_specialOf ho.typeIs F.slot_dict_iter.lookup ?_)
  refine wpAny_bind (wpAny_pure ?_)
  rw [show ((some (Value.builtin "dict.__iter__") == some (Value.builtin "dict.__iter__"))) = true from beq_self_eq_true _]
  dsimp only
  rw [if_neg (by rw [hoS]; exact Bool.false_ne_true)]
  refine wpAny_bind (wpAny_dictEntries hod hdd ?_)
  split
  · refine wpAny_bind (wpAny_dictEntries hoo hdo' ?_)
    refine wpAny_bind ?_
    rw [← Array.forIn_toList]
    refine wpAny_forIn_list _ (fun rest _ s' => s' = s ∧ ∀ e ∈ rest, e ∈ eso.toList) _ ?_ ?_ _ _ ⟨rfl, fun e he => he⟩
    · rintro e rest b s' ⟨rfl, hall⟩
      have hrest : ∀ x ∈ rest, x ∈ eso.toList := fun x hx => hall x (List.mem_cons_of_mem _ hx)
      obtain ⟨k, hkey, _⟩ := hko e (Array.mem_toList_iff.mp (hall e List.mem_cons_self))
      have hv := knd.byValue k _ hkey
      cases hek : e.key with
      | ref a => rw [hek] at hv; exact absurd hv (by intro h; cases h)
      | _ => exact wpAny_pure ⟨rfl, hrest⟩
    · rintro b s' ⟨rfl, _⟩
      exact loop
  · exact loop
end
end PySem
namespace L2
open PySem PySem.Spec PyProof.Rows
/-- {**a, **b}, keys ints and texts -/
def tMerge2 (ta tb : TE) : TE := fun σ H Q => ∀ p, H p = none → ta σ (upd H p (.dK [])) fun x H1 => ∃ (a : Addr) (kvs : List (Key × V)), x = .ref a ∧ a ≠ p ∧ H1 p = some (.dK []) ∧ H1 a = some (.dK kvs) ∧ kvs.length ≤ 1000 ∧
  tb σ (upd H1 p (.dK (mergeK [] kvs))) fun y H2 => ∃ (b : Addr) (more : List (Key × V)), y = .ref b ∧ b ≠ p ∧ H2 p = some (.dK (mergeK [] kvs)) ∧ H2 b = some (.dK more) ∧ more.length ≤ 1000 ∧ Q (.ref p) (upd H2 p (.dK (mergeK (mergeK [] kvs) more)))
def mStep (d : Addr) (m : Value) : Sem Unit := (((holding [.ref d, m] (mergeMapping d m false)).onRaise fun x => do let _ ← holding [.ref d, m, x] (runValue (.builtin "proto.let_go" {}))).tryCatch fun e => do
        if ← isInstance e (.type "AttributeError") then
          rule "dict.display.not-a-mapping"; raiseError "TypeError" s!"'{← typeNameOf m}' object is not a mapping"
        throw e).onRaise fun x => do let _ ← holding [.ref d, x] (runValue (.builtin "proto.let_go" {}))
theorem display2 (va vb : Sem Value) : dictDisplay [(none, va), (none, vb)] = (do
    let d ← alloc { cls := .type "dict", data := .dict #[] }
    let m ← holding [.ref d] va
    mStep d m
    let m2 ← holding [.ref d] vb
    mStep d m2
    pure (.ref d)) := by
  unfold dictDisplay mStep
  simp only [List.forIn_cons, List.forIn_nil, List.isEmpty_nil, if_true, pure_bind, bind_assoc]
theorem wp_mStep {prog : Program} {w : World} {K : Type} [DecidableEq K] {knd : KeyKind prog w K} {A : Around} {E : Value → Shared → Prop} {s : Shared} {d o : Addr} {kvs more : List (K × Value)} {Q : Unit → Shared → Prop} (hdo : d ≠ o) (hoS : (o == sysModules) = false)
    (hd : s.heap.DictOf knd d kvs) (ho : s.heap.DictOf knd o more)
    (hQ : ∀ h', h'.DictOf knd d (merged kvs more) → h'.DictOf knd o more → Heap.SameBut d s.heap h' → Q () { s with heap := h' })
    (hsz : kvs.length + more.length ≤ sizeLine) : wpAny (model prog w) A (mStep d (.ref o)) Q E s := by
  unfold mStep
  exact wpAny_onRaise (wpAny_tryCatch (wpAny_onRaise (wpAny_holding (wpAny_mergeMapping hdo hoS hd ho hQ hsz))))
theorem pe_merge2 {X : Cx} {pos : Pos} {va vb : Expr} {ta tb : TE} (ha : PE X va ta) (hb : PE X vb tb) : PE X (.Dict [none, none] [va, vb] pos) (tMerge2 ta tb) := by
  refine ⟨fun pins s σ H Q I q => ?_⟩
  have hn := I.hok.fresh (Nat.le_refl s.heap.objs.size)
  have I1 := I.laid (a := s.heap.objs.size) (o := .dK []) (h' := s.heap.push { cls := .type "dict", data := .dict #[] }) (t' := s.toks) (fun _ _ q => Heap.get?_push_of_some _ q) (Nat.le_refl _) (dk_empty s.heap I.big)
  have q0 := q _ hn
  rw [arm_eval_Dict]
  show wpAny _ _ (standAt pos >>= fun _ => dictDisplay [(none, (do let x ← eval va X.env; standAt pos; pure x)), (none, (do let x ← eval vb X.env; standAt pos; pure x))]) _ _ _
  rw [display2]
  refine wpAny_bind (wpAny_standAt (wpAny_bind (wpAny_alloc ?_)))
  refine wpAny_bind (wpAny_holding (wpAny_bind (thn (ha.run pins _ σ _ _ I1 q0) fun u s1 ⟨x, H1, I2, rx, a, kvs, ex, nap, ep, ea, hl, q1⟩ => wpAny_bind (wpAny_standAt (wpAny_pure ?_)))))
  subst ex
  cases rx
  obtain ⟨z1, hd1, vs0, r0, dd0⟩ := dk_of I2.hok ep
  cases r0
  obtain ⟨z2, hd2, vs1, r1, dd1⟩ := dk_of I2.hok ea
  refine wpAny_bind (wp_mStep (Ne.symm nap) hd2 dd0 dd1 (fun h' dd' _ hs => ?_) (by rw [← r1.length]; show 0 + kvs.length ≤ sizeLine; rw [sizeLine_eq]; omega))
  have he : ∃ q, h'.get? s.heap.objs.size = some q := let ⟨q, _, _, hq, _⟩ := dd'; ⟨q, hq⟩
  have lz : (mergeK [] kvs).length ≤ 1000 := by
    have h1 := length_mergeK kvs []
    rw [List.length_nil] at h1; omega
  have I3 := d_write (t' := s1.toks) I2 (by rw [ep]; exact True.intro) hs he (dk_new (by rw [sizeLine_eq]; omega) hd1 (r1.merge .nil) dd')
  refine wpAny_bind (wpAny_holding (wpAny_bind (thn (hb.run pins _ σ _ _ I3 q1) fun u2 s2 ⟨y, H2, I4, ry, b, more, ey, nbp, ep2, eb, hl2, q2⟩ => wpAny_bind (wpAny_standAt (wpAny_pure ?_)))))
  subst ey
  cases ry
  obtain ⟨z3, hd3, vs3, r3, dd3⟩ := dk_of I4.hok ep2
  obtain ⟨z4, hd4, vs4, r4, dd4⟩ := dk_of I4.hok eb
  refine wpAny_bind (wp_mStep (Ne.symm nbp) hd4 dd3 dd4 (fun h2 dd2 _ hs2 => ?_) (by rw [← r3.length, ← r4.length, sizeLine_eq]; omega))
  have he2 : ∃ q, h2.get? s.heap.objs.size = some q := let ⟨q, _, _, hq, _⟩ := dd2; ⟨q, hq⟩
  have l2 : (mergeK (mergeK [] kvs) more).length ≤ 2000 := by
    have h1 := length_mergeK more (mergeK [] kvs); omega
  have I5 := d_write (t' := s2.toks) I4 (by rw [ep2]; exact True.intro) hs2 he2 (dk_new (by rw [sizeLine_eq]; omega) hd3 (r4.merge r3) dd2)
  exact wpAny_pure ⟨V.ref s.heap.objs.size, _, I5, rfl, q2⟩
end L2
namespace L2
open PySem PySem.Spec PyProof.Rows
section
variable {X : Cx}
/-- name = {..} on one line, the name a local -/
theorem ps_setDc {i : Nat} {y : Str} {py : Pos} {kx vx tg iter : Expr} {ifs : List Expr} {scope : Scope} {own : List (Str × Nat)} {pos spos : Pos} {wi : TI} {g : TG} {tt : TT} {tk tv : TE} (hc : X.calm = true) (hN : X.N.Nodup) (hy : X.N[i]? = some y) (hyl : X.env.scope.names.lookup y = some .local)
    (hsw : swapsWith (.DictComp kx vx [⟨tg, iter, ifs, 0⟩] scope pos) (some (.Name y py)) spos.line X.env = pure true) (hi : PI X tg iter wi) (ok : BlkOk X.N X.env.scope scope own)
    (hg : ∀ (s : Shared) (H : Hp) (C : Addr) (cl : List (Str × Addr)) (fp : List Addr), PG (X.blk s H scope (compEnvC scope cl C X.env) fp) tg g) (ht : ∀ (s : Shared) (H : Hp) (C : Addr) (cl : List (Str × Addr)) (fp : List Addr), PTs (X.blk s H scope (compEnvC scope cl C X.env) fp) ifs tt)
    (hk : ∀ (s : Shared) (H : Hp) (C : Addr) (cl : List (Str × Addr)) (fp : List Addr), PE (X.blk s H scope (compEnvC scope cl C X.env) fp) kx tk)
    (he : ∀ (s : Shared) (H : Hp) (C : Addr) (cl : List (Str × Addr)) (fp : List Addr), PE (X.blk s H scope (compEnvC scope cl C X.env) fp) vx tv) (hs : ∀ x, foldedSetIterable iter X.env x = pure x := by intro _; rfl) :
    PS X (.Assign [.Name y py] (.DictComp kx vx [⟨tg, iter, ifs, 0⟩] scope pos) spos) (tAsg (tDc wi g tt tk tv (own.map (·.2))) (gName i)) := by
  refine ⟨fun pins s σ H D I h => ?_⟩
  rw [exec_Assign_Name_used _ _ _ _ hsw]
  refine wpAny_bind (wpAny_standAt (wpAny_bind ?_))
  show wpAny _ X.A (do let _ ← comprehension (.DictComp kx vx [⟨tg, iter, ifs, 0⟩] scope pos) scope X.env (firstIterPos [⟨tg, iter, ifs, 0⟩] pos) newDict false (eval iter X.env) (some (assign (.Name y py) X.env))) _ _ s
  have h : tDc wi g tt tk tv (own.map (·.2)) σ H (fun x H1 => gName i x σ H1 D.nx) := h
  refine wpAny_bind (thn (dc_core (Qf := fun _ s' => SP X pins D .next s') hc hN I hi ok hg ht hk he hs h fun L C s' m H' I' q hn f => ?_) fun _ s' hq => wpAny_pure (wpAny_pure hq))
  show wpAny _ _ (assign (.Name y py) X.env (.ref L)) _ _ _
  refine wpAny_assign_Name (store_ok2 (v := V.ref L) I' hN hy (.inl hyl) rfl (fun s2 I2 ⟨a, sb, ha⟩ => ?_) (.inr hyl))
  obtain ⟨f0, f1, f2, f3, f4, f5⟩ := f
  have haC : C ≠ a := by
    rcases ha with z | z
    · rw [z]; exact f1
    · exact fun e => f4 y a z e.symm
  refine ⟨m, hn.sameBut sb haC, fun h3 sb3 => ?_⟩
  exact ⟨_, H', I2.turned (t' := s2.toks) (fun b o hb e => (sb3.2 b hb).trans e) f0 f1 f3 f4 f5, q⟩
theorem sw_trueD {kx vx : Expr} {gs : List Comprehension} {scope : Scope} {pos py : Pos} {y : Str} {l : Nat} {env : Env} (hk : env.scope.kind = .function) (hy : env.scope.names.lookup y = some .local) (hl : (py.line == pos.line) = true)
    (ha : (scope.names.any fun (n, k) => n == y && (k == .local || k == .cell)) = false) : swapsWith (.DictComp kx vx gs scope pos) (some (.Name y py)) l env = pure true := by
  have ky : env.kindOf y = some .local := hy
  have hb : env.blockKind = .function := by unfold Env.blockKind; rw [hk]; rfl
  unfold swapsWith
  simp only [hb, ky, ha, Expr.pos, hl]
  rfl
/-- a suite that is never come to -/
theorem pss_no {ss : List Stmt} : PSs X ss (fun _ _ _ => False) := ⟨fun _ _ _ _ _ _ h => h.elim⟩
end
/-- a dict comprehension by an invariant -/
theorem dc_it {J : It} {n : Nat} {G : Hp → Prop} {Y : Nat → Hp → V → Hp → Prop} (w : Walk J n G Y) {g : TG} {tt : TT} {tk tv : TE} {vs : List Nat} {σ : St} {H1 : Hp} {D : Addr} {Qd : Hp → Prop} (Pv : Nat → Hp → Prop) (h0 : Pv 0 (upd H1 D (.dK []))) (hG : ∀ i H, i ≤ n → Pv i H → G H)
    (hs : ∀ i x H H', i < n → Pv i H → Y i H x H' → g x (wipe σ vs) H' fun σ2 H2 => wipe σ2 vs = wipe σ vs ∧ tt σ2 H2 fun b H3 =>
      if b = true then tk σ2 H3 fun y H4 => tv σ2 H4 fun z H5 => ∃ kvs k, y = kV k ∧ H5 D = some (.dK kvs) ∧ kvs.length < sizeLine ∧ Pv (i + 1) (upd H5 D (.dK (putK kvs k z))) else Pv (i + 1) H3) (hd : ∀ H, Pv n H → Qd H) :
    ∃ W : Nat → Nat → Hp → Prop, (∃ m, W 0 m (upd H1 D (.dK []))) ∧ ∀ i m H, W i m H →
      (J.stop i H ∧ Qd H) ∨ (J.go i H ∧ ∃ Nx : Hp → Prop, (∀ H', Nx H' → ∃ m', m' < m ∧ W (i + 1) m' H') ∧ ∀ x H', J.yld i H x H' → g x (wipe σ vs) H' fun σ2 H2 => wipe σ2 vs = wipe σ vs ∧ tt σ2 H2 fun b H3 =>
        if b = true then tk σ2 H3 fun y H4 => tv σ2 H4 fun z H5 => ∃ kvs k, y = kV k ∧ H5 D = some (.dK kvs) ∧ kvs.length < sizeLine ∧ Nx (upd H5 D (.dK (putK kvs k z))) else Nx H3) := by
  refine ⟨fun i m H => m = n - i ∧ i ≤ n ∧ Pv i H, ⟨n, by simp, Nat.zero_le _, h0⟩, ?_⟩
  rintro i m H ⟨rfl, hi, p⟩
  have q := hG i H hi p
  by_cases hlt : i < n
  · refine .inr ⟨w.goes i H hlt q, Pv (i + 1), fun H' p' => ⟨n - (i + 1), by omega, rfl, hlt, p'⟩, fun x H' y => hs i x H H' hlt p (w.yields i H x H' hlt q y)⟩
  · have e : i = n := by omega
    subst e
    exact .inl ⟨w.stops H q, hd H p⟩
end L2
namespace PySem
open PySem.Spec PyProof.Rows PyProof.V PySem.W PySem.SeqAt
section
variable {prog : Program} {w : World} {A : Around} {E : Value → Shared → Prop} {s : Shared}
theorem min_two_data {a b : Value} {da db : PyData} {as bs : List Addr} {Q : Value → Shared → Prop} (hh : A.handled = none) (ra : Reads s.heap a da as) (rb : Reads s.heap b db bs) (hal : AlikeAll [da, db]) (hu : A.units + 1 + PyData.depthAll [da, db] < cLine)
    (h : ∀ h' tk, (∀ c o, s.heap.get? c = some o → h'.get? c = some o) → Q (if dataLt db da = true then b else a) { s with heap := h', toks := tk }) :
    wpAny (model prog w) A (call (.builtin "min") [a, b]) Q E s := by
  have hname : (toString "min" ++ toString ".loop" : String) = "min.loop" := by decide
  have hT : (s.heap.push { cls := .type "tuple", data := .seq #[a, b] }).IsTuple s.heap.objs.size #[a, b] := ⟨_, Heap.get?_push_size _ rfl, rfl, 0, rfl⟩
  have kp : ∀ c o, s.heap.get? c = some o → (s.heap.push { cls := .type "tuple", data := .seq #[a, b] }).get? c = some o := fun c o e => Heap.get?_push_of_some _ e
  have hr : ReadsAll (s.heap.push { cls := .type "tuple", data := .seq #[a, b] }) (#[a, b] : Array Value).toList [da, db] (as ++ (bs ++ [])) := .cons (reads_keeps kp ra) (.cons (reads_keeps kp rb) .nil)
  refine call_function_tree F.kind_min F.plain_min F.entry_min (F.args_min2 _ _) ?_
  show wpAny _ A.in1 (Builtin.Builtins.bindParams "min" ["key", "default"] 0 ⟨[], []⟩ >>= _) _ _ s
  refine wpAny_bind (wpAny_of_eq (show Builtin.Builtins.bindParams "min" ["key", "default"] 0 ⟨[], []⟩ = pure [none, none] from rfl) ?_)
  show wpAny _ A.in1 (newTuple [a, b] >>= _) _ _ s
  refine wpAny_bind (wpAny_newObj_type ?_)
  refine wpAny_bind (iter_tupleW (A := A.in1) hh (s := { s with heap := s.heap.push { cls := .type "tuple", data := .seq #[a, b] } }) hT fun s₂ e W st hfp hw hk => ?_)
  refine wpAny_bind (wpAny_newObj_type ?_)
  have hSf : s₂.heap.objs.size ∉ [(s.heap.push { cls := .type "tuple", data := .seq #[a, b] }).objs.size, s.heap.objs.size] := fun hm => Nat.lt_irrefl _ (hfp _ hm)
  rw [hname]
  refine wpAny_pure ⟨plainId_quiet F.plain_min_loop _, codeAny_min_loop_firstH W (s.heap.push { cls := .type "tuple", data := .seq #[a, b] }) hw (fun i j => dataLt (([da, db] : List PyData).getD i .none) (([da, db] : List PyData).getD j .none)) (cmpIn_lt (A := A.in1) (s := { s with heap := s.heap.push { cls := .type "tuple", data := .seq #[a, b] } }) hr hal (by show A.units + 1 + _ < _; exact hu)) s₂.heap.objs.size hSf (fresh_in hk) _ (by simp) (fun b o e => Heap.get?_push_of_some _ (hk b o e)) (W.frame 0 s₂ _ s₂.toks st (Nat.le_refl _) fun b _ o e => Heap.get?_push_of_some _ e) (Heap.get?_push_size _ rfl) fun v s' hP hm => ?_⟩
  have m := Moved.drop_new (tk := s₂.toks) hm (Nat.le_refl _)
  obtain ⟨h', tk, rfl, hk'⟩ := moved_old e rfl m
  have hv : v = if dataLt db da = true then b else a := by
    cases hc : dataLt db da <;> simp [argBest, hc] at hP <;> simp [hP]
  rw [hv]
  exact h h' tk fun c o ec => hk' c o (Heap.get?_push_of_some _ ec)
end
end PySem
namespace L2
open PySem PySem.Spec PyProof.Rows PySem.W
/-- min(x, y) of alike data -/
def rMin2D (K : PySem.W.Frag) : List V → Hp → VK → Prop := fun xs H Q => ∃ (x y : V) (d e : PyData), xs = [x, y] ∧ Dp K H x d ∧ Dp K H y e ∧ AlikeAll [d, e] ∧ PyData.depthAll [d, e] ≤ 60 ∧ Q (if dataLt e d = true then y else x) H
theorem call_min2D {X : Cx} (hc : X.calm = true) (hu : X.A.units + 64 < cLine) : CallR X (.builtin "min") (rMin2D X.K) := by
  intro pins s σ H xs us Q I r h
  obtain ⟨x, y, d, e, rfl, hd, he, hal, hdp, q⟩ := h
  obtain ⟨u, w', rfl, r1, r2⟩ := vals2 r
  obtain ⟨as, ra⟩ := Dp.reads I d x u hd r1
  obtain ⟨bs, rb⟩ := Dp.reads I e y w' he r2
  refine min_two_data (I.ok.hd hc) ra rb hal (by omega) fun h' tk k => ⟨_, H, I.kept k, ?_, q⟩
  cases dataLt e d with
  | true => exact r2
  | false => exact r1
end L2
namespace XL
open PySem PySem.Spec PyProof.Rows L2
abbrev sBas : Stmt := topS 5
abbrev sBoO : Stmt := topS 16
abbrev sAl : Stmt := topS 17
abbrev sRo : Stmt := topS 18
theorem boot_min' : bootBuiltins "min" = some (.builtin "min") := by decide +kernel
theorem hu1 {X : Cx} (h : X.A.units + 64 < cLine) : X.A.units + 1 < cLine := by omega
theorem nil_go {σ : L2.St} {H : Hp} {Q : List V → Hp → Prop} (h : Q [] H) : tNil σ H Q := h
theorem intz_at {zs : List Int} {i : Nat} {x : V} (h : (zs.map V.int)[i]? = some x) : ∃ z, zs[i]? = some z ∧ x = .int z := by
  rw [List.getElem?_map] at h
  cases e : zs[i]? with
  | none => rw [e] at h; cases h
  | some z => rw [e] at h; exact ⟨z, rfl, (Option.some.inj h).symm⟩
/-! ### dicts -/
theorem keys_put (kvs : List (Key × V)) (k : Key) (v : V) : (putK kvs k v).map (·.1) = if (valV kvs k).isSome = true then kvs.map (·.1) else kvs.map (·.1) ++ [k] := by
  unfold putK
  rw [valV_any]
  split
  · rw [List.map_map]
    congr 1
    funext p
    by_cases e : p.1 = k <;> simp [e]
  · rw [List.map_append]; rfl
theorem valV_mem {kvs : List (Key × V)} {k : Key} (h : valV kvs k = none) : k ∉ kvs.map (·.1) := fun hm => by
  obtain ⟨p, hp, e⟩ := List.mem_map.mp hm
  have := valV_any k kvs
  rw [h] at this
  have h2 : (kvs.any fun kv => decide (kv.1 = k)) = true := List.any_eq_true.mpr ⟨p, hp, decide_eq_true e⟩
  rw [h2] at this; cases this
theorem nodup_put {kvs : List (Key × V)} {k : Key} {v : V} (h : (kvs.map (·.1)).Nodup) : ((putK kvs k v).map (·.1)).Nodup := by
  rw [keys_put]
  cases q : valV kvs k with
  | some x => exact h
  | none =>
    rw [if_neg (by decide), List.nodup_append]
    refine ⟨h, by simp, fun a ha b hb e => ?_⟩
    rw [List.mem_singleton.mp hb] at e
    exact valV_mem q (e ▸ ha)
theorem nodup_merge : ∀ {more kvs : List (Key × V)}, (kvs.map (·.1)).Nodup → ((mergeK kvs more).map (·.1)).Nodup
  | [], kvs, h => h
  | p :: more, kvs, h => nodup_merge (more := more) (nodup_put (k := p.1) (v := p.2) h)
theorem valV_not {kvs : List (Key × V)} {k : Key} (h : k ∉ kvs.map (·.1)) : valV kvs k = none := by
  cases q : valV kvs k with
  | none => rfl
  | some x =>
    have := valV_any k kvs
    rw [q] at this
    obtain ⟨p, hp, e⟩ := List.any_eq_true.mp this
    exact absurd (List.mem_map.mpr ⟨p, hp, of_decide_eq_true e⟩) h
theorem valV_merge (k : Key) : ∀ {more kvs : List (Key × V)}, (more.map (·.1)).Nodup → valV (mergeK kvs more) k = match valV more k with | some v => some v | none => valV kvs k
  | [], kvs, _ => rfl
  | p :: more, kvs, h => by
    rw [List.map_cons, List.nodup_cons] at h
    show valV (mergeK (putK kvs p.1 p.2) more) k = _
    rw [valV_merge k (more := more) h.2, valV_put]
    by_cases e : p.1 = k
    · rw [valV_pos e, valV_not (e ▸ h.1)]
      show (if k = p.1 then some p.2 else _) = _
      rw [if_pos e.symm]
    · rw [valV_neg e]
      cases valV more k with
      | some v => rfl
      | none => show (if k = p.1 then some p.2 else _) = _; rw [if_neg (fun z => e z.symm)]
theorem key_put {kvs : List (Key × V)} {j : Int} {v : V} (h : ∀ k ∈ kvs.map (·.1), ∃ i : Int, k = .inl i) : ∀ k ∈ (putK kvs (.inl j) v).map (·.1), ∃ i : Int, k = .inl i := fun k hk => by
  rw [keys_put] at hk
  split at hk
  · exact h k hk
  · rcases List.mem_append.mp hk with q | q
    · exact h k q
    · exact ⟨j, List.mem_singleton.mp q⟩
theorem key_merge : ∀ {more kvs : List (Key × V)}, (∀ k ∈ more.map (·.1), ∃ i : Int, k = .inl i) → (∀ k ∈ kvs.map (·.1), ∃ i : Int, k = .inl i) → ∀ k ∈ (mergeK kvs more).map (·.1), ∃ i : Int, k = .inl i
  | [], kvs, _, h => h
  | p :: more, kvs, hm, h => by
    obtain ⟨j, e⟩ := hm p.1 (by simp)
    have h2 : ∀ k ∈ (putK kvs p.1 p.2).map (·.1), ∃ i : Int, k = .inl i := by rw [e]; exact key_put h
    exact key_merge (more := more) (fun k hk => hm k (by rw [List.map_cons]; exact List.mem_cons_of_mem _ hk)) h2
/-- a dict of roads -/
structure RoAt (H0 H : Hp) (D : Addr) (r : Bool) (f : Rf) (kvs : List (Key × V)) : Prop where
  e : H D = some (.dK kvs)
  n : (kvs.map (·.1)).Nodup
  k : ∀ k ∈ kvs.map (·.1), ∃ j : Int, k = .inl j
  v : ∀ j : Int, (valV kvs (.inl j) = none ∧ f j = none) ∨ ∃ a us ks, valV kvs (.inl j) = some (.ref a) ∧ f j = some ks ∧ MvAt H a (rowOf r ks) us ∧ a ≠ D ∧ H0 a = none
theorem RoAt.move {H0 H H' : Hp} {D : Addr} {r : Bool} {f : Rf} {kvs : List (Key × V)} (h : RoAt H0 H D r f kvs) (s : Same H H') : RoAt H0 H' D r f kvs :=
  ⟨s _ _ h.e, h.n, h.k, fun j => by
    rcases h.v j with q | ⟨a, us, ks, h1, h2, h3, h4⟩
    · exact .inl q
    · exact .inr ⟨a, us, ks, h1, h2, h3.move (s _ _ h3.e) (Tp.of s), h4⟩⟩
theorem RoAt.nil {H0 H : Hp} {D : Addr} {r : Bool} {f : Rf} (h : RoAt H0 H D r f []) (j : Int) : f j = none := by
  rcases h.v j with ⟨_, q⟩ | ⟨a, us, ks, h1, _⟩
  · exact q
  · rw [valV_nil] at h1; cases h1
theorem RoAt.some {H0 H : Hp} {D : Addr} {r : Bool} {f : Rf} {p : Key × V} {kvs : List (Key × V)} (h : RoAt H0 H D r f (p :: kvs)) : ∃ j ks, f j = some ks := by
  obtain ⟨j, e⟩ := h.k p.1 (by simp)
  rcases h.v j with ⟨q, _⟩ | ⟨a, us, ks, _, h2, _⟩
  · rw [valV_pos e] at q; cases q
  · exact ⟨j, ks, h2⟩
section
variable {P : Program} {w : World} {K : PySem.W.Frag} {mg : Str → Option Value} {base : Heap}
/-! ### boats_of, basins_of, be_alone -/
abbrev nBoO : List Str := ["standing", "water"]
theorem scBoO : FnScope nBoO ["standing", "water"] (defScope sBoO) := ⟨rfl, rfl, rfl, by decide +kernel, rfl, by decide +kernel, by decide +kernel⟩
theorem wS_red (r : Bool) : decide (V.str (wS r) = V.str "red") = r := isRed_wS r
theorem snT {H : Hp} {u : V} {s : Sn} (h : Dp K H u (snD s)) : ∃ a ar ab al, u = .ref a ∧ SqT K H a [.ref ar, .ref ab, .ref al] ∧ SqT K H ar (s.rs.map V.int) ∧ SqT K H ab (s.bs.map V.int) ∧ SqT K H al (s.ls.map V.int) := by
  cases h with
  | tup hs ha =>
    cases ha with
    | cons p1 ha => cases ha with
      | cons p2 ha => cases ha with
        | cons p3 ha =>
          cases ha
          cases p1 with
          | tup a1 b1 => cases p2 with
            | tup a2 b2 => cases p3 with
              | tup a3 b3 =>
                rw [ints_inv b1] at a1; rw [ints_inv b2] at a2; rw [ints_inv b3] at a3
                exact ⟨_, _, _, _, rfl, hs, a1, a2, a3⟩
def spBoT (K : PySem.W.Frag) : Sp := fun vs H Q _ => ∃ (u : V) (r : Bool) (s : Sn), vs = [u, .str (wS r)] ∧ Dp K H u (snD s) ∧ ∀ a : Addr, SqT K H a ((boatsW r s).map V.int) → Q (.ref a) H
theorem ok_bo {f : Addr} {fd : FuncData} {k : Nat} {tR : Tok} (F : Fun K "boats_of" "boats_of" sBoO f fd) (gRED : mg "RED" = some (.str "red" tR)) : FnOk P w K mg base CX0 (k + 1) f fd ["standing", "water"] (spBoT K) := by
  refine F.ok scBoO (fun vs H Q E h => ?_) (fun cdv A outer s H vs Q E hr h => ?_)
  · obtain ⟨u, r, s, rfl, _⟩ := h
    rfl
  obtain ⟨u, r, s, rfl, hu, q⟩ := h
  obtain ⟨a, ar, ab, al, rfl, h0, h1, h2, h3⟩ := snT hu
  refine ⟨_, (pss_one (ps_ret (pe_ifExp (pt_cmpR op_eq (pv 1) (pe_glob (v := .str "red") rfl gRED ⟨_, rfl⟩) (nomark _)) (pe_ix (r := rIxA K) ix_any (pv 0) pe_int (fun _ _ => rfl)) (pe_ix (r := rIxA K) ix_any (pv 0) pe_int (fun _ _ => rfl))))), ?_⟩
  refine ⟨_, rfl, rfl, _, rfl, ?_⟩
  rw [wS_red]
  cases r with
  | true => exact iteT ⟨_, rfl, a, _, _, _, rfl, rfl, .inr h0, rfl, q ar h1⟩
  | false => exact iteF ⟨_, rfl, a, _, _, _, rfl, rfl, .inr h0, rfl, q ab h2⟩
abbrev nBas : List Str := ["canal", "water"]
theorem scBas : FnScope nBas ["canal", "water"] (defScope sBas) := ⟨rfl, rfl, rfl, by decide +kernel, rfl, by decide +kernel, by decide +kernel⟩
def spBas (K : PySem.W.Frag) : Sp := fun vs H Q _ => ∃ (v : V) (r : Bool) (c : Cn), vs = [v, .str (wS r)] ∧ CnAny K H v c ∧ Q (.int (basW r c)) H
theorem ok_bas {f : Addr} {fd : FuncData} {k : Nat} {tR : Tok} (F : Fun K "basins_of" "basins_of" sBas f fd) (gRED : mg "RED" = some (.str "red" tR)) : FnOk P w K mg base CX0 (k + 1) f fd ["canal", "water"] (spBas K) := by
  refine F.ok scBas (fun vs H Q E h => ?_) (fun cdv A outer s H vs Q E hr h => ?_)
  · obtain ⟨v, r, c, rfl, _⟩ := h
    rfl
  obtain ⟨v, r, c, rfl, hc, q⟩ := h
  obtain ⟨a, g, vs, rfl, ha, hg, hl, hv⟩ := hc.ex
  refine ⟨_, (pss_one (ps_ret (pe_ifExp (pt_cmpR op_eq (pv 1) (pe_glob (v := .str "red") rfl gRED ⟨_, rfl⟩) (nomark _)) (pe_ix (r := rIxA K) ix_any (pv 0) pe_int (fun _ _ => rfl)) (pe_ix (r := rIxA K) ix_any (pv 0) pe_int (fun _ _ => rfl))))), ?_⟩
  refine ⟨_, rfl, rfl, _, rfl, ?_⟩
  rw [wS_red]
  cases r with
  | true => exact iteT ⟨_, rfl, a, _, _, _, rfl, rfl, ha, rfl, q⟩
  | false => exact iteF ⟨_, rfl, a, _, _, _, rfl, rfl, ha, rfl, q⟩
abbrev nAl : List Str := ["standing", "water", "basin", "boats"]
theorem scAl : FnScope nAl ["standing", "water"] (defScope sAl) := ⟨rfl, rfl, rfl, by decide +kernel, rfl, by decide +kernel, by decide +kernel⟩
def Alone (s : Sn) (r : Bool) : Prop := ∀ x ∈ boatsW (!r) s, x = 0
def spAl (K : PySem.W.Frag) : Sp := fun vs H Q _ => ∃ (u : V) (r : Bool) (s : Sn), vs = [u, .str (wS r)] ∧ Dp K H u (snD s) ∧ Alone s r ∧ ∀ H', Same H H' → Q .non H'
theorem ok_al {f fb : Addr} {fd fdb : FuncData} {k : Nat} {tR tB : Tok} (F : Fun K "be_alone" "be_alone" sAl f fd) (Bo : Fns P w K mg base k "boats_of" ["standing", "water"] (spBoT K) fb fdb) (gRED : mg "RED" = some (.str "red" tR)) (gBLUE : mg "BLUE" = some (.str "blue" tB)) (m_enumerate : mg "enumerate" = none) : FnOk P w K mg base CX0 (k + 1) f fd ["standing", "water"] (spAl K) := by
  refine F.ok scAl (fun vs H Q E h => ?_) (fun cdv A outer s H vs Q E hr h => ?_)
  · obtain ⟨u, r, s, rfl, _⟩ := h
    rfl
  obtain ⟨u, r, s, rfl, hu, hal, q⟩ := h
  refine ⟨_, (pss_one (ps_for PassesOwn.never rfl (pi_enumT rfl m_enumerate (pa_cons (pe_fn Bo hr rfl (pa_cons (pv 0) (pa_cons (pe_ifExp (pt_cmpR op_eq (pv 1) (pe_glob (v := .str "red") rfl gRED ⟨_, rfl⟩) (nomark _)) (pe_glob (v := .str "blue") rfl gBLUE ⟨_, rfl⟩) (pe_glob (v := .str "red") rfl gRED ⟨_, rfl⟩)) pa_nil))) pa_nil)) (pg_any rfl (pgs_cons (pg_name (i := 2) scAl.nd rfl (.inl rfl)) (pgs_cons (pg_name (i := 3) scAl.nd rfl (.inl rfl)) pgs_nil)))
    (pss_one (ps_if (pt_cmpR op_gt (pv 3) pe_int (nomark _)) pss_no pss_nil)))), ?_⟩
  refine ⟨_, rfl, _, rfl, rfl, _, rfl, ?_⟩
  rw [wS_red]
  cases r
  · refine iteF ⟨u, true, s, rfl, hu, fun a ha => ?_⟩
    refine ⟨a, _, rfl, ha, for_it (walk_enumT (K := K) (a := a) (xs := (boatsW true s).map V.int)) (fun j σ H5 => ∃ (y2 y3 : Option V), σ = [some u, some (.str (wS false)), y2, y3] ∧ Same H H5) ⟨none, none, rfl, Same.refl _⟩ (fun j σ H5 _ h => ?_) (fun j x σ H5 H6 hj h hy => ?_) (fun σ H5 h => ?_)⟩
    · obtain ⟨_, _, _, s5⟩ := h; exact Same.tup s5 ha
    · obtain ⟨y2, y3, rfl, s5⟩ := h
      obtain ⟨T, xi, xv, rfl, nT, rfl, ei, ev⟩ := hy
      obtain rfl : V.int (j : Nat) = xi := Option.some.inj ei
      have ev' : ((boatsW true s).map V.int)[j]? = some xv := ev
      obtain ⟨z, ez, rfl⟩ := intz_at ev'
      obtain rfl : z = 0 := hal z (List.mem_of_getElem? ez)
      refine ⟨T, _, rfl, .inr (.inl (.inl upd_same)), rfl, _, _, rfl, _, _, rfl, rfl, ?_⟩
      refine at_s (σ' := [some u, some (.str (wS false)), some (.int (j : Nat)), some (.int 0)]) rfl ?_
      exact ⟨_, rfl, _, _, rfl, rfl, _, rfl, iteF ⟨_, _, rfl, s5.trans (same_new nT)⟩⟩
    · obtain ⟨_, _, _, s5⟩ := h; exact q _ s5
  · refine iteT ⟨u, false, s, rfl, hu, fun a ha => ?_⟩
    refine ⟨a, _, rfl, ha, for_it (walk_enumT (K := K) (a := a) (xs := (boatsW false s).map V.int)) (fun j σ H5 => ∃ (y2 y3 : Option V), σ = [some u, some (.str (wS true)), y2, y3] ∧ Same H H5) ⟨none, none, rfl, Same.refl _⟩ (fun j σ H5 _ h => ?_) (fun j x σ H5 H6 hj h hy => ?_) (fun σ H5 h => ?_)⟩
    · obtain ⟨_, _, _, s5⟩ := h; exact Same.tup s5 ha
    · obtain ⟨y2, y3, rfl, s5⟩ := h
      obtain ⟨T, xi, xv, rfl, nT, rfl, ei, ev⟩ := hy
      obtain rfl : V.int (j : Nat) = xi := Option.some.inj ei
      have ev' : ((boatsW false s).map V.int)[j]? = some xv := ev
      obtain ⟨z, ez, rfl⟩ := intz_at ev'
      obtain rfl : z = 0 := hal z (List.mem_of_getElem? ez)
      refine ⟨T, _, rfl, .inr (.inl (.inl upd_same)), rfl, _, _, rfl, _, _, rfl, rfl, ?_⟩
      refine at_s (σ' := [some u, some (.str (wS true)), some (.int (j : Nat)), some (.int 0)]) rfl ?_
      exact ⟨_, rfl, _, _, rfl, rfl, _, rfl, iteF ⟨_, _, rfl, s5.trans (same_new nT)⟩⟩
    · obtain ⟨_, _, _, s5⟩ := h; exact q _ s5

end
end XL
namespace XL
open PySem PySem.Spec PyProof.Rows L2
section
variable {P : Program} {w : World} {K : PySem.W.Frag} {mg : Str → Option Value} {base : Heap}
theorem small1000' {x : Nat} (h : x ≤ 1000) : x < sizeLine := by rw [sizeLine_eq]; omega
theorem rowOf_snoc (r : Bool) (ks : List Nat) (i : Nat) : rowOf r (ks ++ [i]) = rowOf r ks ++ [(i, r)] := by unfold rowOf; rw [List.map_append]; rfl
theorem row_alike (r : Bool) : ∀ a b : List Nat, PySem.W.alikeAll ((rowOf r a).map mvD) ((rowOf r b).map mvD) = true
  | [], _ => by simp [rowOf, PySem.W.alikeAll]
  | _ :: _, [] => by simp [rowOf, PySem.W.alikeAll]
  | x :: a, y :: b => by
    have := row_alike r a b
    unfold rowOf at this
    simp [rowOf, PySem.W.alikeAll, PySem.W.alike, mvD]
    simpa using this
theorem row_alike2 (r : Bool) (a b : List Nat) : PySem.W.AlikeAll [PyData.list ((rowOf r a).map mvD), PyData.list ((rowOf r b).map mvD)] := by
  refine ⟨fun x hx y hy => ?_, fun x hx => ?_⟩
  · simp only [List.mem_cons, List.not_mem_nil, or_false] at hx hy
    rcases hx with rfl | rfl <;> rcases hy with rfl | rfl <;> simp only [PySem.W.alike] <;> exact row_alike r _ _
  · simp only [List.mem_cons, List.not_mem_nil, or_false] at hx
    rcases hx with rfl | rfl <;> exact fun z => nomatch z
theorem row_depth (r : Bool) (a b : List Nat) : PyData.depthAll [PyData.list ((rowOf r a).map mvD), PyData.list ((rowOf r b).map mvD)] ≤ 60 := by
  have h1 := mvs_depth (rowOf r a)
  have h2 := mvs_depth (rowOf r b)
  simp only [PyData.depthAll, PyData.depth]
  omega
theorem tp_dk {H : Hp} {D : Addr} {kvs : List (Key × V)} {o : HO} (h : H D = some (.dK kvs)) : Tp H (upd H D o) :=
  ⟨fun a xs e => by rw [upd_ne (fun z => by rw [z, h] at e; cases e)]; exact e, fun a o xs e => by rw [upd_ne (fun z => by rw [z, h] at e; cases e)]; exact e⟩
/-! ### roads -/
abbrev nRo : List Str := ["canal", "standing", "water", "told", "found", "lock", "start", "end", "road", "basin", "boats"]
theorem scRo : FnScope nRo ["canal", "standing", "water"] (defScope sRo) := ⟨rfl, rfl, rfl, by decide +kernel, rfl, by decide +kernel, by decide +kernel⟩
def spRo (K : PySem.W.Frag) : Sp := fun vs H Q _ => ∃ (v u : V) (r : Bool) (c : Cn) (s : Sn) (B : Int), vs = [v, u, .str (wS r)] ∧ CnAny K H v c ∧ Dp K H u (snD s) ∧ okCn 10 12 c ∧ okSn c B s ∧
  ∀ (D : Addr) (f : Rf) (kvs : List (Key × V)) (H' : Hp), Same H H' → H D = none → RoAt H H' D r f kvs → Rd c s r f → Q (.ref D) H'
theorem ok_ro {f fb ft : Addr} {fd fdb fdt : FuncData} {k : Nat} (F : Fun K "roads" "roads" sRo f fd) (Bo : Fns P w K mg base k "boats_of" ["standing", "water"] (spBoT K) fb fdb) (FT : Fns P w K mg base k "from_and_to" ["canal", "standing", "lock", "water"] (spFT K) ft fdt)
    (m_enumerate : mg "enumerate" = none) (m_range : mg "range" = none) (m_len : mg "len" = none) (m_min : mg "min" = none) : FnOk P w K mg base CX0 (k + 1) f fd ["canal", "standing", "water"] (spRo K) := by
  refine F.ok scRo (fun vs H Q E h => ?_) (fun cdv A outer s H vs Q E hr h => ?_)
  · obtain ⟨v, u, r, c, s, B, rfl, _⟩ := h
    rfl
  obtain ⟨v, u, r, c, s, B, rfl, hc, hu, okc, ok, q⟩ := h
  refine ⟨_, (pss_cons (ps_setDc (i := 3) (own := [("basin", 9), ("boats", 10)]) (g := gAny K 2 (gCons (gName 9) (gCons (gName 10) gNil))) rfl scRo.nd rfl rfl (sw_trueD rfl rfl rfl (by decide +kernel)) (pi_enumT rfl m_enumerate (pa_cons (pe_fn Bo hr rfl (pa_cons (pv 1) (pa_cons (pv 2) pa_nil))) pa_nil)) (blkOk_by (own := [("basin", 9), ("boats", 10)]) (N := nRo) (sc := defScope sRo) (by decide +kernel)) (fun _ _ _ _ _ => (pg_any rfl (pgs_cons (pg_name (i := 9) scRo.nd rfl (.inl rfl)) (pgs_cons (pg_name (i := 10) scRo.nd rfl (.inl rfl)) pgs_nil)))) (fun _ _ _ _ _ => (pts_one (pt_cmpR op_gt (pv 10) pe_int (nomark _)))) (fun _ _ _ _ _ => (pv 9)) (fun _ _ _ _ _ => (pe_lst pa_nil)))
    (pss_cons (ps_set (i := 4) scRo.nd rfl (.inl rfl) (pv 3))
    (pss_cons (ps_while PassesOwn.never (pt_truth (pv 4) (fun _ => rfl))
    (pss_cons (ps_set (i := 4) scRo.nd rfl (.inl rfl) pe_dnewK)
    (pss_cons (ps_for PassesOwn.never rfl (pi_range1 rfl m_range (pa_cons (pe_callB (r := rLenA K) call_lenA rfl m_len PySem.boot_len (pa_cons (pe_ix (r := rIxA K) ix_any (pv 0) pe_int (fun _ _ => rfl)) pa_nil)) pa_nil)) (pg_name (i := 5) scRo.nd rfl (.inl rfl))
    (pss_cons (ps_asg (pe_fn FT hr rfl (pa_cons (pv 0) (pa_cons (pv 1) (pa_cons (pv 5) (pa_cons (pv 2) pa_nil))))) (pg_any rfl (pgs_cons (pg_name (i := 6) scRo.nd rfl (.inl rfl)) (pgs_cons (pg_name (i := 7) scRo.nd rfl (.inl rfl)) pgs_nil))))
    (pss_one (ps_if (PW.pt (pw_and (pt_cmp (pc_din (hu1 hr.units) (pv 6) (pv 3)) rfl) (pw_and1 (pt_cmp (pc_dnotin (hu1 hr.units) (pv 7) (pv 3)) rfl)))) (pss_cons (ps_set (i := 8) scRo.nd rfl (.inl rfl) (pe_op op_cat (pe_dget (hu1 hr.units) (pv 3) (pv 6) (fun _ _ => rfl)) (pe_lst (pa_cons (pe_tup (pa_cons (pv 5) (pa_cons (pv 2) pa_nil))) pa_nil))))
    (pss_one (ps_dput (hu1 hr.units) (pv 4) (pv 7) (pe_callB (r := rMin2D K) (call_min2D rfl hr.units) rfl m_min boot_min' (pa_cons (pe_dget2 (hu1 hr.units) (pv 4) (pv 7) (pv 8) ⟨rfl, rfl, rfl, rfl⟩) (pa_cons (pv 8) pa_nil))) rfl))) pss_nil))))
    (pss_one (ps_set (i := 3) scRo.nd rfl (.inl rfl) (pe_merge2 (pv 3) (pv 4)))))))
    (pss_one (ps_ret (pv 3)))))), ?_⟩
  have hbl := boats_len ok r
  have hnn : 0 ≤ basW r c := by rw [← hbl]; omega
  have hnB : basW r c ≤ 10 := by
    cases r with
    | true => exact okc.r2
    | false => exact okc.b2
  have hnL : c.ls.length ≤ 12 := okc.n
  -- told
  refine ⟨_, rfl, _, rfl, u, r, s, rfl, hu, fun a ha => ?_⟩
  refine ⟨a, _, rfl, ha, fun D nD => dc_it (walk_enumT (K := K) (a := a) (xs := (boatsW r s).map V.int)) (fun i H5 => Same H H5 ∧ ∃ kvs, RoAt H H5 D r (fun j => if j < (i : Int) then f0 c s r j else none) kvs ∧ kvs.length ≤ i) ?_ (fun i H5 _ h => Same.tup h.1 ha) (fun i x H5 H6 hi h hy => ?_) (fun H5 h => ?_)⟩
  · refine ⟨same_new nD, [], ⟨upd_same, List.nodup_nil, (fun k hk => by cases hk), fun j => .inl ⟨rfl, ?_⟩⟩, Nat.le_refl _⟩
    show (if j < ((0 : Nat) : Int) then f0 c s r j else none) = none
    split
    · unfold f0; rw [if_neg (by omega)]
    · rfl
  · obtain ⟨s5, kvs, ro, hl⟩ := h
    obtain ⟨T, xi, xv, rfl, nT, rfl, ei, ev⟩ := hy
    obtain rfl : V.int (i : Nat) = xi := Option.some.inj ei
    have ev' : ((boatsW r s).map V.int)[i]? = some xv := ev
    obtain ⟨z, ez, rfl⟩ := intz_at ev'
    have ez' : gt (boatsW r s) (i : Int) = z := by
      unfold gt
      rw [show ((i : Int)).toNat = i by omega, List.getD_eq_getElem?_getD, ez]; rfl
    rw [List.length_map] at hi
    have hD5 : H5 D = some (.dK kvs) := ro.e
    have hTD : T ≠ D := fun z => by rw [z, hD5] at nT; cases nT
    have sT := same_new nT (o := .tup [.int (i : Nat), .int z])
    have eT : (upd H5 T (.tup [.int (i : Nat), .int z])) T = some (.tup [.int (i : Nat), .int z]) := upd_same
    generalize upd H5 T (.tup [.int (i : Nat), .int z]) = H6 at sT eT
    have s6 := s5.trans sT
    have ro6 := ro.move sT
    refine ⟨T, _, rfl, .inr (.inl (.inl eT)), rfl, _, _, rfl, _, _, rfl, rfl, rfl, ?_⟩
    refine ⟨_, rfl, _, _, rfl, rfl, _, rfl, ?_⟩
    by_cases hz : 0 < z
    · rw [decide_eq_true hz]
      refine iteT ⟨_, rfl, (by show 0 ≤ sizeLine; decide), fun p np => ?_⟩
      have sp := same_new np (o := .lst [])
      have ep : (upd H6 p (.lst [])) p = some (.lst []) := upd_same
      have hpD : p ≠ D := fun z => by rw [z, ro6.e] at np; cases np
      generalize upd H6 p (.lst []) = H7 at sp ep
      have ro7 := ro6.move sp
      refine ⟨kvs, .inl (i : Int), rfl, ro7.e, small1000' (by omega), fun x o e => by rw [upd_ne (ne_of_none e nD)]; exact (s6.trans sp) _ _ e, putK kvs (.inl (i : Int)) (.ref p), ⟨upd_same, nodup_put ro7.n, key_put ro7.k, fun j => ?_⟩, by have := length_putK kvs (.inl (i : Int)) (.ref p); omega⟩
      rw [valV_put]
      by_cases hj : j = (i : Int)
      · subst hj
        refine .inr ⟨p, [], [], by rw [if_pos rfl], ?_, ⟨by rw [upd_ne hpD]; exact ep, rfl, fun j u h => by simp at h⟩, hpD, s6.free np⟩
        show (if (i : Int) < ((i + 1 : Nat) : Int) then f0 c s r (i : Int) else none) = some []
        rw [if_pos (by omega)]
        unfold f0
        rw [if_pos ⟨by omega, by omega, by rw [ez']; exact hz⟩]
      · have e2 : (if j < ((i + 1 : Nat) : Int) then f0 c s r j else none) = (if j < (i : Int) then f0 c s r j else none) := by
          by_cases q : j < (i : Int)
          · rw [if_pos q, if_pos (by omega)]
          · rw [if_neg q, if_neg (by omega)]
        rw [if_neg (fun z => hj (Sum.inl.inj z))]
        show (_ ∧ (if j < ((i + 1 : Nat) : Int) then f0 c s r j else none) = none) ∨ ∃ a us ks, _ ∧ (if j < ((i + 1 : Nat) : Int) then f0 c s r j else none) = some ks ∧ _
        rw [e2]
        rcases ro7.v j with h | ⟨a', us, ks, h1, h2, h3, h4⟩
        · exact .inl h
        · exact .inr ⟨a', us, ks, h1, h2, h3.move (by rw [upd_ne h4.1]; exact h3.e) (tp_dk ro7.e), h4⟩
    · rw [decide_eq_false hz]
      refine iteF ⟨s6, kvs, ?_, by omega⟩
      have e2 : (fun j : Int => if j < ((i + 1 : Nat) : Int) then f0 c s r j else none) = (fun j => if j < (i : Int) then f0 c s r j else none) := funext fun j => by
        by_cases q : j < (i : Int)
        · rw [if_pos q, if_pos (by omega)]
        · rw [if_neg q]
          split
          · obtain rfl : j = (i : Int) := by omega
            unfold f0
            rw [if_neg (fun h => by rw [ez'] at h; omega)]
          · rfl
      rw [e2]; exact ro6
  obtain ⟨s5, kvs, ro, hl⟩ := h
  have ef : (fun j : Int => if j < ((((boatsW r s).map V.int).length : Nat) : Int) then f0 c s r j else none) = f0 c s r := funext fun j => by
    rw [List.length_map, hbl]
    split
    · rfl
    · unfold f0; rw [if_neg (by omega)]
  rw [ef] at ro
  rw [List.length_map] at hl
  refine at_g (σ' := [some v, some u, some (.str (wS r)), some (.ref D), none, none, none, none, none, none, none]) rfl ?_
  refine ⟨_, rfl, ?_⟩
  refine at_g (σ' := [some v, some u, some (.str (wS r)), some (.ref D), some (.ref D), none, none, none, none, none, none]) rfl ?_
  have cb : ∀ g : Rf, cnt c r g ≤ 10 := fun g => by
    unfold cnt
    have := List.length_filter_le (fun j : Nat => (g (j : Int)).isNone) (List.range (basW r c).toNat)
    rw [List.length_range] at this; omega
  have kl : kvs.length ≤ 10 := by omega
  refine ⟨fun m σ H5 => ∃ (D G : Addr) (kvs gk : List (Key × V)) (g : Rf) (d : Nat) (y5 y6 y7 y8 y9 y10 : Option V), σ = [some v, some u, some (.str (wS r)), some (.ref D), some (.ref G), y5, y6, y7, y8, y9, y10] ∧ Same H H5 ∧ H D = none ∧ RoAt H H5 D r g kvs ∧ RI c s r d g ∧ H5 G = some (.dK gk) ∧ (gk = [] → Rd c s r g) ∧ kvs.length + 12 * cnt c r g ≤ 130 ∧ m = 2 * cnt c r g + (if gk.isEmpty = true then 0 else 1),
    ⟨_, D, D, kvs, kvs, f0 c s r, 0, none, none, none, none, none, none, rfl, s5, nD, ro, ri0, ro.e, fun e => ri0.empty fun j => by rw [e] at ro; exact ro.nil j, by have := cb (f0 c s r); omega, rfl⟩, fun m σ H5 hW => ?_⟩
  clear ro s5 nD ef hl kl kvs D
  obtain ⟨D, G0, kvs, gk0, f, d, y5, y6, y7, y8, y9, y10, rfl, s5, nD, ro, ri, eG0, hdone, hlen, rfl⟩ := hW
  refine ⟨_, rfl, _, .inr (.inr ⟨gk0, eG0, rfl⟩), ?_⟩
  cases gk0 with
  | nil => exact iteF ⟨_, rfl, q D f kvs H5 s5 nD ro (hdone rfl)⟩
  | cons p0 gr =>
    refine iteT ⟨fun σ' H' => ∃ m', m' < 2 * cnt c r f + 1 ∧ ∃ (D G : Addr) (kvs gk : List (Key × V)) (g : Rf) (d : Nat) (y5 y6 y7 y8 y9 y10 : Option V), σ' = [some v, some u, some (.str (wS r)), some (.ref D), some (.ref G), y5, y6, y7, y8, y9, y10] ∧ Same H H' ∧ H D = none ∧ RoAt H H' D r g kvs ∧ RI c s r d g ∧ H' G = some (.dK gk) ∧ (gk = [] → Rd c s r g) ∧ kvs.length + 12 * cnt c r g ≤ 130 ∧ m' = 2 * cnt c r g + (if gk.isEmpty = true then 0 else 1), fun σ' H' z => z, ?_⟩
    -- a new dict
    intro G nG
    refine at_g (σ' := [some v, some u, some (.str (wS r)), some (.ref D), some (.ref G), y5, y6, y7, y8, y9, y10]) rfl ?_
    have sG := same_new nG (o := .dK [])
    have roG : RoAt H (upd H5 G (.dK [])) G r (fun _ => none) [] := ⟨upd_same, List.nodup_nil, (fun k hk => by cases hk), fun j => .inl ⟨rfl, rfl⟩⟩
    generalize upd H5 G (.dK []) = H6 at sG roG
    obtain ⟨a, g', vs, rfl, ha, hg, hvl, _⟩ := hc.ex
    have s6 := s5.trans sG
    refine ⟨_, rfl, a, _, _, _, rfl, rfl, Same.sq2 s6 ha, rfl, g', vs, rfl, Same.sq2 s6 hg, _, rfl, by omega, by omega, for_it walk_range (fun n σ H7 => ∃ (gk : List (Key × V)) (g : Rf) (y5 y6 y7 y8 y9 y10 : Option V), σ = [some (.ref a), some u, some (.str (wS r)), some (.ref D), some (.ref G), y5, y6, y7, y8, y9, y10] ∧ Same H5 H7 ∧ RoAt H H7 G r g gk ∧ GI c s r f n g ∧ gk.length ≤ n) ⟨[], fun _ => none, y5, y6, y7, y8, y9, y10, rfl, sG, roG, ⟨(fun j ks h => by cases h), fun i row hi => absurd hi (Nat.not_lt_zero _)⟩, Nat.le_refl _⟩ (fun _ _ _ _ _ => trivial) (fun n x σ H7 H8 hn h hy => ?_) (fun σ H7 h => ?_)⟩
    · obtain ⟨gk, g, y5, y6, y7, y8, y9, y10, rfl, s7, roG7, gi, hgl⟩ := h
      obtain ⟨rfl, rfl⟩ := hy
      have hn' : n < c.ls.length := by rw [← hvl]; exact hn
      have hns : n < s.ls.length := by rw [ok.n]; exact hn'
      refine at_g (σ' := [some (.ref a), some u, some (.str (wS r)), some (.ref D), some (.ref G), some (.int (n : Nat)), y6, y7, y8, y9, y10]) (by show _ = [some (V.ref a), some u, some (V.str (wS r)), some (V.ref D), some (V.ref G), some (V.int (n : Nat)), y6, y7, y8, y9, y10]; rw [← Int.zero_add (n : Int)]; rfl) ?_
      have s07 := s5.trans s7
      refine ⟨_, rfl, _, rfl, _, rfl, _, rfl, nil_go ⟨_, u, n, r, c, s, rfl, hc.same s07, (snAny_t hu).same s07, hn', hns, fun p H8 s8 np ep => ?_⟩⟩
      refine ⟨p, _, rfl, .inr (.inl (.inl ep)), rfl, _, _, rfl, _, _, rfl, rfl, ?_⟩
      refine at_s (σ' := [some (.ref a), some u, some (.str (wS r)), some (.ref D), some (.ref G), some (.int (n : Nat)), some (.int (fromTo c s n r).1), some (.int (fromTo c s n r).2), y8, y9, y10]) rfl ?_
      have s58 := s7.trans s8
      have roD8 := ro.move s58
      have roG8 := roG7.move s8
      have skip : (∀ row, f (fromTo c s n r).1 = some row → f (fromTo c s n r).2 ≠ none) → GI c s r f (n + 1) g := fun hsk => ⟨gi.new, fun i row hi h1 h2 => by
        by_cases e : i < n
        · exact gi.cov i row e h1 h2
        · obtain rfl : i = n := by omega
          exact absurd h2 (hsk row h1)⟩
      refine ⟨_, rfl, _, rfl, D, _, rfl, DGet.k (k := .inl (fromTo c s n r).1) roD8.e, _, rfl, ?_⟩
      rcases roD8.v (fromTo c s n r).1 with ⟨h1, h2⟩ | ⟨la, lus, row, h1, h2, h3, h4⟩
      · rw [h1]
        exact iteF (iteF ⟨gk, g, _, _, _, _, _, _, rfl, s58, roG8, skip (fun row h => by rw [h2] at h; cases h), by omega⟩)
      · rw [h1]
        refine iteT ⟨_, rfl, _, rfl, D, _, rfl, DGet.k (k := .inl (fromTo c s n r).2) roD8.e, _, rfl, ?_⟩
        rcases roD8.v (fromTo c s n r).2 with ⟨k1, k2⟩ | ⟨ka, kus, krow, k1, k2, k3, k4⟩
        · rw [k1]
          refine iteT ?_
          have gD : DGet H8 D (.int (fromTo c s n r).1) (some (.ref la)) := by
            have := DGet.k (k := .inl (fromTo c s n r).1) roD8.e
            rw [h1] at this; exact this
          refine ⟨_, rfl, _, rfl, D, _, rfl, gD, _, rfl, _, rfl, (by show 2 ≤ sizeLine; decide), fun T nT => ⟨(by show 1 ≤ sizeLine; decide), fun L nL => ?_⟩⟩
          have sT := same_new nT (o := .tup [.int (n : Nat), .str (wS r)])
          have eT : (upd H8 T (.tup [.int (n : Nat), .str (wS r)])) T = some (.tup [.int (n : Nat), .str (wS r)]) := upd_same
          generalize upd H8 T (.tup [.int (n : Nat), .str (wS r)]) = H9 at sT eT nL
          have sL := same_new nL (o := .lst [.ref T])
          have eL : (upd H9 L (.lst [.ref T])) L = some (.lst [.ref T]) := upd_same
          generalize upd H9 L (.lst [.ref T]) = H10 at sL eL
          have s810 := sT.trans sL
          have h3b := h3.move (s810 _ _ h3.e) (Tp.of s810)
          have hlus : lus.length ≤ 10 := by rw [h3b.l]; unfold rowOf; rw [List.length_map]; have := (ri.rng _ _ h2).2; have := ri.ct _ _ h2; omega
          refine ⟨la, L, _, _, rfl, rfl, h3b.e, eL, Nat.le_of_lt (small1000' (by show _ + 1 ≤ 1000; omega)), fun R nR => ?_⟩
          refine at_s (σ' := [some (.ref a), some u, some (.str (wS r)), some (.ref D), some (.ref G), some (.int (n : Nat)), some (.int (fromTo c s n r).1), some (.int (fromTo c s n r).2), some (.ref R), y9, y10]) rfl ?_
          have sR := same_new nR (o := .lst (lus ++ [.ref T]))
          have eR : (upd H10 R (.lst (lus ++ [.ref T]))) R = some (.lst (lus ++ [.ref T])) := upd_same
          generalize upd H10 R (.lst (lus ++ [.ref T])) = H11 at sR eR
          have s811 := s810.trans sR
          have MR : MvAt H11 R (rowOf r (row ++ [n])) (lus ++ [.ref T]) := by
            rw [rowOf_snoc]
            refine ⟨eR, by rw [List.length_append, List.length_append, h3b.l]; rfl, fun j y hj => ?_⟩
            by_cases e : j < lus.length
            · rw [List.getElem?_append_left e] at hj
              obtain ⟨t', m', e1, e2, e3⟩ := h3b.d j y hj
              exact ⟨t', m', e1, by rw [List.getElem?_append_left (by rw [← h3b.l]; exact e)]; exact e2, sR _ _ e3⟩
            · rw [List.getElem?_append_right (by omega)] at hj
              have hj0 : j - lus.length = 0 := by
                have := (List.getElem?_eq_some_iff.mp hj).1
                simp at this; omega
              rw [hj0] at hj
              obtain rfl : V.ref T = y := Option.some.inj hj
              exact ⟨T, (n, r), rfl, by rw [List.getElem?_append_right (by rw [← h3b.l]; omega), ← h3b.l, hj0]; rfl, sR _ _ (sL _ _ eT)⟩
          have roG11 := roG8.move s811
          have hRG : R ≠ G := fun z => by rw [z, (roG8.move s810).e] at nR; cases nR
          have s511 := s58.trans s811
          have dpm : ∀ {x : Addr} {ks : List Nat} {us : List V}, MvAt H11 x (rowOf r ks) us → Dp K H11 (.ref x) (.list ((rowOf r ks).map mvD)) := fun {x ks us} M => .lst (SqL.of M.e) (MvAt.dp (a := x) M.l M.d)
          have fin : ∀ (va : Addr) (vus : List V) (vks : List Nat), MvAt H11 va (rowOf r vks) vus → va ≠ G ∧ H va = none → (∃ row i, vks = row ++ [i] ∧ i < c.ls.length ∧ (fromTo c s i r).2 = (fromTo c s n r).2 ∧ f (fromTo c s i r).1 = some row) → ∃ (gk' : List (Key × V)) (g : Rf) (y5' y6' y7' y8' y9' y10' : Option V), [some (V.ref a), some u, some (V.str (wS r)), some (V.ref D), some (V.ref G), some (.int (n : Nat)), some (.int (fromTo c s n r).1), some (.int (fromTo c s n r).2), some (.ref R), y9, y10] = [some (V.ref a), some u, some (V.str (wS r)), some (V.ref D), some (V.ref G), y5', y6', y7', y8', y9', y10'] ∧ Same H5 (upd H11 G (.dK (putK gk (.inl (fromTo c s n r).2) (.ref va)))) ∧ RoAt H (upd H11 G (.dK (putK gk (.inl (fromTo c s n r).2) (.ref va)))) G r g gk' ∧ GI c s r f (n + 1) g ∧ gk'.length ≤ n + 1 := by
            intro va vus vks M hva hnew
            refine ⟨_, fun j => if j = (fromTo c s n r).2 then some vks else g j, _, _, _, _, _, _, rfl, fun x o e => by rw [upd_ne (ne_of_none e nG)]; exact s511 _ _ e, ⟨upd_same, nodup_put roG11.n, key_put roG11.k, fun j => ?_⟩, ⟨fun j ks h => ?_, fun i row' hi h1' h2' => ?_⟩, by have := length_putK gk (.inl (fromTo c s n r).2) (.ref va); omega⟩
            · rw [valV_put]
              by_cases e : j = (fromTo c s n r).2
              · subst e
                refine .inr ⟨va, vus, vks, by rw [if_pos rfl], by rw [if_pos rfl], M.move (by rw [upd_ne hva.1]; exact M.e) (tp_dk roG11.e), hva⟩
              · rw [if_neg (fun z => e (Sum.inl.inj z)), if_neg e]
                rcases roG11.v j with h | ⟨a', us', ks', x1, x2, x3, x4⟩
                · exact .inl h
                · exact .inr ⟨a', us', ks', x1, x2, x3.move (by rw [upd_ne x4.1]; exact x3.e) (tp_dk roG11.e), x4⟩
            · by_cases e : j = (fromTo c s n r).2
              · rw [if_pos e] at h
                obtain rfl := Option.some.inj h
                obtain ⟨row', i, z1, z2, z3, z4⟩ := hnew
                exact ⟨by rw [e]; exact k2, row', i, z1, z2, by rw [e]; exact z3, z4⟩
              · rw [if_neg e] at h
                exact gi.new j ks h
            · by_cases e : (fromTo c s i r).2 = (fromTo c s n r).2
              · show (if (fromTo c s i r).2 = (fromTo c s n r).2 then some vks else g (fromTo c s i r).2) ≠ none
                rw [if_pos e]; exact fun z => nomatch z
              · show (if (fromTo c s i r).2 = (fromTo c s n r).2 then some vks else g (fromTo c s i r).2) ≠ none
                rw [if_neg e]
                by_cases e' : i < n
                · exact gi.cov i row' e' h1' h2'
                · obtain rfl : i = n := by omega
                  exact absurd rfl e
          have newR : ∃ row' i, row ++ [n] = row' ++ [i] ∧ i < c.ls.length ∧ (fromTo c s i r).2 = (fromTo c s n r).2 ∧ f (fromTo c s i r).1 = some row' := ⟨row, n, rfl, hn', rfl, h2⟩
          have lt0 : gk.length < sizeLine := small1000' (by omega)
          refine ⟨_, rfl, G, rfl, .inl ⟨gk, .inl roG11.e⟩, _, rfl, _, rfl, _, DGet.k (k := .inl (fromTo c s n r).2) roG11.e, _, rfl, ?_⟩
          rcases roG11.v (fromTo c s n r).2 with ⟨x1, x2⟩ | ⟨a', us', ks', x1, x2, x3, x4⟩
          · rw [x1]
            refine ⟨_, _, _, _, rfl, dpm MR, dpm MR, row_alike2 r _ _, row_depth r _ _, ?_⟩
            rw [show ∀ b : Bool, (if b = true then V.ref R else (none : Option V).getD (V.ref R)) = V.ref R from fun b => by cases b <;> rfl]
            exact ⟨_, rfl, _, rfl, G, _, rfl, .inl ⟨gk, .inl (fromTo c s n r).2, roG11.e, rfl, lt0, rfl⟩, fin R _ _ MR ⟨hRG, (s5.trans (s58.trans s810)).free nR⟩ newR⟩
          · rw [x1]
            refine ⟨_, _, _, _, rfl, dpm x3, dpm MR, row_alike2 r _ _, row_depth r _ _, ?_⟩
            cases PySem.W.dataLt (.list ((rowOf r (row ++ [n])).map mvD)) (.list ((rowOf r ks').map mvD)) with
            | true => exact ⟨_, rfl, _, rfl, G, _, rfl, .inl ⟨gk, .inl (fromTo c s n r).2, roG11.e, rfl, lt0, rfl⟩, fin R _ _ MR ⟨hRG, (s5.trans (s58.trans s810)).free nR⟩ newR⟩
            | false =>
              obtain ⟨_, row', i, z1, z2, z3, z4⟩ := gi.new _ _ x2
              exact ⟨_, rfl, _, rfl, G, _, rfl, .inl ⟨gk, .inl (fromTo c s n r).2, roG11.e, rfl, lt0, rfl⟩, fin a' _ _ x3 x4 ⟨row', i, z1, z2, z3, z4⟩⟩
        · rw [k1]
          exact iteF ⟨gk, g, _, _, _, _, _, _, rfl, s58, roG8, skip (fun row h e => by rw [k2] at e; cases e), by omega⟩
    · obtain ⟨gk, g, y5, y6, y7, y8, y9, y10, rfl, s7, roG7, gi, hgl⟩ := h
      rw [hvl] at gi hgl
      have roD7 := ro.move s7
      intro p np
      have hDp : D ≠ p := fun z => by rw [← z, roD7.e] at np; cases np
      have hGp : G ≠ p := fun z => by rw [← z, roG7.e] at np; cases np
      refine ⟨_, rfl, D, kvs, rfl, hDp, upd_same, by rw [upd_ne hDp]; exact roD7.e, by omega, _, rfl, G, gk, rfl, hGp, upd_same, by rw [upd_ne hGp, upd_ne hGp]; exact roG7.e, by omega, ?_⟩
      refine at_g (σ' := [some (.ref a), some u, some (.str (wS r)), some (.ref p), some (.ref G), y5, y6, y7, y8, y9, y10]) rfl ?_
      rw [upd_upd, upd_upd]
      have sp := same_new np (o := .dK (mergeK (mergeK [] kvs) gk))
      have hnd : ((mergeK [] kvs).map (·.1)).Nodup := nodup_merge (more := kvs) List.nodup_nil
      have roP : RoAt H (upd H7 p (.dK (mergeK (mergeK [] kvs) gk))) p r (both g f) (mergeK (mergeK [] kvs) gk) := by
        refine ⟨upd_same, nodup_merge hnd, key_merge roG7.k (key_merge roD7.k (fun k hk => by cases hk)), fun j => ?_⟩
        rw [valV_merge _ roG7.n, valV_merge _ roD7.n]
        rcases roG7.v j with ⟨h1, h2⟩ | ⟨la, lus, row, h1, h2, h3, h4⟩
        · rw [h1, both_none h2]
          rcases roD7.v j with ⟨k1, k2⟩ | ⟨ka, kus, krow, k1, k2, k3, k4⟩
          · rw [k1]; exact .inl ⟨rfl, k2⟩
          · rw [k1]
            exact .inr ⟨ka, kus, krow, rfl, k2, k3.move (sp _ _ k3.e) (Tp.of sp), (fun z => by rw [← z, k3.e] at np; cases np), k4.2⟩
        · rw [h1, both_some h2]
          exact .inr ⟨la, lus, row, rfl, rfl, h3.move (sp _ _ h3.e) (Tp.of sp), (fun z => by rw [← z, h3.e] at np; cases np), h4.2⟩
      have eG := sp _ _ roG7.e
      have nP : H p = none := (s5.trans s7).free np
      have ln := length_mergeK gk (mergeK [] kvs)
      have ln2 := length_mergeK kvs []
      rw [List.length_nil] at ln2
      have sH := (s5.trans s7).trans sp
      cases gk with
      | nil =>
        have gn : ∀ j, g j = none := fun j => roG7.nil j
        rw [both_empty gn] at roP
        refine ⟨2 * cnt c r f + 0, by omega, p, G, _, [], f, d, _, _, _, _, _, _, rfl, sH, nP, roP, ri, eG, fun _ => ri.done gi gn, ?_, rfl⟩
        rw [List.length_nil] at ln; omega
      | cons pg gr' =>
        obtain ⟨j0, k0, h0⟩ := roG7.some
        obtain ⟨ri', hcn⟩ := ri.step okc gi h0
        refine ⟨2 * cnt c r (both g f) + 1, by omega, p, G, _, _, both g f, d + 1, _, _, _, _, _, _, rfl, sH, nP, roP, ri', eG, (fun z => by cases z), ?_, rfl⟩
        omega
end
end XL
namespace XL
open PySem PySem.Spec PyProof.Rows L2
abbrev sAs : Stmt := topS 19
section
variable {P : Program} {w : World} {K : PySem.W.Frag} {mg : Str → Option Value} {base : Heap}
/-! ### asleep, woken -/
def slp (c : Cn) (r : Bool) (f : Rf) : List Nat := (List.range (basW r c).toNat).filter fun j : Nat => (f (j : Int)).isNone
abbrev natI (ns : List Nat) : List Int := ns.map fun n : Nat => (n : Int)
abbrev nAs : List Str := ["canal", "standing", "water", "awake", "basin"]
theorem scAs : FnScope nAs ["canal", "standing", "water"] (defScope sAs) := ⟨rfl, rfl, rfl, by decide +kernel, rfl, by decide +kernel, by decide +kernel⟩
def spAs (K : PySem.W.Frag) : Sp := fun vs H Q _ => ∃ (v u : V) (r : Bool) (c : Cn) (s : Sn) (B : Int), vs = [v, u, .str (wS r)] ∧ CnAny K H v c ∧ Dp K H u (snD s) ∧ okCn 10 12 c ∧ okSn c B s ∧ Alone s r ∧
  ∀ (L : Addr) (f : Rf) (H' : Hp), Same H H' → H L = none → Rd c s r f → H' L = some (.lst ((natI (slp c r f)).map V.int)) → Q (.ref L) H'
theorem ok_as {f fa fo fb : Addr} {fd fda fdo fdb : FuncData} {k : Nat} (F : Fun K "asleep" "asleep" sAs f fd) (Al : Fns P w K mg base k "be_alone" ["standing", "water"] (spAl K) fa fda) (Ro : Fns P w K mg base k "roads" ["canal", "standing", "water"] (spRo K) fo fdo) (Ba : Fns P w K mg base k "basins_of" ["canal", "water"] (spBas K) fb fdb)
    (m_range : mg "range" = none) : FnOk P w K mg base CX0 (k + 1) f fd ["canal", "standing", "water"] (spAs K) := by
  refine F.ok scAs (fun vs H Q E h => ?_) (fun cdv A outer s H vs Q E hr h => ?_)
  · obtain ⟨v, u, r, c, s, B, rfl, _⟩ := h
    rfl
  obtain ⟨v, u, r, c, s, B, rfl, hc, hu, okc, ok, hal, q⟩ := h
  refine ⟨_, (pss_cons (ps_expr (pe_fn Al hr rfl (pa_cons (pv 1) (pa_cons (pv 2) pa_nil))))
    (pss_cons (ps_set (i := 3) scAs.nd rfl (.inr rfl) (pe_fn Ro hr rfl (pa_cons (pv 0) (pa_cons (pv 1) (pa_cons (pv 2) pa_nil)))))
    (pss_one (ps_ret (pe_lc (own := [("basin", 4)]) (g := gName 4) rfl scAs.nd (pi_range1 rfl m_range (pa_cons (pe_fn Ba hr rfl (pa_cons (pv 0) (pa_cons (pv 2) pa_nil))) pa_nil)) (blkOk_by (own := [("basin", 4)]) (N := nAs) (sc := defScope sAs) (by decide +kernel)) (fun _ _ _ _ _ => (pg_name (i := 4) scAs.nd rfl (.inl rfl))) (fun _ _ _ _ _ => (pts_one (pt_cmp (pc_dnotin (hu1 hr.units) (pv 4) (pv 3)) rfl))) (fun _ _ _ _ _ => pe_hide (pv 4))))))), ?_⟩
  have hnn : 0 ≤ basW r c := by rw [← boats_len ok r]; omega
  have hnB : basW r c ≤ 10 := by
    cases r with
    | true => exact okc.r2
    | false => exact okc.b2
  refine ⟨_, rfl, _, rfl, nil_go ⟨u, r, s, rfl, hu, hal, fun H1 s1 => ?_⟩⟩
  refine ⟨_, rfl, _, rfl, _, rfl, nil_go ⟨v, u, r, c, s, B, rfl, hc.same s1, Dp.same s1 _ hu, okc, ok, fun D f kvs H2 s2 nD ro rd => ?_⟩⟩
  refine at_g (σ' := [some v, some u, some (.str (wS r)), some (.ref D), none]) rfl ?_
  have s12 := s1.trans s2
  refine ⟨_, rfl, _, rfl, nil_go ⟨v, r, c, rfl, hc.same s12, ?_⟩⟩
  obtain ⟨nb, enb⟩ : ∃ nb : Nat, basW r c = (nb : Int) := ⟨(basW r c).toNat, by omega⟩
  have esl : slp c r f = (List.range nb).filter fun j : Nat => (f (j : Int)).isNone := by unfold slp; rw [enb]; rfl
  refine nil_go ⟨_, rfl, by omega, by omega, fun L nL => ?_⟩
  rw [enb]
  refine lc_it walk_range (fun i Hc => Hc L = some (.lst ((natI ((List.range i).filter fun j : Nat => (f (j : Int)).isNone)).map V.int)) ∧ Same H2 Hc) ⟨upd_same, same_new nL⟩ (fun _ _ _ _ => trivial) (fun i x Hc H' hi h hy => ?_) (fun Hc h => ?_)
  · obtain ⟨eL, sc⟩ := h
    obtain ⟨rfl, rfl⟩ := hy
    refine ⟨rfl, ?_⟩
    have ro' := ro.move sc
    refine ⟨_, rfl, _, rfl, D, _, rfl, DGet.k (k := .inl (0 + (i : Int))) ro'.e, _, rfl, ?_⟩
    rw [Int.zero_add]
    have hl : ((natI ((List.range i).filter fun j : Nat => (f (j : Int)).isNone)).map V.int).length ≤ 1000 := by
      rw [List.length_map, List.length_map]
      have := List.length_filter_le (fun j : Nat => (f (j : Int)).isNone) (List.range i)
      rw [List.length_range] at this
      have h2 : i < nb := hi
      omega
    rcases ro'.v (i : Int) with ⟨h1, h2⟩ | ⟨la, lus, row, h1, h2, _, _⟩
    · rw [h1]
      refine iteT ⟨L, _, eL, _, rfl, fun _ => ⟨_, upd_same, small1000' hl, ?_, fun z o e => ?_⟩⟩
      · rw [upd_same, List.range_succ, List.filter_append, List.filter_cons_of_pos (by rw [h2]; rfl), List.filter_nil]
        show some (HO.lst (List.map V.int (natI (List.filter (fun j : Nat => (f (j : Int)).isNone) (List.range i))) ++ [V.int (0 + (i : Int))])) = _
        unfold natI
        rw [List.map_append, List.map_append, Int.zero_add]
        rfl
      · have hzD : z ≠ L := ne_of_none e nL
        rw [upd_ne hzD, upd_ne hzD]
        unfold delH
        rw [if_neg hzD]
        exact sc _ _ e
    · rw [h1]
      refine iteF ⟨?_, sc⟩
      rw [List.range_succ, List.filter_append, List.filter_cons_of_neg (by rw [h2]; exact fun z => nomatch z), List.filter_nil, List.append_nil]
      exact eL
  · obtain ⟨eL, sc⟩ := h
    refine q L f Hc (s12.trans sc) (s12.free nL) rd ?_
    rw [esl]; exact eL
end
end XL
namespace XL
open PySem PySem.Spec PyProof.Rows L2
/-! ### zip of three, each a list or a tuple -/
def SqB (K : PySem.W.Frag) (b : Bool) (H : Hp) (a : Addr) (xs : List V) : Prop := match b with | true => SqL K H a xs | false => SqT K H a xs
def ItB (b : Bool) (h : Heap) (it a : Addr) (i : Nat) : Prop := match b with | true => h.IsListIter it a i | false => h.IsTupleIter it a i
def SeqB (b : Bool) (h : Heap) (a : Addr) (its : Array Value) : Prop := match b with | true => h.IsList a its | false => h.IsTuple a its
theorem sqB_of {K : PySem.W.Frag} {H : Hp} {a : Addr} {xs : List V} (h : Sq2 K H a xs) : ∃ b, SqB K b H a xs := by
  rcases h with h | h
  · exact ⟨true, h⟩
  · exact ⟨false, h⟩
theorem Same.sqB {K : PySem.W.Frag} {b : Bool} {H H' : Hp} {a : Addr} {xs : List V} (s : Same H H') (h : SqB K b H a xs) : SqB K b H' a xs := by
  cases b with
  | true => exact s.seq h
  | false => exact Same.tup s h
theorem ItB.obj {b : Bool} {h : Heap} {it a : Addr} {i : Nat} (q : ItB b h it a i) : ∃ o, h.get? it = some o ∧ ∀ v, o.data ≠ .cell v := by
  cases b with
  | true => obtain ⟨o, e, _, d⟩ := q; exact ⟨o, e, fun v z => by rw [d] at z; cases z⟩
  | false => obtain ⟨o, e, _, d⟩ := q; exact ⟨o, e, fun v z => by rw [d] at z; cases z⟩
theorem ItB.at {b : Bool} {h h' : Heap} {it a : Addr} {i : Nat} (q : ItB b h it a i) (k : ∀ o, h.get? it = some o → h'.get? it = some o) : ItB b h' it a i := by
  cases b with
  | true => exact Heap.IsListIter.at q k
  | false => exact Heap.IsTupleIter.at q k
theorem drawsB {prog : Program} {w : World} {A : Around} (hA : A.handled = none) (b : Bool) (it a : Addr) (hne : a ≠ it) (its : Array Value) : Draws prog w A it [it, a] its.size (fun i v => its[i]? = some v) (fun i h => ItB b h it a i ∧ SeqB b h a its) := by
  cases b with
  | true => exact Draws.list hA it a hne its
  | false => exact Draws.tuple hA it a hne its
theorem seqB_of {X : Cx} {pins : List (Addr × Obj)} {σ : L2.St} {H : Hp} {s : Shared} {a : Addr} {xs : List V} {b : Bool} (I : Inv X pins σ H s) (h : SqB X.K b H a xs) : ∃ its, Vals xs its ∧ SeqB b s.heap a its.toArray ∧ a < s.heap.objs.size := by
  cases b with
  | true =>
    obtain ⟨its, rv, p, _⟩ := I.list h
    exact ⟨its, rv, p.isList, p.lt⟩
  | false =>
    obtain ⟨its, rv, p, _⟩ := I.tuple h
    obtain ⟨o, ho, _⟩ := id p
    exact ⟨its, rv, p, Heap.lt_size ho⟩
theorem sqB_inj {X : Cx} {pins : List (Addr × Obj)} {σ : L2.St} {H : Hp} {s : Shared} {a : Addr} {xs ys : List V} {b : Bool} (I : Inv X pins σ H s) (h : SqB X.K b H a xs) (h' : SqB X.K b H a ys) : xs = ys := by
  cases b with
  | true => exact I.list_inj h h'
  | false => exact I.tuple_inj h h'
theorem beginsB (b : Bool) (a : Addr) (its : Array Value) : ∃ o, Begins (.ref a) o (fun h => SeqB b h a its) ∧ ∀ (h : Heap) (it : Addr), h.get? it = some o → ItB b h it a 0 := by
  cases b with
  | true => exact ⟨_, begins_list a its, fun h it e => ⟨_, e, rfl, rfl⟩⟩
  | false => exact ⟨_, begins_tuple a its, fun h it e => ⟨_, e, rfl, rfl⟩⟩
def Itz3B (K : PySem.W.Frag) (x1 x2 x3 : Bool) (a b c : Addr) : It :=
  ⟨fun i H => ∃ (xs ys zs : List V) (x y z : V), SqB K x1 H a xs ∧ SqB K x2 H b ys ∧ SqB K x3 H c zs ∧ xs[i]? = some x ∧ ys[i]? = some y ∧ zs[i]? = some z,
    fun i H v H' => ∃ T x y z, v = .ref T ∧ H T = none ∧ H' = upd H T (.tup [x, y, z]) ∧ (∀ xs, SqB K x1 H a xs → xs[i]? = some x) ∧ (∀ ys, SqB K x2 H b ys → ys[i]? = some y) ∧ ∀ zs, SqB K x3 H c zs → zs[i]? = some z,
    fun i H => ∃ xs ys zs : List V, SqB K x1 H a xs ∧ SqB K x2 H b ys ∧ SqB K x3 H c zs ∧ i ≤ xs.length ∧ i ≤ ys.length ∧ i ≤ zs.length ∧ (i = xs.length ∨ i = ys.length ∨ i = zs.length)⟩
theorem turn_zip3B {P : Program} {w : World} {K : PySem.W.Frag} {elts : List Expr} {kk : Nat} {tpos : Pos} {x1 x2 x3 : Bool} {a b c z TI TO i1 i2 i3 : Addr} (S : ZipSep3 z TI TO i1 i2 i3 [i1, a] [i2, b] [i3, c]) (na : a ≠ i1) (nb : b ≠ i2) (nc : c ≠ i3) :
    Turn P w K (.Tuple elts kk tpos) (Itz3B K x1 x2 x3 a b c) [z, TI, TO, i1, i2, i3] z (fun i h => IsZip h z TI TO .none ∧ IsTupOf3 h TI (.ref i1) (.ref i2) (.ref i3) ∧ (∃ x y u, IsTupOf3 h TO x y u) ∧ ItB x1 h i1 a i ∧ ItB x2 h i2 b i ∧ ItB x3 h i3 c i) where
  mem := by simp
  obj := fun i h st c hc => by
    obtain ⟨hz, hTI, ⟨x, y, u, hTO⟩, h1, h2, h3⟩ := st
    have e' : c = z ∨ c = TI ∨ c = TO ∨ c = i1 ∨ c = i2 ∨ c = i3 := by simpa using hc
    rcases e' with q | q | q | q | q | q
    · rw [q]; exact ⟨_, hz, fun v q => nomatch q⟩
    · rw [q]; exact ⟨_, hTI, fun v q => nomatch q⟩
    · rw [q]; exact ⟨_, hTO, fun v q => nomatch q⟩
    · rw [q]; exact ItB.obj h1
    · rw [q]; exact ItB.obj h2
    · rw [q]; exact ItB.obj h3
  keep := fun i h h' st k => by
    obtain ⟨hz, hTI, ⟨x, y, u, hTO⟩, h1, h2, h3⟩ := st
    exact ⟨k z (by simp) _ hz, k TI (by simp) _ hTI, ⟨x, y, u, k TO (by simp) _ hTO⟩, ItB.at h1 fun o q => k i1 (by simp) o q, ItB.at h2 fun o q => k i2 (by simp) o q, ItB.at h3 fun o q => k i3 (by simp) o q⟩
  item := by
    intro X hP hw hK hc i pins s σ H E I hf st hg
    subst hP hw hK
    obtain ⟨hz, hTI, ⟨x0, y0, u0, hTO⟩, h1, h2, h3⟩ := st
    obtain ⟨xs, ys, zs, x, y, z', hqx, hqy, hqz, hx, hy, hzz⟩ := hg
    obtain ⟨its, rv, p, _⟩ := seqB_of I hqx
    obtain ⟨its2, rv2, p2, _⟩ := seqB_of I hqy
    obtain ⟨its3, rv3, p3, _⟩ := seqB_of I hqz
    obtain ⟨u, hu, ru⟩ := rv.get hx
    obtain ⟨u2, hu2, ru2⟩ := rv2.get hy
    obtain ⟨u3, hu3, ru3⟩ := rv3.get hzz
    have hzl : z < s.heap.objs.size := Heap.lt_size hz
    have lt : ∀ {l : List Value} {v : Value}, l[i]? = some v → i < l.toArray.size := fun {l v} e => by rw [List.size_toArray]; exact (List.getElem?_eq_some_iff.mp e).1
    refine wpAny_pyNext_zipD3_item S (drawsB (A := X.A.in1) (I.ok.hd hc) x1 i1 a na its.toArray) (drawsB (A := X.A.in1) (I.ok.hd hc) x2 i2 b nb its2.toArray) (drawsB (A := X.A.in1) (I.ok.hd hc) x3 i3 c nc its3.toArray) hz hTI hTO ⟨h1, p⟩ ⟨h2, p2⟩ ⟨h3, p3⟩ (lt hu) (lt hu2) (lt hu3) fun v1 v2 v3 h' tk y1 y2 y3 zh TO' d1 d2 d3 hT hsz hk => ?_
    have ev : ∀ {l : List Value} {v v' : Value}, l.toArray[i]? = some v' → l[i]? = some v → v' = v := fun {l v v'} e1 e2 => by
      rw [List.getElem?_toArray, e2] at e1; exact (Option.some.inj e1).symm
    obtain rfl := ev y1 hu
    obtain rfl := ev y2 hu2
    obtain rfl := ev y3 hu3
    refine ⟨_, rfl, wpAny_letOwnedTupleGo_zip (s := { s with heap := h', toks := tk }) zh fun h'' z'' sb => ?_⟩
    have hT2 : h''.get? s.heap.objs.size = some { cls := .type "tuple", data := .seq #[v1, v2, v3] } := (sb.2 _ (Nat.ne_of_gt hzl)).trans hT
    have new : ObjOk X.prog X.w (upd H s.heap.objs.size (.tup [x, y, z'])) h'' s.heap.objs.size (.tup [x, y, z']) :=
      ⟨by show 3 ≤ sizeLine; decide, [v1, v2, v3], .cons ru (.cons ru2 (.cons ru3 .nil)), ⟨_, hT2, rfl, _, rfl⟩⟩
    have I1 : Inv X pins σ (upd H s.heap.objs.size (.tup [x, y, z'])) { s with heap := h'', toks := tk } :=
      I.turnedNew (ch := [z, TI, TO, i1, i2, i3]) (fun c o hb q => (sb.2 c (fun q' => hb (by simp [q']))).trans (hk c o (fun q' => hb (by simp [q'])) (fun q' => hb (by simp [q'])) (fun q' => hb (by simp [q'])) (fun q' => hb (by simp [q'])) (fun q' => hb (by simp [q'])) q)) hf (Nat.le_refl _) new
    refine ⟨.ref s.heap.objs.size, _, I1, rfl, ⟨_, x, y, z', rfl, I.hok.fresh (Nat.le_refl _), rfl, fun l hl => by rw [sqB_inj I hl hqx]; exact hx, fun l hl => by rw [sqB_inj I hl hqy]; exact hy, fun l hl => by rw [sqB_inj I hl hqz]; exact hzz⟩, ⟨z'', ?_, ⟨v1, v2, v3, ?_⟩, ?_, ?_, ?_⟩, fun c hcm => ?_⟩
    · exact (sb.2 _ S.TIz).trans (hk _ _ S.TIz S.TITO S.TIi1 S.TIi2 S.TIi3 hTI)
    · exact (sb.2 _ S.TOz).trans TO'
    · exact ItB.at d1.1 fun o q => (sb.2 _ (Ne.symm S.zi1)).trans q
    · exact ItB.at d2.1 fun o q => (sb.2 _ (Ne.symm S.zi2)).trans q
    · exact ItB.at d3.1 fun o q => (sb.2 _ (Ne.symm S.zi3)).trans q
    · have hlt : c < s.heap.objs.size := by
        have e' : c = z ∨ c = TI ∨ c = TO ∨ c = i1 ∨ c = i2 ∨ c = i3 := by simpa using hcm
        rcases e' with q | q | q | q | q | q
        · rw [q]; exact hzl
        · rw [q]; exact Heap.lt_size hTI
        · rw [q]; exact Heap.lt_size hTO
        · rw [q]; obtain ⟨_, e1, _⟩ := ItB.obj h1; exact Heap.lt_size e1
        · rw [q]; obtain ⟨_, e2, _⟩ := ItB.obj h2; exact Heap.lt_size e2
        · rw [q]; obtain ⟨_, e3, _⟩ := ItB.obj h3; exact Heap.lt_size e3
      rw [upd_ne (Nat.ne_of_lt hlt)]
      exact (hf c hcm).1
  done := by
    intro X hP hw hK hc i pins s σ H E I hf st hg
    subst hP hw hK
    obtain ⟨hz, hTI, ⟨x0, y0, u0, hTO⟩, h1, h2, h3⟩ := st
    obtain ⟨xs, ys, zs, hqx, hqy, hqz, e1, e2, e3, hend⟩ := hg
    obtain ⟨its, rv, p, _⟩ := seqB_of I hqx
    obtain ⟨its2, rv2, p2, _⟩ := seqB_of I hqy
    obtain ⟨its3, rv3, p3, _⟩ := seqB_of I hqz
    have l1 := rv.length
    have l2 := rv2.length
    have l3 := rv3.length
    exact wpAny_pyNext_zipD3_end S (drawsB (A := X.A.in1) (I.ok.hd hc) x1 i1 a na its.toArray) (drawsB (A := X.A.in1) (I.ok.hd hc) x2 i2 b nb its2.toArray) (drawsB (A := X.A.in1) (I.ok.hd hc) x3 i3 c nc its3.toArray) hz hTI hTO ⟨h1, p⟩ ⟨h2, p2⟩ ⟨h3, p3⟩ (by rw [List.size_toArray]; omega) (by rw [List.size_toArray]; omega) (by rw [List.size_toArray]; omega) (by rw [List.size_toArray, List.size_toArray, List.size_toArray]; omega)
      fun h' tk hk => ⟨rfl, I.turnedL (t' := tk) (ch := [z, TI, TO, i1, i2, i3]) (fun c o hb q =>
      hk c o (fun q' => hb (by simp [q'])) (fun q' => hb (by simp [q'])) (fun q' => hb (by simp [q'])) (fun q' => hb (by simp [q'])) (fun q' => hb (by simp [q'])) q) hf⟩
  self := fun A i s Q E st h => wpAny_pyIter_zip st.1 h
theorem walk_zip3B {K : PySem.W.Frag} {x1 x2 x3 : Bool} {a b c : Addr} {xs ys zs : List V} {n : Nat} (hn : n = min (min xs.length ys.length) zs.length) : Walk (Itz3B K x1 x2 x3 a b c) n (fun H => SqB K x1 H a xs ∧ SqB K x2 H b ys ∧ SqB K x3 H c zs) (YTrip (fun i => xs[i]?) (fun i => ys[i]?) (fun i => zs[i]?)) := by
  subst hn
  refine ⟨fun i _ hi q => ?_, fun _ q => ⟨xs, ys, zs, q.1, q.2.1, q.2.2, by omega, by omega, by omega, by omega⟩, fun i H v H' _ q y => ?_⟩
  · have h1 : i < xs.length := by omega
    have h2 : i < ys.length := by omega
    have h3 : i < zs.length := by omega
    exact ⟨xs, ys, zs, xs[i], ys[i], zs[i], q.1, q.2.1, q.2.2, by simp [h1], by simp [h2], by simp [h3]⟩
  · obtain ⟨T, x, y, z, h1, h2, h3, h4, h5, h6⟩ := y
    exact ⟨T, x, y, z, h1, h2, h3, h4 xs q.1, h5 ys q.2.1, h6 zs q.2.2⟩
def iZ3B (K : PySem.W.Frag) (ta : TA) : TI := fun σ H R => ta σ H fun vs H1 => ∃ a b c x1 x2 x3 xs ys zs, vs = [.ref a, .ref b, .ref c] ∧ SqB K x1 H1 a xs ∧ SqB K x2 H1 b ys ∧ SqB K x3 H1 c zs ∧
  ∀ J, Walk J (min (min xs.length ys.length) zs.length) (fun H => Same H1 H) (YTrip (fun i => xs[i]?) (fun i => ys[i]?) (fun i => zs[i]?)) → R J H1
theorem pi_z3B {X : Cx} {e e2 e3 : Expr} {ta : TA} {p pos tpos : Pos} {elts : List Expr} {kk : Nat} (hg : Gl X "zip") (hm : X.mg "zip" = none) (ha : PA X [e, e2, e3] ta)
    (hs : starEach [e, e2, e3] X.env = (false, eval e X.env) :: starEach [e2, e3] X.env := by rfl) (hpl : (backTo pos (starEach [e2, e3] X.env)).any (·.1) = false := by rfl) :
    PI X (.Tuple elts kk tpos) (.Call (.Name "zip" p) [e, e2, e3] [] pos) (iZ3B X.K ta) := by
  refine ⟨fun pins s σ H R I h => ?_⟩
  refine Call_ (ld_blt I hg hm PyProof.Rows.boot_zip (PyProof.Rows.callWith_type1 (thn (ha.run pos pins s σ H _ I h) fun us s1 ⟨vs, H1, I1, r1, q1⟩ => ?_) hs hpl))
  obtain ⟨a, b, c, x1, x2, x3, xs, ys, zs, ex, hqx, hqy, hqz, q⟩ := q1
  subst ex
  cases r1 with
  | cons r rr =>
    cases rr with
    | cons r' rr =>
      cases rr with
      | cons r'' rr =>
        cases rr
        cases r
        cases r'
        cases r''
        obtain ⟨its, rv, p1, la⟩ := seqB_of I1 hqx
        obtain ⟨its2, rv2, p2, lb⟩ := seqB_of I1 hqy
        obtain ⟨its3, rv3, p3, lc⟩ := seqB_of I1 hqz
        obtain ⟨o1, B1, k1⟩ := beginsB x1 a its.toArray
        obtain ⟨o2, B2, k2⟩ := beginsB x2 b its2.toArray
        obtain ⟨o3, B3, k3⟩ := beginsB x3 c its3.toArray
        have S := zip_sep3 (N := s1.heap.objs.size) (fp1 := [a]) (fp2 := [b]) (fp3 := [c]) (fun x hx => by rw [List.mem_singleton.mp hx]; exact la) (fun x hx => by rw [List.mem_singleton.mp hx]; exact lb) (fun x hx => by rw [List.mem_singleton.mp hx]; exact lc)
        refine zip_begins3 B1 B2 B3 p1 p2 p3 fun h' hz hTI hTO h1 h2 h3 hsz hk => wpAny_pyIter_zip hz ?_
        have I2 : Inv X pins σ H1 { s1 with heap := h' } := I1.kept (t' := s1.toks) hk
        refine ⟨s1.heap.objs.size + 5, [s1.heap.objs.size + 5, s1.heap.objs.size + 3, s1.heap.objs.size + 4, s1.heap.objs.size, s1.heap.objs.size + 1, s1.heap.objs.size + 2], _, _, H1, rfl, I2, turn_zip3B S (Nat.ne_of_lt la) (Nat.ne_of_lt (Nat.lt_succ_of_lt lb)) (Nat.ne_of_lt (Nat.lt_succ_of_lt (Nat.lt_succ_of_lt lc))), ⟨hz, hTI, ⟨_, _, _, hTO⟩, k1 _ _ h1, k2 _ _ h2, k3 _ _ h3⟩, fun x hcm => ?_, q _ ((walk_zip3B rfl).mono (fun H s => ⟨Same.sqB s hqx, Same.sqB s hqy, Same.sqB s hqz⟩) fun _ _ _ _ _ _ y => y)⟩
        have e' : x = s1.heap.objs.size + 5 ∨ x = s1.heap.objs.size + 3 ∨ x = s1.heap.objs.size + 4 ∨ x = s1.heap.objs.size ∨ x = s1.heap.objs.size + 1 ∨ x = s1.heap.objs.size + 2 := by simpa using hcm
        have hle : s1.heap.objs.size ≤ x := by
          rcases e' with z | z | z | z | z | z
          · rw [z]; exact Nat.le_add_right _ _
          · rw [z]; exact Nat.le_add_right _ _
          · rw [z]; exact Nat.le_add_right _ _
          · rw [z]; exact Nat.le_refl _
          · rw [z]; exact Nat.le_add_right _ _
          · rw [z]; exact Nat.le_add_right _ _
        exact I1.fpOk hle (I1.hok.fresh hle)
end XL
namespace XL
open PySem PyProof.Rows
section
variable {prog : Program} {w : World} {A : Around} {E : Value → Shared → Prop} {s : Shared} {z TI TO i1 i2 e : Addr}
variable {fp1 fp2 : List Addr} {n1 n2 i : Nat} {P1 P2 : Nat → Value → Prop} {St1 St2 : Nat → Heap → Prop}
/-- enumerate's next, whatever its iterator does -/
theorem enum_next {it : Addr} {j : Int} {old : Value} {Q : Value → Shared → Prop} (he : IsEnum s.heap e it j old)
    (h : wpAny (model prog w) A (Builtin.SmallTypes.nextOf (.ref it)) (fun x s1 => IsEnum s1.heap e it j old ∧ ∀ h' tk, IsEnumOut h' e it (j + 1) x s1.heap.objs.size →
      h'.get? s1.heap.objs.size = some { cls := .type "tuple", data := .seq #[.int j tk, x] } → h'.objs.size = s1.heap.objs.size + 1 →
      (∀ b o, b ≠ e → s1.heap.get? b = some o → h'.get? b = some o) → Q (.ref s1.heap.objs.size) { s1 with heap := h', toks := tk + 1 }) E s) :
    wpAny (model prog w) A (Builtin.«enumerate.__next__» ⟨[.ref e], []⟩) (fun fin s' => ∃ v, fin = .done (.ret v) ∧ Q v s') E s := by
  show wpAny _ _ (field (.ref e) 2 >>= _) _ _ _
  refine wpAny_bind (wpAny_field he rfl (x := .ref it) rfl ?_)
  refine wpAny_bind (wpAny_mono h (fun x s1 hx => ?_) fun _ _ z => z)
  obtain ⟨he1, hQ⟩ := hx
  obtain ⟨h1, g, d, tk, os⟩ := s1
  show wpAny _ _ (field (.ref e) 3 >>= _) _ _ _
  refine wpAny_bind (wpAny_field he1 rfl (x := rawInt j) rfl ?_)
  show wpAny _ _ (field (.ref e) 4 >>= _) _ _ _
  refine wpAny_bind (wpAny_field he1 rfl (x := .none) rfl ?_)
  show wpAny _ _ (mkInt j >>= _) _ _ _
  refine wpAny_bind (wpAny_mkInt ?_)
  change wpAny (model prog w) A (setField (.ref e) 3 (rawInt (j + 1)) >>= _) _ _ ⟨h1, g, d, tk + 1, os⟩
  have he1' : IsEnum h1 e it j old := he1
  refine wpAny_bind (wpAny_setField_rec he1' (by simp) fun h2 he2 q2 => ?_)
  have he2' : IsEnum h2 e it (j + 1) old := he2
  have q2' : Heap.SameBut e h1 h2 := q2
  change wpAny (model prog w) A (setField (.ref e) 4 .none >>= _) _ _ ⟨h2, g, d, tk + 1, os⟩
  refine wpAny_bind (wpAny_setField_rec he2' (by simp) fun h3 he3 q3 => ?_)
  have he3' : IsEnum h3 e it (j + 1) old := he3
  have q3' : Heap.SameBut e h2 h3 := q3
  change wpAny (model prog w) A (newTuple [.int j tk, x] >>= _) _ _ ⟨h3, g, d, tk + 1, os⟩
  refine wpAny_bind (wpAny_newTuple ?_)
  have z3 : h3.objs.size = h1.objs.size := by rw [q3'.1, q2'.1]
  have el : e < h1.objs.size := Heap.lt_size he1'
  have e4 : IsEnum (h3.push { cls := .type "tuple", data := .seq #[.int j tk, x] }) e it (j + 1) old := Heap.get?_push_of_some _ he3'
  have t4 : (h3.push { cls := .type "tuple", data := .seq #[.int j tk, x] }).get? h1.objs.size = some { cls := .type "tuple", data := .seq #[.int j tk, x] } := by rw [← z3]; exact Heap.get?_push_size _ rfl
  have z4 : (h3.push { cls := .type "tuple", data := .seq #[.int j tk, x] }).objs.size = h1.objs.size + 1 := by rw [Heap.size_push, z3]
  have k4 : ∀ b o, b ≠ e → h1.get? b = some o → (h3.push { cls := .type "tuple", data := .seq #[.int j tk, x] }).get? b = some o := fun b o hb y => Heap.get?_push_of_some _ (q3'.extBut b o hb (q2'.extBut b o hb y))
  rw [show (⟨h3, g, d, tk + 1, os⟩ : Shared).heap.objs.size = h1.objs.size from z3]
  generalize h3.push { cls := .type "tuple", data := .seq #[.int j tk, x] } = h4 at e4 t4 z4 k4
  change wpAny (model prog w) A (Builtin.SmallTypes.ownedTupleIsFree (.ref e) >>= _) _ _ ⟨h4, g, d, tk + 1, os⟩
  refine wpAny_bind ?_
  unfold Builtin.SmallTypes.ownedTupleIsFree
  refine wpAny_bind (wpAny_field e4 rfl (x := .none) rfl (wpAny_pure ?_))
  simp only [if_true]
  refine wpAny_bind (wpAny_rule ?_)
  refine wpAny_bind (wpAny_field e4 rfl (x := old) rfl ?_)
  refine wpAny_bind (wpAny_setField_rec e4 (by simp) fun h5 e5 q5 => ?_)
  have e5' : IsEnum h5 e it (j + 1) x := e5
  have q5' : Heap.SameBut e h4 h5 := q5
  change wpAny (model prog w) A (Builtin.SmallTypes.ownedTupleHandOut (.ref e) (.ref h1.objs.size) >>= _) _ _ ⟨h5, g, d, tk + 1, os⟩
  refine wpAny_bind ?_
  unfold Builtin.SmallTypes.ownedTupleHandOut
  refine wpAny_bind (wpAny_setField_rec e5' (by simp) fun h6 e6 q6 => ?_)
  have e6' : IsEnumOut h6 e it (j + 1) x h1.objs.size := e6
  have q6' : Heap.SameBut e h5 h6 := q6
  refine wpAny_setField_rec e6' (by simp) fun h7 e7 q7 => ?_
  have e7' : IsEnumOut h7 e it (j + 1) x h1.objs.size := e7
  have q7' : Heap.SameBut e h6 h7 := q7
  have k7 : ∀ b o, b ≠ e → h4.get? b = some o → h7.get? b = some o := fun b o hb y => q7'.extBut b o hb (q6'.extBut b o hb (q5'.extBut b o hb y))
  exact wpAny_bind (wpAny_letGo (wpAny_pure ⟨_, rfl, hQ h7 tk e7' (k7 _ _ (Nat.ne_of_gt el) t4) (by rw [q7'.1, q6'.1, q5'.1]; exact z4) fun b o hb y => k7 b o hb (k4 b o hb y)⟩))
end
end XL
namespace XL
open PySem PyProof.Rows
/-- a zip of two as it lies: what it gave out, and a mark -/
abbrev ZR (h : Heap) (z TI TO : Addr) (a0 : Value) (b0 : Bool) : Prop := h.get? z = some { cls := .type "zip", data := .fields #[a0, .bool b0, .bool false, .ref TI, .ref TO] }
section
variable {prog : Program} {w : World} {A : Around} {E : Value → Shared → Prop} {s : Shared} {z TI TO i1 i2 : Addr}
variable {fp1 fp2 : List Addr} {n1 n2 i : Nat} {P1 P2 : Nat → Value → Prop} {St1 St2 : Nat → Heap → Prop} {u1 u2 a0 : Value} {b0 : Bool}
example (h : IsZip s.heap z TI TO .none) : ZR s.heap z TI TO .none false := h
example {T : Addr} {f : Bool} (h : IsZipHeld s.heap z TI TO T f) : ZR s.heap z TI TO (rawInt T) f := h
theorem alive_any {a : Addr} {Q : Option Obj → Shared → Prop} (h : Q (s.heap.get? a) s) : wpAny (model prog w) A (loadIfAlive a) Q E s := fun _ _ _ => h
/-- what is gone is free -/
theorem dead_free {T : Addr} {f : Bool} {Q : Bool → Shared → Prop} (hz : ZR s.heap z TI TO (rawInt T) f) (hT : s.heap.get? T = none) (h : Q true s) : wpAny (model prog w) A (Builtin.SmallTypes.ownedTupleIsFree (.ref z)) Q E s := by
  unfold Builtin.SmallTypes.ownedTupleIsFree
  refine wpAny_bind (wpAny_field hz rfl (x := rawInt T) rfl ?_)
  show wpAny _ _ (loadIfAlive ((T : Int).toNat) >>= _) _ _ _
  rw [Int.toNat_natCast]
  refine wpAny_bind (alive_any ?_)
  rw [hT]
  exact wpAny_pure h
/-- one more pair while nothing is held -/
theorem free_item {Q : Value → Shared → Prop} (S : ZipSep2 z TI TO i1 i2 fp1 fp2) (D1 : Draws prog w A i1 fp1 n1 P1 St1) (D2 : Draws prog w A i2 fp2 n2 P2 St2)
    (hz : ZR s.heap z TI TO a0 b0) (hf : ∀ (Q : Bool → Shared → Prop), Q true s → wpAny (model prog w) A (Builtin.SmallTypes.ownedTupleIsFree (.ref z)) Q E s)
    (hTI : IsTupOf2 s.heap TI (.ref i1) (.ref i2)) (hTO : IsTupOf2 s.heap TO u1 u2) (st1 : St1 i s.heap) (st2 : St2 i s.heap) (l1 : i < n1) (l2 : i < n2)
    (hQ : ∀ x1 x2 h' tk, P1 i x1 → P2 i x2 → ZR h' z TI TO (rawInt s.heap.objs.size) false → IsTupOf2 h' TO x1 x2 → St1 (i + 1) h' → St2 (i + 1) h' → IsTupOf2 h' s.heap.objs.size x1 x2 → h'.objs.size = s.heap.objs.size + 1 →
      (∀ c o, c ≠ z → c ≠ TO → c ≠ i1 → c ≠ i2 → s.heap.get? c = some o → h'.get? c = some o) → Q (.ref s.heap.objs.size) { s with heap := h', toks := tk }) :
    wpAny (model prog w) A (Builtin.«zip.__next__» ⟨[.ref z], []⟩) (fun fin s' => ∃ v, fin = .done (.ret v) ∧ Q v s') E s := by
  obtain ⟨hp, g, d, tk0, os⟩ := s
  show wpAny _ _ (field (.ref z) 2 >>= _) _ _ _
  refine wpAny_bind (wpAny_field hz rfl (x := .bool false) rfl ?_)
  show wpAny _ _ (field (.ref z) 3 >>= _) _ _ _
  refine wpAny_bind (wpAny_field hz rfl (x := .ref TI) rfl (wpAny_bind (wpAny_seqItems hTI rfl ?_)))
  show wpAny _ _ (Builtin.SmallTypes.ownedTupleIsFree (.ref z) >>= _) _ _ _
  refine wpAny_bind (hf _ ?_)
  simp only [if_true]
  refine wpAny_bind (wpAny_rule (wpAny_bind (wpAny_field hz rfl (x := .ref TO) rfl (wpAny_bind (wpAny_setField_rec hz (by simp) fun g0 y0 r0 => ?_)))))
  have z0 : ZR g0 z TI TO .ellipsis b0 := y0
  have q0 : Heap.SameBut z hp g0 := r0
  refine wpAny_bind ?_
  simp only [List.zipIdx_cons, List.zipIdx_nil, List.forIn_cons, List.forIn_nil]
  refine wpAny_bind (wpAny_bind (wpAny_onRaise ?_))
  show wpAny _ _ (Builtin.SmallTypes.nextOf (.ref i1) >>= _) _ _ ⟨g0, g, d, tk0, os⟩
  refine wpAny_bind (D1.item i _ _ _ l1 (D1.over st1 q0 S.zf1) fun x1 p1 tk1 hx1 m1 r1 => wpAny_pure ?_)
  have q1 : Heap.SameBut i1 g0 p1 := r1
  have t1 : IsTupOf2 p1 TO u1 u2 := q1.extBut _ _ S.Ti1 (q0.extBut _ _ S.TOz hTO)
  refine wpAny_bind (wpAny_seqItems (s := ⟨p1, g, d, tk1, os⟩) t1 rfl (wpAny_bind (updateSeq_IsTupOf2 (s := ⟨p1, g, d, tk1, os⟩) t1 fun g1 y1 r2 => ?_)))
  have t1' : IsTupOf2 g1 TO x1 u2 := y1
  have q2 : Heap.SameBut TO p1 g1 := r2
  refine wpAny_bind (wpAny_letGo (wpAny_pure (wpAny_bind (wpAny_bind (wpAny_onRaise ?_)))))
  show wpAny _ _ (Builtin.SmallTypes.nextOf (.ref i2) >>= _) _ _ ⟨g1, g, d, tk1, os⟩
  refine wpAny_bind (D2.item i _ _ _ l2 (D2.over (D2.over (D2.over st2 q0 S.zf2) q1 S.sep1_2) q2 S.Tf2) fun x2 p2 tk2 hx2 m2 r3 => wpAny_pure ?_)
  have q3 : Heap.SameBut i2 g1 p2 := r3
  have t2 : IsTupOf2 p2 TO x1 u2 := q3.extBut _ _ S.Ti2 t1'
  refine wpAny_bind (wpAny_seqItems (s := ⟨p2, g, d, tk2, os⟩) t2 rfl (wpAny_bind (updateSeq_IsTupOf2 (s := ⟨p2, g, d, tk2, os⟩) t2 fun g2 y2 r4 => ?_)))
  have t2' : IsTupOf2 g2 TO x1 x2 := y2
  have q4 : Heap.SameBut TO p2 g2 := r4
  refine wpAny_bind (wpAny_letGo (wpAny_pure (wpAny_pure (wpAny_bind (wpAny_seqItems (s := ⟨g2, g, d, tk2, os⟩) t2' rfl (wpAny_bind (wpAny_newTuple ?_)))))))
  have sz : g2.objs.size = hp.objs.size := by rw [q4.1, q3.1, q2.1, q1.1, q0.1]
  have z2 : ZR g2 z TI TO .ellipsis b0 := q4.extBut _ _ S.TOz.symm (q3.extBut _ _ S.zi2 (q2.extBut _ _ S.TOz.symm (q1.extBut _ _ S.zi1 z0)))
  have kk : ∀ c o, c ≠ z → c ≠ TO → c ≠ i1 → c ≠ i2 → hp.get? c = some o → g2.get? c = some o := fun c o cz cT c1 c2 y => q4.extBut _ _ cT (q3.extBut _ _ c2 (q2.extBut _ _ cT (q1.extBut _ _ c1 (q0.extBut _ _ cz y))))
  have j1 : St1 (i + 1) g2 := D1.over (D1.over (D1.over m1 q2 S.Tf1) q3 S.sep2_1) q4 S.Tf1
  have j2 : St2 (i + 1) g2 := D2.over m2 q4 S.Tf2
  have zl : z < g2.objs.size := Heap.lt_size z2
  show wpAny _ _ (Builtin.SmallTypes.ownedTupleHandOut (.ref z) (.ref g2.objs.size) >>= _) _ _ ⟨g2.push { cls := .type "tuple", data := .seq #[x1, x2] }, g, d, tk2, os⟩
  refine wpAny_bind ?_
  unfold Builtin.SmallTypes.ownedTupleHandOut
  have z6 : ZR (g2.push { cls := .type "tuple", data := .seq #[x1, x2] }) z TI TO .ellipsis b0 := Heap.get?_push_of_some _ z2
  refine wpAny_bind (wpAny_setField_rec z6 (by simp) fun h7 y7 r7 => ?_)
  have z7 : ZR h7 z TI TO (rawInt g2.objs.size) b0 := y7
  refine wpAny_setField_rec z7 (by simp) fun h8 y8 r8 => ?_
  have z8 : ZR h8 z TI TO (rawInt g2.objs.size) false := y8
  have q7 : Heap.SameBut z (g2.push { cls := .type "tuple", data := .seq #[x1, x2] }) h7 := r7
  have q8 : Heap.SameBut z h7 h8 := r8
  have up : ∀ c o, c ≠ z → g2.get? c = some o → h8.get? c = some o := fun c o c1 y => q8.extBut _ _ c1 (q7.extBut _ _ c1 (Heap.get?_push_of_some _ y))
  have t8 : IsTupOf2 h8 g2.objs.size x1 x2 := q8.extBut _ _ (Nat.ne_of_gt zl) (q7.extBut _ _ (Nat.ne_of_gt zl) (Heap.get?_push_size _ rfl))
  have s8 : h8.objs.size = g2.objs.size + 1 := by rw [q8.1, q7.1, Heap.size_push]
  rw [sz] at z8 t8 s8
  refine wpAny_pure ⟨_, rfl, ?_⟩
  show Q (.ref g2.objs.size) ⟨h8, g, d, tk2, os⟩
  rw [sz]
  exact hQ x1 x2 h8 tk2 hx1 hx2 z8 (up _ _ S.TOz t2') (D1.frame _ _ _ j1 fun b hb o y => up b o (fun q => S.zf1 (q ▸ hb)) y) (D2.frame _ _ _ j2 fun b hb o y => up b o (fun q => S.zf2 (q ▸ hb)) y) t8 s8 fun c o cz cT c1 c2 y => up c o cz (kk c o cz cT c1 c2 y)
theorem free_end {Q : Fin → Shared → Prop} (S : ZipSep2 z TI TO i1 i2 fp1 fp2) (D1 : Draws prog w A i1 fp1 n1 P1 St1) (D2 : Draws prog w A i2 fp2 n2 P2 St2)
    (hz : ZR s.heap z TI TO a0 b0) (hf : ∀ (Q : Bool → Shared → Prop), Q true s → wpAny (model prog w) A (Builtin.SmallTypes.ownedTupleIsFree (.ref z)) Q E s)
    (hTI : IsTupOf2 s.heap TI (.ref i1) (.ref i2)) (hTO : IsTupOf2 s.heap TO u1 u2) (st1 : St1 i s.heap) (st2 : St2 i s.heap) (e1 : i ≤ n1) (e2 : i ≤ n2) (hend : i = n1 ∨ i = n2)
    (hE : ∀ h' tk e, (∀ c o, c ≠ z → c ≠ TO → c ≠ i1 → c ≠ i2 → s.heap.get? c = some o → h'.get? c = some o) → (∃ o, h'.get? e = some o ∧ o.cls = .type "StopIteration") → E (.ref e) { s with heap := h', toks := tk }) :
    wpAny (model prog w) A (Builtin.«zip.__next__» ⟨[.ref z], []⟩) Q E s := by
  obtain ⟨hp, g, d, tk0, os⟩ := s
  show wpAny _ _ (field (.ref z) 2 >>= _) _ _ _
  refine wpAny_bind (wpAny_field hz rfl (x := .bool false) rfl ?_)
  show wpAny _ _ (field (.ref z) 3 >>= _) _ _ _
  refine wpAny_bind (wpAny_field hz rfl (x := .ref TI) rfl (wpAny_bind (wpAny_seqItems hTI rfl ?_)))
  show wpAny _ _ (Builtin.SmallTypes.ownedTupleIsFree (.ref z) >>= _) _ _ _
  refine wpAny_bind (hf _ ?_)
  simp only [if_true]
  refine wpAny_bind (wpAny_rule (wpAny_bind (wpAny_field hz rfl (x := .ref TO) rfl (wpAny_bind (wpAny_setField_rec hz (by simp) fun g0 y0 r0 => ?_)))))
  have z0 : ZR g0 z TI TO .ellipsis b0 := y0
  have q0 : Heap.SameBut z hp g0 := r0
  -- the end: what raised, and the zip as it was before
  have fin : ∀ (q : Heap) (tk : Nat) (e : Addr), ZR q z TI TO .ellipsis b0 → (∀ c o, c ≠ z → c ≠ TO → c ≠ i1 → c ≠ i2 → hp.get? c = some o → q.get? c = some o) → (∃ o, q.get? e = some o ∧ o.cls = .type "StopIteration") →
      wpAny (model prog w) A (setField (.ref z) 0 .none) (fun _ s'' => E (.ref e) s'') E ⟨q, g, d, tk, os⟩ := fun q tk e zq kq he => by
    obtain ⟨oe, hoe, hce⟩ := he
    have hez : e ≠ z := fun x => by subst x; rw [zq] at hoe; cases hoe; simp at hce
    refine wpAny_setField_rec (s := ⟨q, g, d, tk, os⟩) zq (by simp) fun q' _ r' => ?_
    have qq : Heap.SameBut z q q' := r'
    exact hE q' tk e (fun c o cz cT c1 c2 y => qq.extBut _ _ cz (kq c o cz cT c1 c2 y)) ⟨oe, qq.extBut _ _ hez hoe, hce⟩
  refine wpAny_bind ?_
  simp only [List.zipIdx_cons, List.zipIdx_nil, List.forIn_cons, List.forIn_nil]
  refine wpAny_bind (wpAny_bind (wpAny_onRaise ?_))
  show wpAny _ _ (Builtin.SmallTypes.nextOf (.ref i1) >>= _) _ _ ⟨g0, g, d, tk0, os⟩
  by_cases l1 : i < n1
  · refine wpAny_bind (D1.item i _ _ _ l1 (D1.over st1 q0 S.zf1) fun x1 p1 tk1 hx1 m1 r1 => wpAny_pure ?_)
    have q1 : Heap.SameBut i1 g0 p1 := r1
    have t1 : IsTupOf2 p1 TO u1 u2 := q1.extBut _ _ S.Ti1 (q0.extBut _ _ S.TOz hTO)
    refine wpAny_bind (wpAny_seqItems (s := ⟨p1, g, d, tk1, os⟩) t1 rfl (wpAny_bind (updateSeq_IsTupOf2 (s := ⟨p1, g, d, tk1, os⟩) t1 fun g1 y1 r2 => ?_)))
    have q2 : Heap.SameBut TO p1 g1 := r2
    refine wpAny_bind (wpAny_letGo (wpAny_pure (wpAny_bind (wpAny_bind (wpAny_onRaise ?_)))))
    show wpAny _ _ (Builtin.SmallTypes.nextOf (.ref i2) >>= _) _ _ ⟨g1, g, d, tk1, os⟩
    have hi2 : i = n2 := by omega
    refine wpAny_bind (D2.done ⟨g1, g, d, tk1, os⟩ _ _ (by rw [← hi2]; exact D2.over (D2.over (D2.over st2 q0 S.zf2) q1 S.sep1_2) q2 S.Tf2) fun q e r3 he => ?_)
    have q3 : Heap.ExtBut i2 g1 q := r3
    exact fin q tk1 e (q3 _ _ S.zi2 (q2.extBut _ _ S.TOz.symm (q1.extBut _ _ S.zi1 z0))) (fun c o cz cT c1 c2 y => q3 _ _ c2 (q2.extBut _ _ cT (q1.extBut _ _ c1 (q0.extBut _ _ cz y)))) he
  · have hi1 : i = n1 := by omega
    refine wpAny_bind (D1.done ⟨g0, g, d, tk0, os⟩ _ _ (by rw [← hi1]; exact D1.over st1 q0 S.zf1) fun q e r3 he => ?_)
    have q3 : Heap.ExtBut i1 g0 q := r3
    exact fin q tk0 e (q3 _ _ S.zi1 z0) (fun c o cz cT c1 c2 y => q3 _ _ c1 (q0.extBut _ _ cz y)) he
/-- a zip at any time -/
def ZS (h : Heap) (z TI TO : Addr) : Prop := ((ZR h z TI TO .none false) ∨ ∃ T f, ZR h z TI TO (rawInt ((T : Nat) : Int)) f) ∧ ∃ u1 u2, IsTupOf2 h TO u1 u2
theorem ZS.typ {z TI TO : Addr} (h : ZS s.heap z TI TO) : s.TypeIs (.ref z) "zip" := by
  rcases h.1 with h | ⟨T, f, h⟩
  · exact ⟨_, h, rfl⟩
  · exact ⟨_, h, rfl⟩
theorem none_free {Q : Bool → Shared → Prop} (hz : ZR s.heap z TI TO .none b0) (h : Q true s) : wpAny (model prog w) A (Builtin.SmallTypes.ownedTupleIsFree (.ref z)) Q E s := by
  unfold Builtin.SmallTypes.ownedTupleIsFree
  exact wpAny_bind (wpAny_field hz rfl (x := .none) rfl (wpAny_pure h))
theorem zs_item {Q : Value → Shared → Prop} (S : ZipSep2 z TI TO i1 i2 fp1 fp2) (D1 : Draws prog w A i1 fp1 n1 P1 St1) (D2 : Draws prog w A i2 fp2 n2 P2 St2)
    (hz : ZS s.heap z TI TO) (hTI : IsTupOf2 s.heap TI (.ref i1) (.ref i2)) (st1 : St1 i s.heap) (st2 : St2 i s.heap) (l1 : i < n1) (l2 : i < n2)
    (hQ : ∀ x1 x2 h' tk, P1 i x1 → P2 i x2 → ZS h' z TI TO → St1 (i + 1) h' → St2 (i + 1) h' → IsTupOf2 h' s.heap.objs.size x1 x2 → h'.objs.size = s.heap.objs.size + 1 →
      (∀ c o, c ≠ z → c ≠ TO → c ≠ i1 → c ≠ i2 → s.heap.get? c = some o → h'.get? c = some o) → Q (.ref s.heap.objs.size) { s with heap := h', toks := tk }) :
    wpAny (model prog w) A (Builtin.«zip.__next__» ⟨[.ref z], []⟩) (fun fin s' => ∃ v, fin = .done (.ret v) ∧ Q v s') E s := by
  obtain ⟨hz, u1, u2, hTO⟩ := hz
  rcases hz with hz | ⟨T, f, hz⟩
  · exact free_item S D1 D2 hz (fun Q h => none_free hz h) hTI hTO st1 st2 l1 l2 fun x1 x2 h' tk y1 y2 b1 b2 d1 d2 b5 b6 b7 => hQ x1 x2 h' tk y1 y2 ⟨.inr ⟨s.heap.objs.size, false, b1⟩, _, _, b2⟩ d1 d2 b5 b6 b7
  · cases hT : s.heap.get? T with
    | none => exact free_item S D1 D2 hz (fun Q h => dead_free hz hT h) hTI hTO st1 st2 l1 l2 fun x1 x2 h' tk y1 y2 b1 b2 d1 d2 b5 b6 b7 => hQ x1 x2 h' tk y1 y2 ⟨.inr ⟨s.heap.objs.size, false, b1⟩, _, _, b2⟩ d1 d2 b5 b6 b7
    | some oT => exact held_item S D1 D2 hz hT hTI st1 st2 l1 l2 fun x1 x2 h' tk y1 y2 b1 d1 d2 b5 b6 b7 => hQ x1 x2 h' tk y1 y2 ⟨.inr ⟨T, true, b1⟩, u1, u2, b7 _ _ S.TOz S.Ti1 S.Ti2 hTO⟩ d1 d2 b5 b6 fun c o c0 _ c1 c2 e => b7 c o c0 c1 c2 e
theorem zs_end {Q : Fin → Shared → Prop} (S : ZipSep2 z TI TO i1 i2 fp1 fp2) (D1 : Draws prog w A i1 fp1 n1 P1 St1) (D2 : Draws prog w A i2 fp2 n2 P2 St2)
    (hz : ZS s.heap z TI TO) (hTI : IsTupOf2 s.heap TI (.ref i1) (.ref i2)) (st1 : St1 i s.heap) (st2 : St2 i s.heap) (e1 : i ≤ n1) (e2 : i ≤ n2) (hend : i = n1 ∨ i = n2)
    (hE : ∀ h' tk e, (∀ c o, c ≠ z → c ≠ TO → c ≠ i1 → c ≠ i2 → s.heap.get? c = some o → h'.get? c = some o) → (∃ o, h'.get? e = some o ∧ o.cls = .type "StopIteration") → E (.ref e) { s with heap := h', toks := tk }) :
    wpAny (model prog w) A (Builtin.«zip.__next__» ⟨[.ref z], []⟩) Q E s := by
  obtain ⟨hz, u1, u2, hTO⟩ := hz
  rcases hz with hz | ⟨T, f, hz⟩
  · exact free_end S D1 D2 hz (fun Q h => none_free hz h) hTI hTO st1 st2 e1 e2 hend hE
  · cases hT : s.heap.get? T with
    | none => exact free_end S D1 D2 hz (fun Q h => dead_free hz hT h) hTI hTO st1 st2 e1 e2 hend hE
    | some oT => exact held_end S D1 D2 hz hT hTI st1 st2 e1 e2 hend fun h' tk e hk he => hE h' tk e (fun c o c0 _ c1 c2 y => hk c o c0 c1 c2 y) he
end
end XL
namespace PySem
namespace XEn
open Sem (wp)
set_option maxHeartbeats 1000000 in
theorem meets_newZ {z TI TO : Addr} :
    Meets (Builtin.«enumerate.__new__» ⟨[.type "enumerate", .ref z], []⟩) (fun _ R s => IsZip s.heap z TI TO .none ∧
      R (.ok (.ret (.ref s.heap.objs.size))) { s with heap := s.heap.push { cls := .type "enumerate", data := .fields #[.none, .bool false, .ref z, rawInt 0, .none, .none] } }) :=
  .of_wp fun prog w A R s h => by
    obtain ⟨hp, g, d, tk, os⟩ := s; obtain ⟨h1, h⟩ := h
    have hsub := sub_enumerate
    have q1 : ∀ {A' : Around} {E : Value → Shared → Prop} {Q : Value → Shared → Prop}, Q (.ref z) ⟨hp, g, d, tk, os⟩ → wpAny (model prog w) A' (pyIter (.ref z)) Q E ⟨hp, g, d, tk, os⟩ :=
      fun q => wpAny_pyIter_zip h1 q
    wp_walk using q1
    refine wpAny_stack_any fun st => wpAny_pure ?_
    split
    · rename_i c _ _ _ _ _
      cases (c == Value.type "enumerate")
      · wp_walk using q1
        exact ⟨_, rfl, h⟩
      · wp_walk using q1
        exact ⟨_, rfl, h⟩
    · wp_walk using q1
      exact ⟨_, rfl, h⟩
section
variable {prog : Program} {w : World} {A : Around} {E : Value → Shared → Prop} {s : Shared}
theorem beginsZ {z TI TO : Addr} {Q : Value → Shared → Prop} (h1 : IsZip s.heap z TI TO .none)
    (h : ∀ h', IsEnum h' s.heap.objs.size z 0 .none → h'.objs.size = s.heap.objs.size + 1 →
      (∀ b o, s.heap.get? b = some o → h'.get? b = some o) → Q (.ref s.heap.objs.size) { s with heap := h' }) :
    wpAny (model prog w) A (call (.type "enumerate") [.ref z]) Q E s := by
  refine callType_new F.called_enumerate (by decide) (F.typeCall_enumerate_1 _) (F.newCall_enumerate_1 _) (fun obj => F.args_object_init_2 obj _) F.entry_enumerate_new
    (meets_newZ (z := z) (TI := TI) (TO := TO)) ⟨h1, ?_⟩
  have he : IsEnum (s.heap.push { cls := .type "enumerate", data := .fields #[.none, .bool false, .ref z, rawInt 0, .none, .none] }) s.heap.objs.size z 0 .none := Heap.get?_push_size _ rfl
  exact ⟨⟨_, he, rfl⟩, h _ he (by rw [Heap.size_push]) fun b o x => Heap.get?_push_of_some _ x⟩
end
end XEn
end PySem
namespace XL
open PySem PySem.Spec PyProof.Rows L2
/-! ### enumerate(zip(a, b)), each a list or a tuple -/
def YEz (xs ys : Nat → Option V) : Nat → Hp → V → Hp → Prop := fun i H v H' => ∃ T1 T2 x y, v = .ref T2 ∧ H T1 = none ∧ H T2 = none ∧ T1 ≠ T2 ∧ H' = upd (upd H T1 (.tup [x, y])) T2 (.tup [.int (i : Nat), .ref T1]) ∧ xs i = some x ∧ ys i = some y
def Itez (K : PySem.W.Frag) (x1 x2 : Bool) (a b : Addr) : It :=
  ⟨fun i H => ∃ (xs ys : List V) (x y : V), SqB K x1 H a xs ∧ SqB K x2 H b ys ∧ xs[i]? = some x ∧ ys[i]? = some y,
    fun i H v H' => ∃ T1 T2 x y, v = .ref T2 ∧ H T1 = none ∧ H T2 = none ∧ T1 ≠ T2 ∧ H' = upd (upd H T1 (.tup [x, y])) T2 (.tup [.int (i : Nat), .ref T1]) ∧ (∀ xs, SqB K x1 H a xs → xs[i]? = some x) ∧ ∀ ys, SqB K x2 H b ys → ys[i]? = some y,
    fun i H => ∃ xs ys : List V, SqB K x1 H a xs ∧ SqB K x2 H b ys ∧ i ≤ xs.length ∧ i ≤ ys.length ∧ (i = xs.length ∨ i = ys.length)⟩
structure EzSep (e z TI TO i1 i2 a b : Addr) : Prop where
  S : ZipSep2 z TI TO i1 i2 [i1, a] [i2, b]
  na : a ≠ i1
  nb : b ≠ i2
  ez : e ≠ z
  eI : e ≠ TI
  eO : e ≠ TO
  e1 : e ≠ i1
  e2 : e ≠ i2
  ea : e ≠ a
  eb : e ≠ b
theorem seqB_at {x : Bool} {h h' : Heap} {a : Addr} {its : Array Value} (q : SeqB x h a its) (k : ∀ o, h.get? a = some o → h'.get? a = some o) : SeqB x h' a its := by
  cases x with
  | true => obtain ⟨o, e, r⟩ := q; exact ⟨o, k o e, r⟩
  | false => obtain ⟨o, e, r⟩ := q; exact ⟨o, k o e, r⟩
theorem turn_ez {P : Program} {w : World} {K : PySem.W.Frag} {elts : List Expr} {kk : Nat} {tpos : Pos} {x1 x2 : Bool} {a b e z TI TO i1 i2 : Addr} (S : EzSep e z TI TO i1 i2 a b) :
    Turn P w K (.Tuple elts kk tpos) (Itez K x1 x2 a b) [e, z, TI, TO, i1, i2] e (fun i h => (∃ old, IsEnum h e z ((i : Nat) : Int) old) ∧ ZS h z TI TO ∧ IsTupOf2 h TI (.ref i1) (.ref i2) ∧ ItB x1 h i1 a i ∧ ItB x2 h i2 b i) where
  mem := by simp
  obj := fun i h st c hc => by
    obtain ⟨⟨old, he⟩, ⟨hz, u1, u2, hTO⟩, hTI, h1, h2⟩ := st
    have e' : c = e ∨ c = z ∨ c = TI ∨ c = TO ∨ c = i1 ∨ c = i2 := by simpa using hc
    rcases e' with q | q | q | q | q | q
    · rw [q]; exact ⟨_, he, fun v q => nomatch q⟩
    · rw [q]
      rcases hz with hz | ⟨T, f, hz⟩
      · exact ⟨_, hz, fun v q => nomatch q⟩
      · exact ⟨_, hz, fun v q => nomatch q⟩
    · rw [q]; exact ⟨_, hTI, fun v q => nomatch q⟩
    · rw [q]; exact ⟨_, hTO, fun v q => nomatch q⟩
    · rw [q]; exact h1.obj
    · rw [q]; exact h2.obj
  keep := fun i h h' st k => by
    obtain ⟨⟨old, he⟩, ⟨hz, u1, u2, hTO⟩, hTI, h1, h2⟩ := st
    refine ⟨⟨old, k e (by simp) _ he⟩, ⟨?_, u1, u2, k TO (by simp) _ hTO⟩, k TI (by simp) _ hTI, h1.at fun o q => k i1 (by simp) o q, h2.at fun o q => k i2 (by simp) o q⟩
    rcases hz with hz | ⟨T, f, hz⟩
    · exact .inl (k z (by simp) _ hz)
    · exact .inr ⟨T, f, k z (by simp) _ hz⟩
  item := by
    intro X hP hw hK hc i pins s σ H E I hf st hg
    subst hP hw hK
    obtain ⟨⟨old, he⟩, hz, hTI, h1, h2⟩ := st
    obtain ⟨xs, ys, x, y, hqx, hqy, hx, hy⟩ := hg
    obtain ⟨its, rv, p, _⟩ := seqB_of I hqx
    obtain ⟨its2, rv2, p2, _⟩ := seqB_of I hqy
    obtain ⟨u, hu, ru⟩ := rv.get hx
    obtain ⟨u2, hu2, ru2⟩ := rv2.get hy
    have lt : ∀ {l : List Value} {v : Value}, l[i]? = some v → i < l.toArray.size := fun {l v} e => by rw [List.size_toArray]; exact (List.getElem?_eq_some_iff.mp e).1
    have ev : ∀ {l : List Value} {v v' : Value}, l.toArray[i]? = some v' → l[i]? = some v → v' = v := fun {l v v'} e1 e2 => by
      rw [List.getElem?_toArray, e2] at e1; exact (Option.some.inj e1).symm
    have hTe : s.TypeIs (.ref e) "enumerate" := ⟨_, he, rfl⟩
    unfold pyNext
    refine wpAny_bind (wpAny_attempt (wpAny_callSpecial?_slot (name := Str.ofString "__next__") hTe F.slot_enumerate_next
      (wpAny_call_entry F.slot_enumerate_next hTe F.entry_enumerate_next (enum_next he ?_) (F.args_enumerate_next_1 _))))
    unfold Builtin.SmallTypes.nextOf
    refine wpAny_bind (wpAny_callSpecial?_slot (name := Str.ofString "__next__") hz.typ F.slot_zip_next
      (wpAny_call_entry F.slot_zip_next hz.typ F.entry_zip_next (zs_item S.S (drawsB (A := X.A.in1.in1) (I.ok.hd hc) x1 i1 a S.na its.toArray) (drawsB (A := X.A.in1.in1) (I.ok.hd hc) x2 i2 b S.nb its2.toArray) hz hTI ⟨h1, p⟩ ⟨h2, p2⟩ (lt hu) (lt hu2) fun v1 v2 g tk y1 y2 zg d1 d2 tg sg kg => wpAny_pure ?_) (F.args_zip_next_1 _)))
    obtain rfl := ev y1 hu
    obtain rfl := ev y2 hu2
    refine ⟨kg e _ S.ez S.eO S.e1 S.e2 he, fun g2 tk2 eo t2 s2 k2 => wpAny_pure ?_⟩
    have hel : e < s.heap.objs.size := Heap.lt_size he
    have sg' : g.objs.size = s.heap.objs.size + 1 := sg
    have cl : ∀ c ∈ [e, z, TI, TO, i1, i2], c < s.heap.objs.size := fun c hcm => by
      obtain ⟨hz', w1, w2, hTO⟩ := hz
      have e' : c = e ∨ c = z ∨ c = TI ∨ c = TO ∨ c = i1 ∨ c = i2 := by simpa using hcm
      rcases e' with q | q | q | q | q | q
      · rw [q]; exact hel
      · rw [q]
        rcases hz' with hz' | ⟨T, f, hz'⟩
        · exact Heap.lt_size hz'
        · exact Heap.lt_size hz'
      · rw [q]; exact Heap.lt_size hTI
      · rw [q]; exact Heap.lt_size hTO
      · rw [q]; obtain ⟨o, ho, _⟩ := h1.obj; exact Heap.lt_size ho
      · rw [q]; obtain ⟨o, ho, _⟩ := h2.obj; exact Heap.lt_size ho
    refine ⟨_, rfl, wpAny_letOwnedTupleGo_enum (s := { s with heap := g2, toks := tk2 + 1 }) eo fun g3 e3 sb => ?_⟩
    have new1 : ObjOk X.prog X.w (upd H s.heap.objs.size (.tup [x, y])) g s.heap.objs.size (.tup [x, y]) :=
      ⟨by show 2 ≤ sizeLine; decide, [v1, v2], .cons ru (.cons ru2 .nil), ⟨_, tg, rfl, _, rfl⟩⟩
    have I1 : Inv X pins σ (upd H s.heap.objs.size (.tup [x, y])) { s with heap := g, toks := tk } :=
      I.turnedNew (ch := [e, z, TI, TO, i1, i2]) (fun c o hb q => kg c o (fun q' => hb (by simp [q'])) (fun q' => hb (by simp [q'])) (fun q' => hb (by simp [q'])) (fun q' => hb (by simp [q'])) q) hf (Nat.le_refl _) new1
    have ne2 : s.heap.objs.size ≠ g.objs.size := by rw [sg']; exact Nat.ne_of_lt (Nat.lt_succ_self _)
    have fe : ∀ c ∈ [e], FpOk X pins (upd H s.heap.objs.size (.tup [x, y])) c := fun c hcm => by
      obtain rfl := List.mem_singleton.mp hcm
      obtain ⟨f0, f1⟩ := hf c (by simp)
      exact ⟨by rw [upd_ne (Nat.ne_of_lt hel)]; exact f0, f1⟩
    have t3 : g3.get? g.objs.size = some { cls := .type "tuple", data := .seq #[.int (i : Int) tk2, .ref s.heap.objs.size] } := (sb.2 _ (by rw [sg']; exact Nat.ne_of_gt (Nat.lt_succ_of_lt hel))).trans t2
    have new2 : ObjOk X.prog X.w (upd (upd H s.heap.objs.size (.tup [x, y])) g.objs.size (.tup [.int (i : Nat), .ref s.heap.objs.size])) g3 g.objs.size (.tup [.int (i : Nat), .ref s.heap.objs.size]) :=
      ⟨by show 2 ≤ sizeLine; decide, [.int (i : Int) tk2, .ref s.heap.objs.size], .cons ⟨_, rfl⟩ (.cons rfl .nil), ⟨_, t3, rfl, _, rfl⟩⟩
    have k3 : ∀ c o, c ≠ e → g.get? c = some o → g3.get? c = some o := fun c o hce q => (sb.2 c hce).trans (k2 c o hce q)
    have I2 : Inv X pins σ (upd (upd H s.heap.objs.size (.tup [x, y])) g.objs.size (.tup [.int (i : Nat), .ref s.heap.objs.size])) { s with heap := g3, toks := tk2 + 1 } :=
      I1.turnedNew (ch := [e]) (fun c o hb q => k3 c o (fun q' => hb (by simp [q'])) q) fe (Nat.le_refl _) new2
    refine ⟨.ref g.objs.size, _, I2, rfl, ⟨s.heap.objs.size, g.objs.size, x, y, rfl, I.hok.fresh (Nat.le_refl _), I.hok.fresh (by rw [sg']; exact Nat.le_succ _), ne2, rfl, fun l hl => by rw [sqB_inj I hl hqx]; exact hx, fun l hl => by rw [sqB_inj I hl hqy]; exact hy⟩, ⟨⟨.ref s.heap.objs.size, ?_⟩, ?_, ?_, ?_, ?_⟩, fun c hcm => ?_⟩
    · have e1 : ((i + 1 : Nat) : Int) = (i : Int) + 1 := by omega
      rw [e1]; exact e3
    · obtain ⟨zz, w1, w2, wO⟩ := zg
      refine ⟨?_, w1, w2, k3 _ _ (Ne.symm S.eO) wO⟩
      rcases zz with zz | ⟨T, f, zz⟩
      · exact .inl (k3 _ _ (Ne.symm S.ez) zz)
      · exact .inr ⟨T, f, k3 _ _ (Ne.symm S.ez) zz⟩
    · exact k3 _ _ (Ne.symm S.eI) (kg _ _ S.S.TIz S.S.TITO S.S.TIi1 S.S.TIi2 hTI)
    · exact d1.1.at fun o q => k3 _ _ (Ne.symm S.e1) q
    · exact d2.1.at fun o q => k3 _ _ (Ne.symm S.e2) q
    · have hl := cl c hcm
      rw [upd_ne (by rw [sg']; exact Nat.ne_of_lt (Nat.lt_succ_of_lt hl)), upd_ne (Nat.ne_of_lt hl)]
      exact (hf c hcm).1
  done := by
    intro X hP hw hK hc i pins s σ H E I hf st hg
    subst hP hw hK
    obtain ⟨⟨old, he⟩, hz, hTI, h1, h2⟩ := st
    obtain ⟨xs, ys, hqx, hqy, l1, l2, hend⟩ := hg
    obtain ⟨its, rv, p, _⟩ := seqB_of I hqx
    obtain ⟨its2, rv2, p2, _⟩ := seqB_of I hqy
    have m1 := rv.length
    have m2 := rv2.length
    have hTe : s.TypeIs (.ref e) "enumerate" := ⟨_, he, rfl⟩
    unfold pyNext
    refine wpAny_bind (wpAny_attempt (wpAny_callSpecial?_slot (name := Str.ofString "__next__") hTe F.slot_enumerate_next
      (wpAny_call_entry F.slot_enumerate_next hTe F.entry_enumerate_next ?_ (F.args_enumerate_next_1 _))))
    show wpAny _ _ (field (.ref e) 2 >>= _) _ _ _
    refine wpAny_bind (wpAny_field he rfl (x := .ref z) rfl ?_)
    refine wpAny_bind ?_
    unfold Builtin.SmallTypes.nextOf
    refine wpAny_bind (wpAny_callSpecial?_slot (name := Str.ofString "__next__") hz.typ F.slot_zip_next
      (wpAny_call_entry F.slot_zip_next hz.typ F.entry_zip_next (zs_end S.S (drawsB (A := X.A.in1.in1) (I.ok.hd hc) x1 i1 a S.na its.toArray) (drawsB (A := X.A.in1.in1) (I.ok.hd hc) x2 i2 b S.nb its2.toArray) hz hTI ⟨h1, p⟩ ⟨h2, p2⟩ (by rw [List.size_toArray]; omega) (by rw [List.size_toArray]; omega) (by rw [List.size_toArray, List.size_toArray]; omega) fun g tk x hk hx => ?_) (F.args_zip_next_1 _)))
    obtain ⟨o, ho, hcl⟩ := hx
    refine wpAny_bind (wpAny_isInstance (T := "StopIteration") (b := true) ⟨o, ho, hcl⟩ isSubtype_stop ?_)
    exact wpAny_pure ⟨rfl, I.turnedL (t' := tk) (ch := [e, z, TI, TO, i1, i2]) (fun c o hb q =>
      hk c o (fun q' => hb (by simp [q'])) (fun q' => hb (by simp [q'])) (fun q' => hb (by simp [q'])) (fun q' => hb (by simp [q'])) q) hf⟩
  self := fun A i s Q E st h => let ⟨⟨_, he⟩, _⟩ := st; wpAny_pyIter_enum he h
theorem walk_ez {K : PySem.W.Frag} {x1 x2 : Bool} {a b : Addr} {xs ys : List V} {n : Nat} (hn : n = min xs.length ys.length) : Walk (Itez K x1 x2 a b) n (fun H => SqB K x1 H a xs ∧ SqB K x2 H b ys) (YEz (fun i => xs[i]?) (fun i => ys[i]?)) := by
  subst hn
  refine ⟨fun i _ hi q => ?_, fun _ q => ⟨xs, ys, q.1, q.2, by omega, by omega, by omega⟩, fun i H v H' _ q y => ?_⟩
  · have h1 : i < xs.length := by omega
    have h2 : i < ys.length := by omega
    exact ⟨xs, ys, xs[i], ys[i], q.1, q.2, by simp [h1], by simp [h2]⟩
  · obtain ⟨T1, T2, x, z, h1, h2, h3, h4, h5, h6, h7⟩ := y
    exact ⟨T1, T2, x, z, h1, h2, h3, h4, h5, h6 xs q.1, h7 ys q.2⟩
def iEz (K : PySem.W.Frag) (ta : TA) : TI := fun σ H R => ta σ H fun vs H1 => ∃ a b xs ys, vs = [.ref a, .ref b] ∧ Sq2 K H1 a xs ∧ Sq2 K H1 b ys ∧
  ∀ J, Walk J (min xs.length ys.length) (fun H => Same H1 H) (YEz (fun i => xs[i]?) (fun i => ys[i]?)) → R J H1
theorem pi_ez {X : Cx} {e e2 : Expr} {ta : TA} {p pos p' pos' tpos : Pos} {elts : List Expr} {kk : Nat} (hge : Gl X "enumerate") (hme : X.mg "enumerate" = none) (hg : Gl X "zip") (hm : X.mg "zip" = none) (ha : PA X [e, e2] ta)
    (hse : starEach [.Call (.Name "zip" p) [e, e2] [] pos] X.env = [(false, eval (.Call (.Name "zip" p) [e, e2] [] pos) X.env)] := by rfl)
    (hs : starEach [e, e2] X.env = (false, eval e X.env) :: starEach [e2] X.env := by rfl) (hpl : (backTo pos (starEach [e2] X.env)).any (·.1) = false := by rfl) :
    PI X (.Tuple elts kk tpos) (.Call (.Name "enumerate" p') [.Call (.Name "zip" p) [e, e2] [] pos] [] pos') (iEz X.K ta) := by
  refine ⟨fun pins s σ H R I h => ?_⟩
  refine Call_ (ld_blt I hge hme boot_enumerate (PyProof.Rows.callWith_type1 ?_ hse rfl))
  rw [hse]
  show wpAny _ _ (spliced ((false, eval (.Call (.Name "zip" p) [e, e2] [] pos) X.env) :: [])) _ _ s
  refine Calls.spliced_cons ?_
  refine Call_ (ld_blt I hg hm PyProof.Rows.boot_zip (PyProof.Rows.callWith_type1 (thn (ha.run pos pins s σ H _ I h) fun us s1 ⟨vs, H1, I1, r1, q1⟩ => ?_) hs hpl))
  obtain ⟨a, b, xs, ys, ex, hxa, hxb, q⟩ := q1
  subst ex
  obtain ⟨x1, hqx⟩ := sqB_of hxa
  obtain ⟨x2, hqy⟩ := sqB_of hxb
  cases r1 with
  | cons r rr =>
    cases rr with
    | cons r' rr =>
      cases rr
      cases r
      cases r'
      obtain ⟨its, rv, p1, la⟩ := seqB_of I1 hqx
      obtain ⟨its2, rv2, p2, lb⟩ := seqB_of I1 hqy
      obtain ⟨o1, B1, k1⟩ := beginsB x1 a its.toArray
      obtain ⟨o2, B2, k2⟩ := beginsB x2 b its2.toArray
      have S := zip_sep2 (N := s1.heap.objs.size) (fp1 := [a]) (fp2 := [b]) (fun x hx => by rw [List.mem_singleton.mp hx]; exact la) (fun x hx => by rw [List.mem_singleton.mp hx]; exact lb)
      refine zip_begins2 B1 B2 p1 p2 fun h' hz hTI hTO h1 h2 hsz hk => Calls.spliced_nil ?_
      refine PySem.XEn.beginsZ (s := { s1 with heap := h' }) hz fun g he hsg hkg => wpAny_pyIter_enum he ?_
      have hs5 : h'.objs.size = s1.heap.objs.size + 5 := hsz
      have hkk : ∀ c o, s1.heap.get? c = some o → g.get? c = some o := fun c o y => hkg c o (hk c o y)
      have I2 : Inv X pins σ H1 { s1 with heap := g } := I1.kept (t' := s1.toks) hkk
      have he' : IsEnum g (s1.heap.objs.size + 5) (s1.heap.objs.size + 4) 0 .none := by rw [← hs5]; exact he
      have ne : ∀ j : Nat, j < 5 → s1.heap.objs.size + 5 ≠ s1.heap.objs.size + j := fun j hj => by omega
      have SS : EzSep (s1.heap.objs.size + 5) (s1.heap.objs.size + 4) (s1.heap.objs.size + 2) (s1.heap.objs.size + 3) s1.heap.objs.size (s1.heap.objs.size + 1) a b :=
        ⟨S, Nat.ne_of_lt la, Nat.ne_of_lt (Nat.lt_succ_of_lt lb), ne 4 (by omega), ne 2 (by omega), ne 3 (by omega), ne 0 (by omega), ne 1 (by omega), Nat.ne_of_gt (Nat.lt_add_right 5 la), Nat.ne_of_gt (Nat.lt_add_right 5 lb)⟩
      rw [show (({ s1 with heap := h' } : Shared).heap.objs.size) = s1.heap.objs.size + 5 from hs5]
      refine ⟨s1.heap.objs.size + 5, [s1.heap.objs.size + 5, s1.heap.objs.size + 4, s1.heap.objs.size + 2, s1.heap.objs.size + 3, s1.heap.objs.size, s1.heap.objs.size + 1], _, _, H1, rfl, I2, turn_ez (x1 := x1) (x2 := x2) SS, ⟨⟨.none, he'⟩, ⟨.inl (hkg _ _ hz), _, _, hkg _ _ hTO⟩, hkg _ _ hTI, k1 _ _ (hkg _ _ h1), k2 _ _ (hkg _ _ h2)⟩, fun x hcm => ?_, q _ ((walk_ez rfl).mono (fun H s => ⟨Same.sqB s hqx, Same.sqB s hqy⟩) fun _ _ _ _ _ _ y => y)⟩
      have hle : s1.heap.objs.size ≤ x := by
        have e' : x = s1.heap.objs.size + 5 ∨ x = s1.heap.objs.size + 4 ∨ x = s1.heap.objs.size + 2 ∨ x = s1.heap.objs.size + 3 ∨ x = s1.heap.objs.size ∨ x = s1.heap.objs.size + 1 := by simpa using hcm
        rcases e' with z | z | z | z | z | z <;> rw [z] <;> first | exact Nat.le_add_right _ _ | exact Nat.le_refl _
      exact I1.fpOk hle (I1.hok.fresh hle)
end XL
namespace XL
open PySem PySem.Spec PyProof.Rows L2
abbrev sUl : Stmt := topS 20
abbrev sBb : Stmt := topS 21
abbrev sLe : Stmt := topS 22
theorem boot_any' : bootBuiltins "any" = some (.builtin "any") := by decide +kernel
/-- a walk by an invariant, whatever is done at each item -/
theorem it_it {J : It} {n : Nat} {G : Hp → Prop} {Y : Nat → Hp → V → Hp → Prop} (w : Walk J n G Y) {body : V → Hp → (Hp → Prop) → Prop} {H1 : Hp} {Qd : Hp → Prop} (Pv : Nat → Hp → Prop) (h0 : Pv 0 H1) (hG : ∀ i H, i ≤ n → Pv i H → G H)
    (hs : ∀ i x H H', i < n → Pv i H → Y i H x H' → body x H' (Pv (i + 1))) (hd : ∀ H, Pv n H → Qd H) :
    ∃ W : Nat → Nat → Hp → Prop, (∃ m, W 0 m H1) ∧ ∀ i m H, W i m H →
      (J.stop i H ∧ Qd H) ∨ (J.go i H ∧ ∃ Nx : Hp → Prop, (∀ H', Nx H' → ∃ m', m' < m ∧ W (i + 1) m' H') ∧ ∀ x H', J.yld i H x H' → body x H' Nx) := by
  refine ⟨fun i m H => m = n - i ∧ i ≤ n ∧ Pv i H, ⟨n, by simp, Nat.zero_le _, h0⟩, ?_⟩
  rintro i m H ⟨rfl, hi, p⟩
  have q := hG i H hi p
  by_cases hlt : i < n
  · exact .inr ⟨w.goes i H hlt q, Pv (i + 1), fun H' p' => ⟨n - (i + 1), by omega, rfl, hlt, p'⟩, fun x H' y => hs i x H H' hlt p (w.yields i H x H' hlt q y)⟩
  · have e : i = n := by omega
    subst e
    exact .inl ⟨w.stops H q, hd H p⟩
section
variable {P : Program} {w : World} {K : PySem.W.Frag} {mg : Str → Option Value} {base : Heap}
/-! ### unlike_locks -/
abbrev nUl : List Str := ["one", "other", "lock", "first", "last"]
theorem scUl : FnScope nUl ["one", "other"] (defScope sUl) := ⟨rfl, rfl, rfl, by decide +kernel, rfl, by decide +kernel, by decide +kernel⟩
def spUl (K : PySem.W.Frag) : Sp := fun vs H Q _ => ∃ (u1 u2 : V) (s1 s2 : Sn), vs = [u1, u2] ∧ Dp K H u1 (snD s1) ∧ Dp K H u2 (snD s2) ∧ s1.ls.length = s2.ls.length ∧ s1.ls.length ≤ 100 ∧
  ∀ (L : Addr) (H' : Hp), Same H H' → H L = none → H' L = some (.lst ((natI (ul s1 s2 s1.ls.length)).map V.int)) → Q (.ref L) H'
theorem gt_nat {zs : List Int} {i : Nat} {z : Int} (h : zs[i]? = some z) : gt zs (i : Int) = z := by
  unfold gt
  rw [show ((i : Int)).toNat = i by omega, List.getD_eq_getElem?_getD, h]; rfl
theorem ok_ul {f : Addr} {fd : FuncData} {k : Nat} (F : Fun K "unlike_locks" "unlike_locks" sUl f fd) (m_enumerate : mg "enumerate" = none) (m_zip : mg "zip" = none) : FnOk P w K mg base CX0 (k + 1) f fd ["one", "other"] (spUl K) := by
  refine F.ok scUl (fun vs H Q E h => ?_) (fun cdv A outer s H vs Q E hr h => ?_)
  · obtain ⟨u1, u2, s1, s2, rfl, _⟩ := h
    rfl
  obtain ⟨u1, u2, s1, s2, rfl, h1, h2, hl, hn, q⟩ := h
  obtain ⟨a, ar, ab, al, rfl, ha, _, _, hal⟩ := snT h1
  obtain ⟨b, br, bb, bl, rfl, hb, _, _, hbl⟩ := snT h2
  refine ⟨_, (pss_one (ps_ret (pe_lc (own := [("lock", 2), ("first", 3), ("last", 4)]) (g := gAny K 2 (gCons (gName 2) (gCons (gAny K 2 (gCons (gName 3) (gCons (gName 4) gNil))) gNil))) rfl scUl.nd (pi_ez rfl m_enumerate rfl m_zip (pa_cons (pe_ix (r := rIxA K) ix_any (pv 0) pe_int (fun _ _ => rfl)) (pa_cons (pe_ix (r := rIxA K) ix_any (pv 1) pe_int (fun _ _ => rfl)) pa_nil))) (blkOk_by (own := [("lock", 2), ("first", 3), ("last", 4)]) (N := nUl) (sc := defScope sUl) (by decide +kernel)) (fun _ _ _ _ _ => (pg_any rfl (pgs_cons (pg_name (i := 2) scUl.nd rfl (.inl rfl)) (pgs_cons (pg_any rfl (pgs_cons (pg_name (i := 3) scUl.nd rfl (.inl rfl)) (pgs_cons (pg_name (i := 4) scUl.nd rfl (.inl rfl)) pgs_nil))) pgs_nil)))) (fun _ _ _ _ _ => (pts_one (pt_cmpR op_ne (pv 3) (pv 4) (nomark _)))) (fun _ _ _ _ _ => pe_hide (pv 2))))), ?_⟩
  refine ⟨_, rfl, a, _, _, _, rfl, rfl, .inr ha, rfl, _, rfl, b, _, _, _, rfl, rfl, .inr hb, rfl, al, bl, _, _, rfl, .inr hal, .inr hbl, fun J wk L nL => ?_⟩
  rw [List.length_map, List.length_map, show min s1.ls.length s2.ls.length = s1.ls.length by omega] at wk
  refine lc_it wk (fun i Hc => Hc L = some (.lst ((natI (ul s1 s2 i)).map V.int)) ∧ Same H Hc) ⟨upd_same, same_new nL⟩ (fun _ _ _ h => h.2) (fun i x Hc H' hi h hy => ?_) (fun Hc h => q L Hc h.2 nL h.1)
  obtain ⟨eL, sc⟩ := h
  obtain ⟨T1, T2, x, y, rfl, n1, n2, n12, rfl, ex, ey⟩ := hy
  have ex' : (s1.ls.map V.int)[i]? = some x := ex
  have ey' : (s2.ls.map V.int)[i]? = some y := ey
  obtain ⟨z1, hz1, rfl⟩ := intz_at ex'
  obtain ⟨z2, hz2, rfl⟩ := intz_at ey'
  have sA := same_new n1 (o := .tup [.int z1, .int z2])
  have n2' : (upd Hc T1 (.tup [.int z1, .int z2])) T2 = none := by rw [upd_ne (Ne.symm n12)]; exact n2
  have sB := same_new n2' (o := .tup [.int (i : Nat), .ref T1])
  have e2 : (upd (upd Hc T1 (.tup [.int z1, .int z2])) T2 (.tup [.int (i : Nat), .ref T1])) T2 = some (.tup [.int (i : Nat), .ref T1]) := upd_same
  have e1 : (upd (upd Hc T1 (.tup [.int z1, .int z2])) T2 (.tup [.int (i : Nat), .ref T1])) T1 = some (.tup [.int z1, .int z2]) := by rw [upd_ne n12]; exact upd_same
  have sAB := sA.trans sB
  generalize upd (upd Hc T1 (.tup [.int z1, .int z2])) T2 (.tup [.int (i : Nat), .ref T1]) = H' at sAB e2 e1
  refine ⟨T2, _, rfl, .inr (.inl (.inl e2)), rfl, _, _, rfl, _, _, rfl, T1, _, rfl, .inr (.inl (.inl e1)), rfl, _, _, rfl, _, _, rfl, rfl, rfl, rfl, ?_⟩
  refine ⟨_, rfl, _, rfl, rfl, _, rfl, ?_⟩
  have g1 := gt_nat hz1
  have g2 := gt_nat hz2
  have eL' := sAB _ _ eL
  have hlen : ((natI (ul s1 s2 i)).map V.int).length ≤ 1000 := by
    rw [List.length_map, List.length_map]
    unfold ul
    have := List.length_filter_le (fun i : Nat => decide (gt s1.ls (i : Int) ≠ gt s2.ls (i : Int))) (List.range i)
    rw [List.length_range] at this
    omega
  by_cases e : z1 = z2
  · rw [decide_eq_true (show V.int z1 = V.int z2 by rw [e])]
    refine iteF ⟨?_, sc.trans sAB⟩
    rw [ul_succ, if_neg (by rw [g1, g2]; exact fun z => z e), List.append_nil]
    exact eL'
  · rw [decide_eq_false (show ¬ V.int z1 = V.int z2 from fun z => e (V.int.inj z))]
    refine iteT ⟨L, _, eL', _, rfl, fun _ => ⟨_, upd_same, small1000' hlen, ?_, fun z o y => ?_⟩⟩
    · rw [upd_same, ul_succ, if_pos (by rw [g1, g2]; exact e)]
      unfold natI
      rw [List.map_append, List.map_append]
      rfl
    · have hzD : z ≠ L := ne_of_none y nL
      rw [upd_ne hzD, upd_ne hzD]
      unfold delH
      rw [if_neg hzD]
      exact (sc.trans sAB) _ _ y
/-! ### boats_behind -/
abbrev nBb : List Str := ["canal", "one", "other", "water", "boats", "lock", "start", "end"]
theorem scBb : FnScope nBb ["canal", "one", "other", "water"] (defScope sBb) := ⟨rfl, rfl, rfl, by decide +kernel, rfl, by decide +kernel, by decide +kernel⟩
def bbL (c : Cn) (s1 s2 : Sn) (r : Bool) : List Int := (ul s1 s2 c.ls.length).foldl (fun z i => mov z (fromTo c s1 i r)) (boatsW r s1)
def spBb (K : PySem.W.Frag) : Sp := fun vs H Q _ => ∃ (v u1 u2 : V) (r : Bool) (c : Cn) (s1 s2 : Sn) (B1 B2 : Int), vs = [v, u1, u2, .str (wS r)] ∧ CnAny K H v c ∧ Dp K H u1 (snD s1) ∧ Dp K H u2 (snD s2) ∧ okCn 10 12 c ∧ okSn c B1 s1 ∧ okSn c B2 s2 ∧
  ∀ (L : Addr) (H' : Hp), Same H H' → H L = none → H' L = some (.lst ((bbL c s1 s2 r).map V.int)) → Q (.ref L) H'
theorem ok_bb {f fb fu ft : Addr} {fd fdb fdu fdt : FuncData} {k : Nat} (F : Fun K "boats_behind" "boats_behind" sBb f fd) (Bo : Fns P w K mg base k "boats_of" ["standing", "water"] (spBoT K) fb fdb) (Ul : Fns P w K mg base k "unlike_locks" ["one", "other"] (spUl K) fu fdu) (FT : Fns P w K mg base k "from_and_to" ["canal", "standing", "lock", "water"] (spFT K) ft fdt) (m_list : mg "list" = none) : FnOk P w K mg base CX0 (k + 1) f fd ["canal", "one", "other", "water"] (spBb K) := by
  refine F.ok scBb (fun vs H Q E h => ?_) (fun cdv A outer s H vs Q E hr h => ?_)
  · obtain ⟨v, u1, u2, r, c, s1, s2, B1, B2, rfl, _⟩ := h
    rfl
  obtain ⟨v, u1, u2, r, c, s1, s2, B1, B2, rfl, hc, hu1, hu2, okc, ok1, ok2, q⟩ := h
  have hn1 := ok1.n; have hn2 := ok2.n; have hnL : c.ls.length ≤ 12 := okc.n
  refine ⟨_, (pss_cons (ps_set (i := 4) scBb.nd rfl (.inl rfl) (pe_callTy (r := rLstA K) call_listA rfl m_list boot_list (pa_cons (pe_fn Bo hr rfl (pa_cons (pv 1) (pa_cons (pv 3) pa_nil))) pa_nil)))
    (pss_cons (ps_for PassesOwn.never rfl (pi_seq (pe_fn Ul hr rfl (pa_cons (pv 1) (pa_cons (pv 2) pa_nil)))) (pg_name (i := 5) scBb.nd rfl (.inl rfl))
    (pss_cons (ps_asg (pe_fn FT hr rfl (pa_cons (pv 0) (pa_cons (pv 1) (pa_cons (pv 5) (pa_cons (pv 3) pa_nil))))) (pg_any rfl (pgs_cons (pg_name (i := 6) scBb.nd rfl (.inl rfl)) (pgs_cons (pg_name (i := 7) scBb.nd rfl (.inl rfl)) pgs_nil))))
    (pss_cons (ps_augS (pv 4) (pv 6) get_list pe_int ip_sub set_list)
    (pss_one (ps_augS (pv 4) (pv 7) get_list pe_int ip_add set_list)))))
    (pss_one (ps_ret (pv 4))))), ?_⟩
  refine ⟨_, rfl, _, rfl, nil_go ⟨u1, r, s1, rfl, hu1, fun a ha => ?_⟩⟩
  refine nil_go ⟨a, _, rfl, .inr ha, fun L nL => ?_⟩
  refine at_g (σ' := [some v, some u1, some u2, some (.str (wS r)), some (.ref L), none, none, none]) rfl ?_
  have sL := same_new nL (o := .lst ((boatsW r s1).map V.int))
  have eL : (upd H L (.lst ((boatsW r s1).map V.int))) L = some (.lst ((boatsW r s1).map V.int)) := upd_same
  generalize upd H L (.lst ((boatsW r s1).map V.int)) = H1 at sL eL
  refine ⟨_, rfl, _, rfl, nil_go ⟨u1, u2, s1, s2, rfl, Dp.same sL _ hu1, Dp.same sL _ hu2, by omega, by omega, fun U H2 s2' nU eU => ?_⟩⟩
  rw [hn1] at eU
  have s12 := sL.trans s2'
  have hUL : U ≠ L := fun z => by rw [z, eL] at nU; cases nU
  refine ⟨U, _, rfl, .inl (SqL.of eU), fun J wk => for_it wk (fun j σ H5 => ∃ (y5 y6 y7 : Option V), σ = [some v, some u1, some u2, some (.str (wS r)), some (.ref L), y5, y6, y7] ∧ Same H H5 ∧ H5 U = some (.lst ((natI (ul s1 s2 c.ls.length)).map V.int)) ∧ H5 L = some (.lst ((((ul s1 s2 c.ls.length).take j).foldl (fun z i => mov z (fromTo c s1 i r)) (boatsW r s1)).map V.int)))
    ⟨none, none, none, rfl, s12, eU, by rw [List.take_zero]; exact s2' _ _ eL⟩ (fun j σ H5 _ h => ?_) (fun j x σ H5 H6 hj h hy => ?_) (fun σ H5 h => ?_)⟩
  · obtain ⟨_, _, _, _, _, e5, _⟩ := h
    refine ⟨fun _ _ => SqL.of e5, fun z => ?_⟩
    rcases z with (z | ⟨o, z⟩) | z
    · rw [eU] at z; cases z
    · rw [eU] at z; cases z
    · exact .inr z
  · obtain ⟨y5, y6, y7, rfl, s5, e5, l5⟩ := h
    obtain ⟨rfl, hx⟩ := hy
    obtain ⟨zi, hzi, rfl⟩ := intz_at hx
    have hzi' : (natI (ul s1 s2 c.ls.length))[j]? = some zi := hzi
    unfold natI at hzi'
    rw [List.getElem?_map] at hzi'
    cases hq : (ul s1 s2 c.ls.length)[j]? with
    | none => rw [hq] at hzi'; cases hzi'
    | some i =>
      rw [hq] at hzi'
      obtain rfl : ((i : Nat) : Int) = zi := Option.some.inj hzi'
      have hi : i < c.ls.length := (ul_lt (List.mem_of_getElem? hq)).1
      refine at_g (σ' := [some v, some u1, some u2, some (.str (wS r)), some (.ref L), some (.int (i : Nat)), y6, y7]) rfl ?_
      refine ⟨_, rfl, _, rfl, _, rfl, _, rfl, nil_go ⟨v, u1, i, r, c, s1, rfl, hc.same s5, (snAny_t hu1).same s5, hi, by omega, fun p H7 s7 np ep => ?_⟩⟩
      refine ⟨p, _, rfl, .inr (.inl (.inl ep)), rfl, _, _, rfl, _, _, rfl, rfl, ?_⟩
      refine at_s (σ' := [some v, some u1, some u2, some (.str (wS r)), some (.ref L), some (.int (i : Nat)), some (.int (fromTo c s1 i r).1), some (.int (fromTo c s1 i r).2)]) rfl ?_
      have l7 := s7 _ _ l5
      have hf := fromTo_ok okc (s := s1) hi r
      have hbl := boats_len ok1 r
      obtain ⟨hlen, _⟩ := mov_sum (r := r) okc (s := s1) (zs := boatsW r s1) hbl (j := 0) (by omega) ((ul s1 s2 c.ls.length).take j) (fun x hx => (ul_lt (List.mem_of_mem_take hx)).1)
      generalize hzs : ((ul s1 s2 c.ls.length).take j).foldl (fun z i => mov z (fromTo c s1 i r)) (boatsW r s1) = zs at l7 l5 hlen
      have hl7 : (zs.length : Int) = basW r c := by rw [hlen]; exact hbl
      have L1 : (fromTo c s1 i r).1 < (zs.length : Int) := by rw [hl7]; exact hf.1.2
      have L2 : (fromTo c s1 i r).2 < ((zs.set (fromTo c s1 i r).1.toNat (gt zs (fromTo c s1 i r).1 - 1)).length : Int) := by rw [List.length_set, hl7]; exact hf.2.2
      have at1 : ∀ {ws : List Int} {x : Int}, 0 ≤ x → x < (ws.length : Int) → (ws.map V.int)[x.toNat]? = some (.int (gt ws x)) := fun {ws x} h0 h1 => by rw [List.getElem?_map, gt_get h0 h1]; rfl
      refine ⟨_, rfl, _, rfl, L, _, _, _, rfl, rfl, SqL.of l7, hf.1.1, at1 hf.1.1 L1, _, _, rfl, rfl, L, _, _, _, rfl, rfl, l7, set_at (x := 0) hf.1.1 L1, ?_⟩
      rw [set_ints]
      refine ⟨_, rfl, _, rfl, L, _, _, _, rfl, rfl, SqL.of upd_same, hf.2.1, at1 hf.2.1 L2, _, _, rfl, rfl, L, _, _, _, rfl, rfl, upd_same, set_at (x := 0) hf.2.1 L2, ?_⟩
      rw [set_ints, upd_upd]
      refine ⟨_, _, _, rfl, fun x o e => by rw [upd_ne (ne_of_none e nL)]; exact (s5.trans s7) _ _ e, by rw [upd_ne hUL]; exact s7 _ _ e5, ?_⟩
      rw [upd_same, take_snoc hq, List.foldl_append, hzs]
      rfl
  · obtain ⟨y5, y6, y7, rfl, s5, e5, l5⟩ := h
    have e : (ul s1 s2 c.ls.length).take ((natI (ul s1 s2 c.ls.length)).map V.int).length = ul s1 s2 c.ls.length := List.take_of_length_le (by rw [List.length_map, List.length_map]; exact Nat.le_refl _)
    rw [e] at l5
    exact ⟨_, rfl, q L H5 s5 nL l5⟩

end
end XL
namespace XL
open PySem PySem.Spec PyProof.Rows L2
theorem idep' : ∀ zs : List Int, PyData.depthAll (zs.map PyData.int) = 0
  | [] => by simp [PyData.depthAll]
  | z :: zs => by simp [PyData.depthAll, PyData.depth, idep' zs]
theorem ilay' : ∀ zs : List Int, PyData.canLayAll0 (zs.map PyData.int) = true
  | [] => by simp [PyData.canLayAll0]
  | z :: zs => by simp [PyData.canLayAll0, PyData.canLay0, ilay' zs]
theorem lints_shaped (zs : List Int) : SeqAt.shaped (.list (intsD zs)) = true := by
  have h1 := idep' zs
  have h2 : PyData.depth (.list (intsD zs)) ≤ 64 := by unfold intsD; simp only [PyData.depth]; omega
  show (PyData.canLay0 (.list (intsD zs)) && decide (PyData.depth (.list (intsD zs)) ≤ 64)) = true
  rw [Bool.and_eq_true]; exact ⟨by unfold intsD; simp only [PyData.canLay0]; exact ilay' zs, decide_eq_true h2⟩
theorem lints_eqv (zs : List Int) : PyData.eqv (.list (intsD zs)) (.list (intsD zs)) = true := by
  simp only [PyData.eqv]
  induction zs with
  | nil => simp [intsD, PyData.eqvAll]
  | cons z zs ih =>
    unfold intsD at ih ⊢
    simp [PyData.eqvAll, PyData.eqv, ih]
theorem flat_ints (zs : List Int) : (zs.map V.int).all flatV = true := by
  rw [List.all_eq_true]
  intro x hx
  obtain ⟨z, _, rfl⟩ := List.mem_map.mp hx
  rfl
theorem in_ints (x : Int) (zs : List Int) : inV (.int x) (zs.map V.int) = decide (x ∈ zs) := by
  unfold inV
  rw [List.any_map, Bool.eq_iff_iff, List.any_eq_true, decide_eq_true_iff]
  constructor
  · rintro ⟨z, hz, e⟩
    have : z = x := by simpa [eqV] using e
    rw [← this]; exact hz
  · intro h
    exact ⟨x, h, by simp [eqV]⟩
theorem slp_mem {c : Cn} {r : Bool} {f : Rf} {j : Nat} (hj : (j : Int) < basW r c) : (j : Int) ∈ natI (slp c r f) ↔ f (j : Int) = none := by
  unfold natI slp
  constructor
  · intro h
    obtain ⟨n, hn, e⟩ := List.mem_map.mp h
    obtain ⟨_, h2⟩ := List.mem_filter.mp hn
    rw [e] at h2
    cases q : f (j : Int) with
    | none => rfl
    | some ks => rw [q] at h2; cases h2
  · intro h
    refine List.mem_map.mpr ⟨j, List.mem_filter.mpr ⟨List.mem_range.mpr (by omega), by rw [h]; rfl⟩, rfl⟩
theorem pi_seqK {X : Cx} {K : PySem.W.Frag} {tg l : Expr} {tl : TE} (hK : X.K = K) (hl : PE X l tl) : PI X tg l (iSeq K tl) := by
  subst hK
  exact pi_seq hl
section
variable {P : Program} {w : World} {K : PySem.W.Frag} {mg : Str → Option Value} {base : Heap}
/-! ### leads -/
abbrev nLe : List Str := ["canal", "one", "other", "water", "barred", "ends", "lock", "end"]
theorem scLe : FnScope nLe ["canal", "one", "other", "water"] (defScope sLe) := ⟨rfl, rfl, rfl, by decide +kernel, rfl, by decide +kernel, by decide +kernel⟩
/-- all ends of the locks that are unlike are awake -/
def AwakeE (c : Cn) (s1 s2 : Sn) (r : Bool) (f : Rf) : Prop := ∀ i ∈ ul s1 s2 c.ls.length, f (endW r (lkAt c i)).1 ≠ none ∧ f (endW r (lkAt c i)).2 ≠ none
def spLe (K : PySem.W.Frag) : Sp := fun vs H Q _ => ∃ (v u1 u2 : V) (r : Bool) (c : Cn) (s1 s2 : Sn) (B1 B2 : Int), vs = [v, u1, u2, .str (wS r)] ∧ CnAny K H v c ∧ Dp K H u1 (snD s1) ∧ Dp K H u2 (snD s2) ∧ okCn 10 12 c ∧ okSn c B1 s1 ∧ okSn c B2 s2 ∧ Alone s1 r ∧ Alone s2 r ∧
  ∀ H' : Hp, Same H H' → (bbL c s1 s2 r ≠ boatsW r s2 → Q (.bl false) H') ∧ (bbL c s1 s2 r = boatsW r s2 → ∀ (f : Rf) (b : Bool), Rd c s1 r f → (b = true ↔ AwakeE c s1 s2 r f) → Q (.bl b) H')
def endsL (c : Cn) (r : Bool) (L : List Nat) : List Int := L.flatMap fun i => [(endW r (lkAt c i)).1, (endW r (lkAt c i)).2]
theorem endsL_snoc (c : Cn) (r : Bool) (L : List Nat) (i : Nat) : endsL c r (L ++ [i]) = endsL c r L ++ [(endW r (lkAt c i)).1, (endW r (lkAt c i)).2] := by unfold endsL; rw [List.flatMap_append]; simp
theorem endsL_len (c : Cn) (r : Bool) : ∀ L : List Nat, (endsL c r L).length = 2 * L.length
  | [] => rfl
  | i :: L => by
    show ([(endW r (lkAt c i)).1, (endW r (lkAt c i)).2] ++ endsL c r L).length = _
    rw [List.length_append, endsL_len c r L]; simp; omega
theorem ints_eqv_iff {xs ys : List Int} : PyData.eqvAll (intsD xs) (intsD ys) = decide (xs = ys) := by
  induction xs generalizing ys with
  | nil => cases ys <;> simp [intsD, PyData.eqvAll]
  | cons x xs ih =>
    cases ys with
    | nil => simp [intsD, PyData.eqvAll]
    | cons y ys =>
      unfold intsD at ih ⊢
      simp only [List.map_cons, PyData.eqvAll, ih, PyData.eqv]
      by_cases h1 : x = y
      · by_cases h2 : xs = ys
        · simp [h1, h2]
        · simp [h1, h2]
      · simp [h1]
theorem ok_le {f fa fb fo fs fu fe : Addr} {fd fda fdb fdo fds fdu fde : FuncData} {k : Nat} (F : Fun K "leads" "leads" sLe f fd) (Al : Fns P w K mg base k "be_alone" ["standing", "water"] (spAl K) fa fda) (Bb : Fns P w K mg base k "boats_behind" ["canal", "one", "other", "water"] (spBb K) fb fdb) (Bo : Fns P w K mg base k "boats_of" ["standing", "water"] (spBoT K) fo fdo) (As : Fns P w K mg base k "asleep" ["canal", "standing", "water"] (spAs K) fs fds) (Ul : Fns P w K mg base k "unlike_locks" ["one", "other"] (spUl K) fu fdu) (En : Fns P w K mg base k "ends_of" ["lock", "water"] (spEnds K) fe fde)
    (m_list : mg "list" = none) (m_any : mg "any" = none) : FnOk P w K mg base CX0 (k + 1) f fd ["canal", "one", "other", "water"] (spLe K) := by
  refine F.ok scLe (fun vs H Q E h => ?_) (fun cdv A outer s H vs Q E hr h => ?_)
  · obtain ⟨v, u1, u2, r, c, s1, s2, B1, B2, rfl, _⟩ := h
    rfl
  obtain ⟨v, u1, u2, r, c, s1, s2, B1, B2, rfl, hc, hu1, hu2, okc, ok1, ok2, al1, al2, q⟩ := h
  have hn1 := ok1.n; have hn2 := ok2.n; have hnL : c.ls.length ≤ 12 := okc.n
  refine ⟨_, (pss_cons (ps_expr (pe_fn Al hr rfl (pa_cons (pv 1) (pa_cons (pv 3) pa_nil))))
    (pss_cons (ps_expr (pe_fn Al hr rfl (pa_cons (pv 2) (pa_cons (pv 3) pa_nil))))
    (pss_cons (ps_if (pt_cmpR (op_neD hr.units) (pe_fn Bb hr rfl (pa_cons (pv 0) (pa_cons (pv 1) (pa_cons (pv 2) (pa_cons (pv 3) pa_nil))))) (pe_callTy (r := rLstA K) call_listA rfl m_list boot_list (pa_cons (pe_fn Bo hr rfl (pa_cons (pv 2) (pa_cons (pv 3) pa_nil))) pa_nil)) (nomark _)) (pss_one (ps_ret pe_bl)) pss_nil)
    (pss_cons (ps_set (i := 4) scLe.nd rfl (.inr rfl) (pe_fn As hr rfl (pa_cons (pv 0) (pa_cons (pv 1) (pa_cons (pv 3) pa_nil)))))
    (pss_cons (ps_setLc2 (i := 5) (own := [("lock", 6), ("end", 7)]) (vs1 := [7]) (g := gName 6) (g1 := gName 7) (tt := tYes) (tt1 := tYes) rfl scLe.nd rfl rfl (sw_true rfl rfl rfl (by decide +kernel)) (pi_seq (pe_fn Ul hr rfl (pa_cons (pv 1) (pa_cons (pv 2) pa_nil)))) (blkOk_by (own := [("lock", 6), ("end", 7)]) (N := nLe) (sc := defScope sLe) (by decide +kernel)) (by decide) (fun _ _ _ _ _ => (pg_name (i := 6) scLe.nd rfl (.inl rfl))) (fun _ _ _ _ _ => pts_nil) (fun _ _ _ _ _ => (pi_seqK (K := K) rfl (pe_fn En hr rfl (pa_cons (pe_ix (r := rIxA K) ix_any (pe_ix (r := rIxA K) ix_any (pv 0) pe_int (fun _ _ => rfl)) (pv 6) (fun _ _ => rfl)) (pa_cons (pv 3) pa_nil))))) (fun _ _ _ _ _ => (pg_name (i := 7) scLe.nd rfl (.inl rfl))) (fun _ _ _ _ _ => pts_nil) (fun _ _ _ _ _ => (pv 7)))
    (pss_one (ps_ret (pe_not (pe_callB (r := rAny K) (cr_any rfl) rfl m_any boot_any' (pa_cons (pe_lc (own := [("end", 7)]) (g := gName 7) (tt := tYes) rfl scLe.nd (pi_seq (pv 5)) (blkOk_by (own := [("end", 7)]) (N := nLe) (sc := defScope sLe) (by decide +kernel)) (fun _ _ _ _ _ => (pg_name (i := 7) scLe.nd rfl (.inl rfl))) (fun _ _ _ _ _ => pts_nil) (fun _ _ _ _ _ => pe_hide (pe_cmpR (r := rIn K false) op_in_seq (pv 7) (pv 4) (by rfl)))) pa_nil)))))))))), ?_⟩
  refine ⟨_, rfl, _, rfl, nil_go ⟨u1, r, s1, rfl, hu1, al1, fun H1 g1 => ?_⟩⟩
  refine ⟨_, rfl, _, rfl, nil_go ⟨u2, r, s2, rfl, Dp.same g1 _ hu2, al2, fun H2 g2 => ?_⟩⟩
  have s02 := g1.trans g2
  refine ⟨_, rfl, _, rfl, _, rfl, _, rfl, nil_go ⟨v, u1, u2, r, c, s1, s2, _, _, rfl, hc.same s02, Dp.same s02 _ hu1, Dp.same s02 _ hu2, okc, ok1, ok2, fun L H3 g3 nL eL => ?_⟩⟩
  have s03 := s02.trans g3
  refine ⟨_, rfl, _, rfl, nil_go ⟨u2, r, s2, rfl, Dp.same s03 _ hu2, fun a ha => nil_go ⟨a, _, rfl, .inr ha, fun L2 nL2 => ?_⟩⟩⟩
  have g4 := same_new nL2 (o := .lst ((boatsW r s2).map V.int))
  have eL2 : (upd H3 L2 (.lst ((boatsW r s2).map V.int))) L2 = some (.lst ((boatsW r s2).map V.int)) := upd_same
  generalize upd H3 L2 (.lst ((boatsW r s2).map V.int)) = H4 at g4 eL2
  have s04 := s03.trans g4
  refine ⟨.list (intsD (bbL c s1 s2 r)), .list (intsD (boatsW r s2)), .lst (SqL.of (g4 _ _ eL)) (dp_ints' _), .lst (SqL.of eL2) (dp_ints' _), lints_shaped _, lints_shaped _, _, rfl, ?_⟩
  rw [show PyData.eqv (.list (intsD (bbL c s1 s2 r))) (.list (intsD (boatsW r s2))) = decide (bbL c s1 s2 r = boatsW r s2) by simp only [PyData.eqv]; exact ints_eqv_iff]
  by_cases hbb : bbL c s1 s2 r = boatsW r s2
  case neg =>
    rw [decide_eq_false hbb]
    exact iteT ((q _ s04).1 hbb)
  rw [decide_eq_true hbb]
  refine iteF ?_
  refine ⟨_, rfl, _, rfl, _, rfl, nil_go ⟨v, u1, r, c, s1, _, rfl, hc.same s04, Dp.same s04 _ hu1, okc, ok1, al1, fun Ba f H5 g5 nB rd eB => ?_⟩⟩
  refine at_g (σ' := [some v, some u1, some u2, some (.str (wS r)), some (.ref Ba), none, none, none]) rfl ?_
  have s05 := s04.trans g5
  refine ⟨_, rfl, _, rfl, nil_go ⟨u1, u2, s1, s2, rfl, Dp.same s05 _ hu1, Dp.same s05 _ hu2, by omega, by omega, fun U H6 g6 nU eU => ?_⟩⟩
  rw [hn1] at eU
  have s06 := s05.trans g6
  have eB6 := g6 _ _ eB
  obtain ⟨a1, g', vs, rfl, ha1, hg', hvl, hv⟩ := (hc.same s06).ex
  have hul : (ul s1 s2 c.ls.length).length ≤ 12 := by
    unfold ul
    have h2 := List.length_filter_le (fun i : Nat => decide (gt s1.ls (i : Int) ≠ gt s2.ls (i : Int))) (List.range c.ls.length)
    rw [List.length_range] at h2
    omega
  refine ⟨U, _, rfl, .inl (SqL.of eU), fun J wk D nD => it_it wk (fun i Hc => Hc D = some (.lst ((endsL c r ((ul s1 s2 c.ls.length).take i)).map V.int)) ∧ Same H6 Hc) ⟨upd_same, same_new nD⟩ (fun i Hc _ h => ?_) (fun i x Hc H' hi h hy => ?_) (fun Hc h => ?_)⟩
  · obtain ⟨_, sc⟩ := h
    exact ⟨fun _ z => sc.seq z, fun z => Same.tup sc z⟩
  · obtain ⟨eD, sc⟩ := h
    obtain ⟨rfl, hx⟩ := hy
    obtain ⟨zi, hzi, rfl⟩ := intz_at hx
    unfold natI at hzi
    rw [List.getElem?_map] at hzi
    cases hq : (ul s1 s2 c.ls.length)[i]? with
    | none => rw [hq] at hzi; cases hzi
    | some il =>
      rw [hq] at hzi
      obtain rfl : ((il : Nat) : Int) = zi := Option.some.inj hzi
      have hmem := List.mem_of_getElem? hq
      have hil : il < c.ls.length := (ul_lt hmem).1
      have hvi : il < vs.length := by omega
      obtain ⟨l, t, el, et, ht⟩ := hv il _ (List.getElem?_eq_getElem hvi)
      rw [lkAt_get hil] at el
      obtain rfl : lkAt c il = l := Option.some.inj el
      have hi12 : i < 12 := by
        have := (List.getElem?_eq_some_iff.mp hq).1
        omega
      have etk : (ul s1 s2 c.ls.length).take (i + 1) = (ul s1 s2 c.ls.length).take i ++ [il] := take_snoc hq
      have hln : (endsL c r ((ul s1 s2 c.ls.length).take i)).length ≤ 24 := by
        rw [endsL_len, List.length_take]; omega
      refine ⟨rfl, ?_⟩
      unfold tYes
      refine iteT ?_
      have ati : atI vs ((il : Nat) : Int) = some (.ref t) := by
        refine atI_nat ?_
        rw [List.getElem?_eq_getElem hvi, et]
      refine ⟨_, rfl, a1, _, _, _, rfl, rfl, Same.sq2 sc ha1, rfl, _, rfl, g', _, _, _, rfl, rfl, Same.sq2 sc hg', ati, _, rfl, nil_go ⟨t, wS r, lkAt c il, rfl, Same.sq2 sc ht, fun p np => ?_⟩⟩
      rw [isRed_wS]
      have sp := same_new np (o := .tup (prV (endW r (lkAt c il))))
      have ep : (upd H' p (.tup (prV (endW r (lkAt c il))))) p = some (.tup (prV (endW r (lkAt c il)))) := upd_same
      have hpD : p ≠ D := fun z => by rw [z, eD] at np; cases np
      generalize upd H' p (.tup (prV (endW r (lkAt c il)))) = H7 at sp ep
      refine ⟨p, _, rfl, .inr (.inl (.inl ep)), fun J1 wk1 => it_it wk1 (fun j Hd => Hd D = some (.lst ((endsL c r ((ul s1 s2 c.ls.length).take i) ++ [(endW r (lkAt c il)).1, (endW r (lkAt c il)).2].take j).map V.int)) ∧ Same H6 Hd ∧ Hd p = some (.tup (prV (endW r (lkAt c il))))) ⟨by rw [List.take_zero, List.append_nil]; exact sp _ _ eD, sc.trans sp, ep⟩ (fun j Hd _ h => ?_) (fun j x Hd H' hj h hy => ?_) (fun Hd h => ?_)⟩
      · obtain ⟨_, _, ep'⟩ := h
        refine ⟨fun nt _ => absurd (.inl (.inl ep)) nt, fun _ => .inl (.inl ep')⟩
      · obtain ⟨eD', sd, ep'⟩ := h
        obtain ⟨rfl, hx'⟩ := hy
        have hj2 : j < 2 := hj
        obtain ⟨z, rfl, hfz⟩ : ∃ z : Int, x = .int z ∧ [(endW r (lkAt c il)).1, (endW r (lkAt c il)).2].take (j + 1) = [(endW r (lkAt c il)).1, (endW r (lkAt c il)).2].take j ++ [z] := by
          rcases Nat.lt_or_ge j 1 with h1 | h1
          · obtain rfl : j = 0 := by omega
            exact ⟨_, (Option.some.inj hx').symm, rfl⟩
          · obtain rfl : j = 1 := by omega
            exact ⟨_, (Option.some.inj hx').symm, rfl⟩
        refine ⟨rfl, ?_⟩
        have hl2 : ([(endW r (lkAt c il)).1, (endW r (lkAt c il)).2].take j).length ≤ 2 := by rw [List.length_take]; exact Nat.min_le_right _ _
        refine iteT ⟨_, rfl, _, eD', small1000' (by rw [List.length_map, List.length_append]; omega), ?_, fun y o e => by rw [upd_ne (ne_of_none e nD)]; exact sd _ _ e, by rw [upd_ne hpD]; exact ep'⟩
        rw [upd_same, hfz, ← List.append_assoc, List.map_append (l₂ := [z])]; rfl
      · obtain ⟨eD', sd, _⟩ := h
        rw [etk, endsL_snoc]
        exact ⟨eD', sd⟩
  obtain ⟨eD, sc⟩ := h
  have etl : (ul s1 s2 c.ls.length).take ((natI (ul s1 s2 c.ls.length)).map V.int).length = ul s1 s2 c.ls.length := List.take_of_length_le (by rw [List.length_map, List.length_map]; exact Nat.le_refl _)
  rw [etl] at eD
  have hl2 : (endsL c r (ul s1 s2 c.ls.length)).length ≤ 24 := by rw [endsL_len]; omega
  refine at_g (σ' := [some (.ref a1), some u1, some u2, some (.str (wS r)), some (.ref Ba), some (.ref D), none, none]) rfl ?_
  have eB7 := sc _ _ eB6
  have s07 := s06.trans sc
  refine ⟨_, rfl, D, _, rfl, .inl (SqL.of eD), fun J wk => lc_map wk Same (fun a b => a.trans b) (fun i y F => ∃ z, (endsL c r (ul s1 s2 c.ls.length))[i]? = some z ∧ y = .bl (decide (z ∈ natI (slp c r f)))) (fun i y A B s p => p) (by rw [List.length_map]; exact small1000' (by omega)) (Same.refl _) (fun F D' acc sF nF => ?_) (fun i x D' acc F H' hi nD' sF nF hy B hB => ?_) (fun D' ys F nD' sF nF hyl hR => ?_)⟩
  · have sD : Same _ (upd F D' (.lst acc)) := sF.trans (same_new nF)
    exact ⟨fun _ z => sD.seq z, fun z => Same.tup sD z⟩
  · obtain ⟨rfl, hx⟩ := hy
    obtain ⟨z, hz, rfl⟩ := intz_at hx
    refine hB _ F rfl nF fun Qt hq => ?_
    refine ⟨_, rfl, _, rfl, Ba, _, rfl, .inl (SqL.of (sF _ _ eB7)), rfl, flat_ints _, ?_⟩
    rw [in_ints]
    exact hq _ _ (Same.refl _) ⟨z, hz, rfl⟩
  · have ey : ys = ((endsL c r (ul s1 s2 c.ls.length)).map fun z => decide (z ∈ natI (slp c r f))).map V.bl := by
      rw [List.length_map] at hyl
      apply List.ext_getElem?
      intro i
      rw [List.map_map, List.getElem?_map]
      cases h : ys[i]? with
      | none =>
        have := List.getElem?_eq_none_iff.mp h
        rw [List.getElem?_eq_none (by omega)]; rfl
      | some y =>
        obtain ⟨z, e1, e2⟩ := hR i y h
        rw [e1, e2]; rfl
    refine nil_go ⟨D', (endsL c r (ul s1 s2 c.ls.length)).map fun z => decide (z ∈ natI (slp c r f)), rfl, by rw [← ey]; exact SqL.of upd_same, _, rfl, ?_⟩
    have okE : ∀ i ∈ ul s1 s2 c.ls.length, inB r c (endW r (lkAt c i)).1 ∧ inB r c (endW r (lkAt c i)).2 := fun i hi => by
      have := fromTo_ok okc (s := s1) (ul_lt hi).1 r
      rcases fromTo_ends c s1 i r with e | e <;> rw [e] at this
      · exact this
      · exact ⟨this.2, this.1⟩
    have memS : ∀ z, inB r c z → (z ∈ natI (slp c r f) ↔ f z = none) := fun z hz => by
      obtain ⟨n, rfl⟩ : ∃ n : Nat, z = (n : Int) := ⟨z.toNat, by have := hz.1; omega⟩
      exact slp_mem hz.2
    refine (q _ (s07.trans (sF.trans (same_new nF)))).2 hbb f _ rd ?_
    rw [Bool.not_eq_true', List.any_eq_false]
    constructor
    · intro h i hi
      have m1 : (endW r (lkAt c i)).1 ∈ endsL c r (ul s1 s2 c.ls.length) := List.mem_flatMap.mpr ⟨i, hi, List.mem_cons_self ..⟩
      have m2 : (endW r (lkAt c i)).2 ∈ endsL c r (ul s1 s2 c.ls.length) := List.mem_flatMap.mpr ⟨i, hi, List.mem_cons_of_mem _ (List.mem_cons_self ..)⟩
      refine ⟨fun e => ?_, fun e => ?_⟩
      · exact h _ (List.mem_map.mpr ⟨_, m1, rfl⟩) (decide_eq_true ((memS _ (okE i hi).1).mpr e))
      · exact h _ (List.mem_map.mpr ⟨_, m2, rfl⟩) (decide_eq_true ((memS _ (okE i hi).2).mpr e))
    · intro h x hx e
      obtain ⟨z, hz, rfl⟩ := List.mem_map.mp hx
      have e' := of_decide_eq_true (show decide (z ∈ natI (slp c r f)) = true from e)
      obtain ⟨i, hi, hz⟩ := List.mem_flatMap.mp hz
      simp only [List.mem_cons, List.not_mem_nil, or_false] at hz
      rcases hz with rfl | rfl
      · exact (h i hi).1 ((memS _ (okE i hi).1).mp e')
      · exact (h i hi).2 ((memS _ (okE i hi).2).mp e')

end
end XL
namespace XL
open PySem PySem.Spec PyProof.Rows L2
/-! ### sums -/
theorem perm_sum {a b : List Int} (h : a.Perm b) : a.sum = b.sum := by
  induction h with
  | nil => rfl
  | cons x _ ih => rw [List.sum_cons, List.sum_cons, ih]
  | swap x y l => simp only [List.sum_cons]; omega
  | trans _ _ h1 h2 => rw [h1, h2]
theorem sum_erase {L : List Nat} {i : Nat} (h : i ∈ L) (g : Nat → Int) : (L.map g).sum = g i + ((L.erase i).map g).sum := by
  rw [perm_sum ((List.perm_cons_erase h).map g), List.map_cons, List.sum_cons]
theorem nodup_sum {L M : List Nat} (a : L.Nodup) (b : M.Nodup) (h : ∀ i, i ∈ L ↔ i ∈ M) (g : Nat → Int) : (L.map g).sum = (M.map g).sum := perm_sum (((List.perm_ext_iff_of_nodup a b).mpr h).map g)
theorem sum_swap {α : Type} (zs : List α) (g : α → Nat → Int) : ∀ L : List Nat, (zs.map fun x => (L.map (g x)).sum).sum = (L.map fun i => (zs.map fun x => g x i).sum).sum
  | [] => by
    simp only [List.map_nil, List.sum_nil]
    induction zs with
    | nil => rfl
    | cons z zs ih => rw [List.map_cons, List.sum_cons, ih]; rfl
  | i :: L => by
    have ih := sum_swap zs g L
    rw [List.map_cons, List.sum_cons, ← ih]
    clear ih
    induction zs with
    | nil => rfl
    | cons z zs ih =>
      simp only [List.map_cons, List.sum_cons] at ih ⊢
      omega
theorem sum_sub {α : Type} (zs : List α) (a b : α → Int) : (zs.map fun x => a x - b x).sum = (zs.map a).sum - (zs.map b).sum := by
  induction zs with
  | nil => rfl
  | cons z zs ih => simp only [List.map_cons, List.sum_cons]; omega
theorem sum_pick {e : Int} : ∀ {zs : List Nat}, zs.Nodup → (zs.map fun x : Nat => if (x : Int) = e then (1 : Int) else 0).sum = if ∃ x ∈ zs, (x : Int) = e then 1 else 0
  | [], _ => by rw [if_neg (by rintro ⟨x, h, _⟩; cases h)]; rfl
  | z :: zs, h => by
    rw [List.nodup_cons] at h
    have ih := sum_pick (e := e) h.2
    rw [List.map_cons, List.sum_cons, ih]
    by_cases q : (z : Int) = e
    · rw [if_pos q, if_neg (fun ⟨x, hx, ex⟩ => h.1 (by rw [show z = x by omega]; exact hx)), if_pos ⟨z, List.mem_cons_self .., q⟩]; rfl
    · rw [if_neg q]
      by_cases q2 : ∃ x ∈ zs, (x : Int) = e
      · rw [if_pos q2, if_pos (by obtain ⟨x, hx, ex⟩ := q2; exact ⟨x, List.mem_cons_of_mem _ hx, ex⟩)]; rfl
      · rw [if_neg q2, if_neg (by
          rintro ⟨x, hx, ex⟩
          rcases List.mem_cons.mp hx with rfl | hx
          · exact q ex
          · exact q2 ⟨x, hx, ex⟩)]; rfl
theorem sum_nn {α : Type} {g : α → Int} : ∀ {zs : List α}, (∀ x ∈ zs, 0 ≤ g x) → 0 ≤ (zs.map g).sum
  | [], _ => by simp
  | z :: zs, h => by
    have := sum_nn fun x hx => h x (List.mem_cons_of_mem _ hx)
    have := h z (List.mem_cons_self ..)
    rw [List.map_cons, List.sum_cons]; omega
theorem sum_nn0 {α : Type} {g : α → Int} : ∀ {zs : List α}, (∀ x ∈ zs, 0 ≤ g x) → (zs.map g).sum ≤ 0 → ∀ x ∈ zs, g x = 0
  | z :: zs, h, hs, x, hx => by
    have h1 := sum_nn fun x hx => h x (List.mem_cons_of_mem _ hx)
    have h2 := h z (List.mem_cons_self ..)
    rw [List.map_cons, List.sum_cons] at hs
    rcases List.mem_cons.mp hx with rfl | hx
    · omega
    · exact sum_nn0 (fun x hx => h x (List.mem_cons_of_mem _ hx)) (by omega) x hx
def lsum (c : Cn) (s : Sn) (r : Bool) (x : Int) (L : List Nat) : Int := (L.map (dj c s r x)).sum
section
variable {c : Cn} {W U : Nat} {r : Bool}
theorem lsum_same {s s' : Sn} {x : Int} {L : List Nat} (h : ∀ i ∈ L, fromTo c s' i r = fromTo c s i r) : lsum c s' r x L = lsum c s r x L := by
  unfold lsum
  congr 1
  refine List.map_congr_left fun i hi => ?_
  unfold dj
  rw [h i hi]
/-! ### paths -/
def path (c : Cn) (r : Bool) : Sn → List Nat → Int → Int → Prop
  | _, [], p, q => p = q
  | s, k :: ks, p, q => k < c.ls.length ∧ (fromTo c s k r).1 = p ∧ path c r (goneS c s k r) ks (fromTo c s k r).2 q
theorem gone_len (s : Sn) (i : Nat) : (goneS c s i r).ls.length = s.ls.length := by rw [goneS_ls]; unfold flip1; rw [List.length_set]
theorem path_ls : ∀ (ks : List Nat) (s s' : Sn) (p q : Int), s.ls.length = c.ls.length → s'.ls.length = c.ls.length → (∀ i ∈ ks, gt s'.ls (i : Int) = gt s.ls (i : Int)) → path c r s ks p q → path c r s' ks p q
  | [], s, s', p, q, _, _, _, h => h
  | k :: ks, s, s', p, q, l1, l2, he, h => by
    obtain ⟨hk, h1, h2⟩ := h
    have e : fromTo c s' k r = fromTo c s k r := fromTo_ls (he k (List.mem_cons_self ..))
    refine ⟨hk, by rw [e]; exact h1, ?_⟩
    rw [e]
    refine path_ls ks _ _ _ _ (by rw [gone_len]; exact l1) (by rw [gone_len]; exact l2) (fun i hi => ?_) h2
    by_cases q : k = i
    · subst q
      rw [goneS_ls, goneS_ls, flip_gt (by rw [l2]; exact hk), flip_gt (by rw [l1]; exact hk), he k (List.mem_cons_self ..)]
    · rw [gone_ls_ne q, gone_ls_ne q, he i (List.mem_cons_of_mem _ hi)]
theorem boats_nn {s : Sn} {B : Int} (ok : okSn c B s) {j : Int} (hj : inB r c j) : 0 ≤ gt (boatsW r s) j := by
  have hm := gt_mem (zs := boatsW r s) (j := j) hj.1 (by rw [boats_len ok r]; exact hj.2)
  cases r with
  | true => exact (ok.r0 _ hm).1
  | false => exact (ok.b0 _ hm).1
theorem path_run (okc : okCn W U c) : ∀ (ks : List Nat) (s : Sn) (B : Int) (p q : Int), okSn c B s → path c r s ks p q → gt (boatsW r s) p > 0 → okRun c s (rowOf r ks)
  | [], s, B, p, q, _, _, _ => trivial
  | k :: ks, s, B, p, q, ok, h, hb => by
    obtain ⟨hk, h1, h2⟩ := h
    have hB : hasB c s k r = true := decide_eq_true (by rw [h1]; exact hb)
    have fo := fromTo_ok okc (s := s) hk r
    have nn := boats_nn (r := r) ok fo.2
    refine ⟨⟨hk, hB⟩, path_run okc ks _ _ _ _ (goneS_ok okc ok hk r hB) h2 ?_⟩
    show gt (boatsW r (goneS c s k r)) (fromTo c s k r).2 > 0
    rw [gt_gone okc ok hk fo.2.1, if_pos rfl]
    by_cases e : (fromTo c s k r).2 = (fromTo c s k r).1
    · rw [if_pos e, e, h1]; omega
    · rw [if_neg e]; omega
theorem path_net (okc : okCn W U c) : ∀ (ks : List Nat) (s : Sn) (B : Int) (p q : Int), okSn c B s → path c r s ks p q → okRun c s (rowOf r ks) → ∀ x : Int, 0 ≤ x → gt (boatsW r (runS c s (rowOf r ks))) x = gt (boatsW r s) x - (if x = p then 1 else 0) + (if x = q then 1 else 0)
  | [], s, B, p, q, _, h, _, x, hx => by
    obtain rfl : p = q := h
    show gt (boatsW r s) x = _
    omega
  | k :: ks, s, B, p, q, ok, h, hr, x, hx => by
    obtain ⟨hk, h1, h2⟩ := h
    have := path_net okc ks _ _ _ _ (goneS_ok okc ok hk r hr.1.2) h2 hr.2 x hx
    show gt (boatsW r (runS c (goneS c s k r) (rowOf r ks))) x = _
    rw [this, gt_gone okc ok hk hx, h1]
    omega
theorem path_app : ∀ {ks ls : List Nat} {s : Sn} {p m q : Int}, path c r s ks p m → path c r (runS c s (rowOf r ks)) ls m q → path c r s (ks ++ ls) p q
  | [], ls, s, p, m, q, h1, h2 => by
    obtain rfl : p = m := h1
    exact h2
  | k :: ks, ls, s, p, m, q, h1, h2 => ⟨h1.1, h1.2.1, path_app (ks := ks) h1.2.2 h2⟩
theorem path_rev (okc : okCn W U c) : ∀ (ks : List Nat) (s : Sn) (B : Int) (p q : Int), okSn c B s → path c r s ks p q → okRun c s (rowOf r ks) → path c r (runS c s (rowOf r ks)) ks.reverse q p
  | [], s, B, p, q, _, h, _ => (show p = q from h).symm
  | k :: ks, s, B, p, q, ok, h, hr => by
    obtain ⟨hk, h1, h2⟩ := h
    have ok1 := goneS_ok okc ok hk r hr.1.2
    have ih := path_rev okc ks _ _ _ _ ok1 h2 hr.2
    rw [List.reverse_cons]
    refine path_app (m := (fromTo c s k r).2) ih ?_
    have eb : runS c (runS c (goneS c s k r) (rowOf r ks)) (rowOf r ks.reverse) = goneS c s k r := by
      have := (run_back okc ok1 hr.2).2
      rw [show rowOf r ks.reverse = (rowOf r ks).reverse by unfold rowOf; rw [List.map_reverse]]
      exact this
    show path c r (runS c (runS c (goneS c s k r) (rowOf r ks)) (rowOf r ks.reverse)) [k] _ p
    rw [eb]
    have fb := fromTo_back ok hk r
    exact ⟨hk, by rw [fb], by rw [fb]; exact h1⟩
theorem run_ls : ∀ (ks : List Nat) (s : Sn), s.ls.length = c.ls.length → ks.Nodup → (∀ i ∈ ks, i < c.ls.length) → ∀ i : Nat, gt (runS c s (rowOf r ks)).ls (i : Int) = if i ∈ ks then 1 - gt s.ls (i : Int) else gt s.ls (i : Int)
  | [], s, _, _, _, i => by rw [if_neg (by simp)]; rfl
  | k :: ks, s, hl, nd, hlt, i => by
    rw [List.nodup_cons] at nd
    have ih := run_ls ks (goneS c s k r) (by rw [gone_len]; exact hl) nd.2 (fun i hi => hlt i (List.mem_cons_of_mem _ hi)) i
    show gt (runS c (goneS c s k r) (rowOf r ks)).ls (i : Int) = _
    rw [ih]
    by_cases e : i = k
    · subst e
      rw [if_neg nd.1, if_pos (List.mem_cons_self ..), goneS_ls, flip_gt (by rw [hl]; exact hlt i (List.mem_cons_self ..))]
    · rw [gone_ls_ne (fun z => e z.symm)]
      by_cases m : i ∈ ks
      · rw [if_pos m, if_pos (List.mem_cons_of_mem _ m)]
      · rw [if_neg m, if_neg (by simp [e, m])]
theorem Rd.path {s : Sn} {f : Rf} {B : Int} (okc : okCn W U c) (ok : okSn c B s) (h : Rd c s r f) : ∀ (n : Nat) (j : Int) (ks : List Nat), ks.length = n → f j = some ks → ks.Nodup ∧ (∀ i ∈ ks, i < c.ls.length) ∧ ∃ p, inB r c p ∧ gt (boatsW r s) p > 0 ∧ XL.path c r s ks p j
  | 0, j, ks, hl, e => by
    rw [List.length_eq_zero_iff.mp hl] at e ⊢
    obtain ⟨h1, h2⟩ := (h.z j).mp e
    exact ⟨List.nodup_nil, (fun i hi => by cases hi), j, h1, h2, rfl⟩
  | n + 1, j, ks, hl, e => by
    obtain ⟨ys, i, rfl, hy⟩ := snoc_of hl
    obtain ⟨hi, hj, hs⟩ := h.st j ys i e
    obtain ⟨nd, hlt, p, hp1, hp2, hp⟩ := Rd.path okc ok h n _ ys hy hs
    have ni : i ∉ ys := fun q => by
      obtain ⟨ks', a, b⟩ := h.mem n _ ys hy hs i q
      rw [hs] at a
      have := congrArg List.length (Option.some.inj a)
      omega
    refine ⟨List.nodup_append.mpr ⟨nd, by simp, fun a ha b hb e => ni (by rw [← List.mem_singleton.mp hb, ← e]; exact ha)⟩, fun x hx => ?_, p, hp1, hp2, path_app hp ?_⟩
    · rcases List.mem_append.mp hx with q | q
      · exact hlt x q
      · rw [List.mem_singleton.mp q]; exact hi
    · have e2 : fromTo c (runS c s (rowOf r ys)) i r = fromTo c s i r := fromTo_ls (by rw [run_ls ys s ok.n nd hlt, if_neg ni])
      exact ⟨hi, by rw [e2], by rw [e2]; exact hj⟩
/-! ### what stands while a row is sought -/
/-- one boat goes round among empty basins, with a road behind it -/
structure Circ (c : Cn) (r : Bool) (now : Sn) (left ks : List Nat) (Z : Int → Prop) (p p0 pos : Int) : Prop where
  pt : path c r now ks.reverse p p0
  en : ∀ i ∈ left, Z (fromTo c now i r).1 ∧ Z (fromTo c now i r).2
  ps : Z pos ∧ inB r c pos
  bo : ∀ x, inB r c x → Z x → gt (boatsW r now) x = if x = pos then 1 else 0
  ba : ∀ x, inB r c x → Z x → gt (boatsW r now) x - (if x = p then 1 else 0) + lsum c now r x left = 0
structure RA (c : Cn) (r : Bool) (other now : Sn) (left ks : List Nat) : Prop where
  ok : ∃ B, okSn c B now
  nd : left.Nodup
  kd : ks.Nodup
  di : ∀ i ∈ left, i ∉ ks
  lt : ∀ i ∈ left, i < c.ls.length
  kl : ∀ i ∈ ks, i < c.ls.length
  un : ∀ i : Nat, i < c.ls.length → (gt now.ls (i : Int) ≠ gt other.ls (i : Int) ↔ i ∈ left ∨ i ∈ ks)
  bl : ∀ x, inB r c x → gt (boatsW r now) x = gt (boatsW r other) x + bsum c other now r x c.ls.length
  ci : ks ≠ [] → ∃ Z p p0 pos, Circ c r now left ks Z p p0 pos
theorem RA.bin {other now : Sn} {B : Int} (h : okSn c B now) {i : Nat} (hi : i < c.ls.length) : gt now.ls (i : Int) = 0 ∨ gt now.ls (i : Int) = 1 := h.l0 _ (gt_mem (zs := now.ls) (j := (i : Int)) (by omega) (by rw [h.n]; omega))
theorem RA.go {other now : Sn} {left ks : List Nat} {B2 : Int} (okc : okCn W U c) (ok2 : okSn c B2 other) (R : RA c r other now left ks) {l : Nat} (hl : l ∈ left) (hb : hasB c now l r = true) : RA c r other (goneS c now l r) (left.erase l) ks := by
  obtain ⟨B, ok⟩ := R.ok
  have hlt := R.lt l hl
  have nk : l ∉ ks := R.di l hl
  have ne : ∀ i ∈ left.erase l, l ≠ i := fun i hi e => by
    rw [← e] at hi
    exact R.nd.not_mem_erase hi
  have me : ∀ i, i ∈ left.erase l ↔ i ≠ l ∧ i ∈ left := fun i => R.nd.mem_erase_iff
  have ft : ∀ i, l ≠ i → fromTo c (goneS c now l r) i r = fromTo c now i r := fun i e => fromTo_ls (gone_ls_ne e)
  refine ⟨⟨_, goneS_ok okc ok hlt r hb⟩, R.nd.erase l, R.kd, fun i hi => R.di i ((me i).mp hi).2, fun i hi => R.lt i ((me i).mp hi).2, R.kl, fun i hi => ?_, fun x hx => ?_, fun hk => ?_⟩
  · by_cases e : l = i
    · subst e
      have a := (R.un l hi).mpr (.inl hl)
      have b1 := RA.bin (other := other) ok hi
      have b2 := RA.bin (other := other) ok2 hi
      rw [goneS_ls, flip_gt (by rw [ok.n]; exact hi)]
      constructor
      · intro h; rcases b1 with b1 | b1 <;> rcases b2 with b2 | b2 <;> omega
      · intro h
        rcases h with h | h
        · exact absurd rfl (ne l h)
        · exact absurd h nk
    · rw [gone_ls_ne e, R.un i hi, me]
      constructor
      · rintro (h | h)
        · exact .inl ⟨fun z => e z.symm, h⟩
        · exact .inr h
      · rintro (h | h)
        · exact .inl h.2
        · exact .inr h
  · have := run_sum okc ok2 hx.1 [(l, r)] now B ok ⟨⟨hlt, hb⟩, trivial⟩ (fun m hm => by rw [List.mem_singleton.mp hm]) (R.bl x hx)
    exact this
  · obtain ⟨Z, p, p0, pos, C⟩ := R.ci hk
    obtain ⟨z1, z2⟩ := C.en l hl
    have fo := fromTo_ok okc (s := now) hlt r
    have hp : gt (boatsW r now) (fromTo c now l r).1 > 0 := of_decide_eq_true hb
    have es : (fromTo c now l r).1 = pos := by
      have := C.bo _ fo.1 z1
      by_cases e : (fromTo c now l r).1 = pos
      · exact e
      · rw [if_neg e] at this; omega
    refine ⟨Z, p, p0, (fromTo c now l r).2, path_ls _ _ _ _ _ ok.n (by rw [gone_len]; exact ok.n) (fun i hi => gone_ls_ne fun z => nk (by rw [z]; exact List.mem_reverse.mp hi)) C.pt, fun i hi => ?_, ⟨z2, fo.2⟩, fun x hx hz => ?_, fun x hx hz => ?_⟩
    · rw [ft i (ne i hi)]
      exact C.en i ((me i).mp hi).2
    · rw [gt_gone okc ok hlt hx.1, C.bo x hx hz, es]
      by_cases q : x = pos <;> by_cases q2 : x = (fromTo c now l r).2 <;> simp [q, q2] <;> omega
    · have a := C.ba x hx hz
      have b : lsum c now r x left = dj c now r x l + lsum c now r x (left.erase l) := sum_erase hl _
      have d : lsum c (goneS c now l r) r x (left.erase l) = lsum c now r x (left.erase l) := lsum_same fun i hi => ft i (ne i hi)
      rw [gt_gone okc ok hlt hx.1, d]
      unfold dj at b
      omega
theorem RA.back {other now : Sn} {left ks : List Nat} {B2 : Int} (okc : okCn W U c) (ok2 : okSn c B2 other) (R : RA c r other now left ks) (hn : ∀ i ∈ left, hasB c now i r = false) : okRun c now (rowOf r ks.reverse) ∧ RA c r other (runS c now (rowOf r ks.reverse)) left [] := by
  obtain ⟨B, ok⟩ := R.ok
  have kr : ∀ i, i ∈ ks.reverse ↔ i ∈ ks := fun i => List.mem_reverse
  have okr : okRun c now (rowOf r ks.reverse) := by
    by_cases e : ks = []
    · rw [e]; exact trivial
    · obtain ⟨Z, p, p0, pos, C⟩ := R.ci e
      refine path_run okc _ _ B _ _ ok C.pt ?_
      have a := C.ba pos C.ps.2 C.ps.1
      have b := C.bo pos C.ps.2 C.ps.1
      rw [if_pos rfl] at b
      have nn : 0 ≤ lsum c now r pos left := by
        refine sum_nn fun i hi => ?_
        have hf : ¬ gt (boatsW r now) (fromTo c now i r).1 > 0 := fun z => by
          have := hn i hi
          unfold hasB at this
          rw [decide_eq_true z] at this; cases this
        have : pos ≠ (fromTo c now i r).1 := fun z => hf (by rw [← z]; omega)
        unfold dj
        rw [if_neg this]
        split <;> omega
      have e : pos = p := by
        by_cases q : pos = p
        · exact q
        · rw [if_neg q] at a; omega
      rw [← e]; omega
  have krd : ks.reverse.Nodup := (List.reverse_perm ks).nodup_iff.mpr R.kd
  have krl : ∀ i ∈ ks.reverse, i < c.ls.length := fun i hi => R.kl i ((kr i).mp hi)
  refine ⟨okr, ⟨_, runS_ok okc ok okr⟩, R.nd, List.nodup_nil, fun i _ => by simp, R.lt, (fun i hi => by cases hi), fun i hi => ?_, fun x hx => ?_, fun h => absurd rfl h⟩
  · rw [run_ls _ _ ok.n krd krl]
    have u := R.un i hi
    have b1 := RA.bin (other := other) ok hi
    have b2 := RA.bin (other := other) ok2 hi
    by_cases m : i ∈ ks
    · rw [if_pos ((kr i).mpr m)]
      have a := u.mpr (.inr m)
      constructor
      · intro h; rcases b1 with b1 | b1 <;> rcases b2 with b2 | b2 <;> omega
      · rintro (h | h)
        · exact absurd m (R.di i h)
        · cases h
    · rw [if_neg (fun z => m ((kr i).mp z)), u]
      constructor
      · rintro (h | h)
        · exact .inl h
        · exact absurd h m
      · rintro (h | h)
        · exact .inl h
        · cases h
  · exact run_sum okc ok2 hx.1 _ now B ok okr (fun m hm => by obtain ⟨i, _, rfl⟩ := List.mem_map.mp hm; rfl) (R.bl x hx)
theorem RA.sum {other now : Sn} {left : List Nat} {B2 : Int} (ok2 : okSn c B2 other) (R : RA c r other now left []) {x : Int} (hx : inB r c x) : gt (boatsW r other) x = gt (boatsW r now) x + lsum c now r x left := by
  obtain ⟨B, ok⟩ := R.ok
  have e : bsum c other now r x c.ls.length = - lsum c now r x left := by
    unfold bsum lsum
    have nd : (ul other now c.ls.length).Nodup := List.Nodup.sublist List.filter_sublist List.nodup_range
    have me : ∀ i, i ∈ ul other now c.ls.length ↔ i ∈ left := fun i => by
      constructor
      · intro h
        obtain ⟨h1, h2⟩ := ul_lt h
        rcases (R.un i h1).mp (fun z => h2 z.symm) with q | q
        · exact q
        · cases q
      · intro h
        have h1 := R.lt i h
        exact List.mem_filter.mpr ⟨List.mem_range.mpr h1, decide_eq_true fun z => (R.un i h1).mpr (.inl h) z.symm⟩
    rw [nodup_sum nd R.nd me]
    have : ∀ i ∈ left, dj c other r x i = - dj c now r x i := fun i hi => by
      rw [dj_turn ok ok2 (R.lt i hi) (r := r) (j := x), if_neg ((R.un i (R.lt i hi)).mpr (.inl hi))]
    clear nd me
    generalize left = L at this
    induction L with
    | nil => rfl
    | cons i L ih =>
      rw [List.map_cons, List.sum_cons, List.map_cons, List.sum_cons, ih fun j hj => this j (List.mem_cons_of_mem _ hj), this i (List.mem_cons_self ..)]
      omega
  have := R.bl x hx
  omega
/-- no lock of those left is ready: all their ends are empty, at last too -/
theorem RA.stuck {other now : Sn} {left : List Nat} {B2 : Int} (okc : okCn W U c) (ok2 : okSn c B2 other) (R : RA c r other now left []) (hn : ∀ i ∈ left, hasB c now i r = false) : (∀ i ∈ left, gt (boatsW r now) (fromTo c now i r).1 = 0 ∧ gt (boatsW r now) (fromTo c now i r).2 = 0) ∧ ∀ x, inB r c x → gt (boatsW r now) x = 0 → gt (boatsW r other) x = 0 := by
  obtain ⟨B, ok⟩ := R.ok
  obtain ⟨nb, enb⟩ : ∃ nb : Nat, basW r c = (nb : Int) := ⟨(basW r c).toNat, by have := boats_len ok r; omega⟩
  have z1 : ∀ i ∈ left, gt (boatsW r now) (fromTo c now i r).1 = 0 := fun i hi => by
    have := boats_nn (r := r) ok (fromTo_ok okc (s := now) (R.lt i hi) r).1
    have h := hn i hi
    unfold hasB at h
    have := of_decide_eq_false h
    omega
  generalize hzs : (List.range nb).filter (fun j : Nat => decide (gt (boatsW r now) (j : Int) = 0)) = zs
  have nd : zs.Nodup := by rw [← hzs]; exact List.Nodup.sublist List.filter_sublist List.nodup_range
  have mz : ∀ x : Nat, x ∈ zs ↔ x < nb ∧ gt (boatsW r now) (x : Int) = 0 := fun x => by
    rw [← hzs, List.mem_filter, List.mem_range]
    constructor
    · exact fun h => ⟨h.1, of_decide_eq_true h.2⟩
    · exact fun h => ⟨h.1, decide_eq_true h.2⟩
  have ib : ∀ x ∈ zs, inB r c (x : Int) := fun x hx => ⟨by omega, by rw [enb]; have := ((mz x).mp hx).1; omega⟩
  have hz : ∀ e : Int, inB r c e → ((∃ x ∈ zs, (x : Int) = e) ↔ gt (boatsW r now) e = 0) := fun e he => by
    constructor
    · rintro ⟨x, hx, rfl⟩; exact ((mz x).mp hx).2
    · intro h
      refine ⟨e.toNat, (mz _).mpr ⟨by have := he.1; have := he.2; omega, ?_⟩, by have := he.1; omega⟩
      rw [show ((e.toNat : Nat) : Int) = e by have := he.1; omega]; exact h
  have s1 : (zs.map fun x : Nat => gt (boatsW r other) (x : Int)).sum = (zs.map fun x : Nat => lsum c now r (x : Int) left).sum := by
    congr 1
    refine List.map_congr_left fun x hx => ?_
    rw [R.sum ok2 (ib x hx), ((mz x).mp hx).2]; omega
  have s2 : (zs.map fun x : Nat => lsum c now r (x : Int) left).sum = (left.map fun i => (zs.map fun x : Nat => dj c now r (x : Int) i).sum).sum := sum_swap zs (fun (x : Nat) i => dj c now r (x : Int) i) left
  have s3 : ∀ i ∈ left, (zs.map fun x : Nat => dj c now r (x : Int) i).sum = (if gt (boatsW r now) (fromTo c now i r).2 = 0 then 1 else 0) - 1 := fun i hi => by
    have fo := fromTo_ok okc (s := now) (R.lt i hi) r
    unfold dj
    rw [sum_sub, sum_pick nd, sum_pick nd]
    have a : (∃ x ∈ zs, (x : Int) = (fromTo c now i r).1) := (hz _ fo.1).mpr (z1 i hi)
    rw [if_pos a]
    by_cases q : gt (boatsW r now) (fromTo c now i r).2 = 0
    · rw [if_pos q, if_pos ((hz _ fo.2).mpr q)]
    · rw [if_neg q, if_neg (fun z => q ((hz _ fo.2).mp z))]
  have s4 : (left.map fun i => (zs.map fun x : Nat => dj c now r (x : Int) i).sum).sum = (left.map fun i => (if gt (boatsW r now) (fromTo c now i r).2 = 0 then (1 : Int) else 0) - 1).sum := by
    congr 1
    exact List.map_congr_left s3
  have nnO : ∀ x ∈ zs, 0 ≤ gt (boatsW r other) (x : Int) := fun x hx => boats_nn (r := r) ok2 (ib x hx)
  have t1 := sum_nn (g := fun x : Nat => gt (boatsW r other) (x : Int)) nnO
  have neg : (left.map fun i => 1 - (if gt (boatsW r now) (fromTo c now i r).2 = 0 then (1 : Int) else 0)).sum = - (left.map fun i => (if gt (boatsW r now) (fromTo c now i r).2 = 0 then (1 : Int) else 0) - 1).sum := by
    generalize left = L
    induction L with
    | nil => rfl
    | cons i L ih => rw [List.map_cons, List.sum_cons, List.map_cons, List.sum_cons, ih]; omega
  have nnL : ∀ i ∈ left, 0 ≤ 1 - (if gt (boatsW r now) (fromTo c now i r).2 = 0 then (1 : Int) else 0) := fun i _ => by split <;> omega
  have t2 := sum_nn nnL
  refine ⟨fun i hi => ⟨z1 i hi, ?_⟩, fun x hx h0 => ?_⟩
  · have := sum_nn0 nnL (by omega) i hi
    by_cases q : gt (boatsW r now) (fromTo c now i r).2 = 0
    · exact q
    · rw [if_neg q] at this; omega
  · obtain ⟨y, hy, rfl⟩ := (hz x hx).mpr h0
    exact sum_nn0 nnO (by omega) y hy
theorem RA.out {other now : Sn} {left : List Nat} {B2 : Int} {f : Rf} (okc : okCn W U c) (ok2 : okSn c B2 other) (R : RA c r other now left []) (hn : ∀ i ∈ left, hasB c now i r = false) (rd : Rd c now r f) {l : Nat} {ks : List Nat} (hl : l ∈ left) (hk : f (fromTo c now l r).1 = some ks) (hm : ∀ i ∈ left, ∀ ks', f (fromTo c now i r).1 = some ks' → ks.length ≤ ks'.length) :
    ks ≠ [] ∧ okRun c now (rowOf r ks) ∧ RA c r other (runS c now (rowOf r ks)) left ks ∧ hasB c (runS c now (rowOf r ks)) l r = true := by
  obtain ⟨B, ok⟩ := R.ok
  obtain ⟨st1, st2⟩ := R.stuck okc ok2 hn
  obtain ⟨nd, kl, p0, hp0, hpb, pth⟩ := rd.path okc ok ks.length _ ks rfl hk
  have okr := path_run okc ks now B _ _ ok pth hpb
  have di : ∀ i ∈ left, i ∉ ks := fun i hi hm' => by
    obtain ⟨ks', a, b⟩ := rd.mem ks.length _ ks rfl hk i hm'
    have := hm i hi ks' a
    omega
  have ft : ∀ i ∈ left, fromTo c (runS c now (rowOf r ks)) i r = fromTo c now i r := fun i hi => fromTo_ls (by rw [run_ls ks now ok.n nd kl, if_neg (di i hi)])
  have fo := fromTo_ok okc (s := now) (R.lt l hl) r
  have pl0 := (st1 l hl).1
  have net := path_net okc ks now B _ _ ok pth okr
  have pne : p0 ≠ (fromTo c now l r).1 := fun z => by rw [z] at hpb; omega
  refine ⟨fun e => ?_, okr, ⟨⟨_, runS_ok okc ok okr⟩, R.nd, nd, di, R.lt, kl, fun i hi => ?_, fun x hx => ?_, fun _ => ?_⟩, ?_⟩
  · rw [e] at pth
    exact pne pth
  · rw [run_ls ks now ok.n nd kl]
    have u := R.un i hi
    have b1 := RA.bin (other := other) ok hi
    have b2 := RA.bin (other := other) ok2 hi
    by_cases m : i ∈ ks
    · rw [if_pos m]
      have nl : i ∉ left := fun z => di i z m
      have a : ¬ (gt now.ls (i : Int) ≠ gt other.ls (i : Int)) := fun z => by
        rcases u.mp z with q | q
        · exact nl q
        · cases q
      constructor
      · intro _; exact .inr m
      · intro _; rcases b1 with b1 | b1 <;> rcases b2 with b2 | b2 <;> omega
    · rw [if_neg m, u]
      constructor
      · rintro (h | h)
        · exact .inl h
        · cases h
      · rintro (h | h)
        · exact .inl h
        · exact absurd h m
  · exact run_sum okc ok2 hx.1 _ now B ok okr (fun m hm => by obtain ⟨i, _, rfl⟩ := List.mem_map.mp hm; rfl) (R.bl x hx)
  · refine ⟨fun x => gt (boatsW r now) x = 0, (fromTo c now l r).1, p0, (fromTo c now l r).1, path_rev okc ks now B _ _ ok pth okr, fun i hi => ?_, ⟨pl0, fo.1⟩, fun x hx hz => ?_, fun x hx hz => ?_⟩
    · rw [ft i hi]; exact st1 i hi
    · have hz' : gt (boatsW r now) x = 0 := hz
      rw [net x hx.1, hz', if_neg (fun z => by rw [z] at hz'; omega)]; omega
    · have hz' : gt (boatsW r now) x = 0 := hz
      have := R.sum ok2 hx
      rw [st2 x hx hz', hz'] at this
      rw [lsum_same ft, net x hx.1, hz', if_neg (fun z => by rw [z] at hz'; omega)]; omega
  · unfold hasB
    rw [ft l hl]
    refine decide_eq_true ?_
    rw [net _ fo.1.1, if_neg (fun z => pne z.symm), if_pos rfl, pl0]; omega
/-- nothing is left, and the road is gone back: the other one -/
theorem RA.end_ {other now : Sn} {ks : List Nat} {B2 : Int} (okc : okCn W U c) (ok2 : okSn c B2 other) (R : RA c r other now [] ks) (al : Alone now r) (al2 : Alone other r) : okRun c now (rowOf r ks.reverse) ∧ runS c now (rowOf r ks.reverse) = other := by
  obtain ⟨okr, R'⟩ := R.back okc ok2 (fun i hi => by cases hi)
  refine ⟨okr, ?_⟩
  have hw : ∀ m ∈ rowOf r ks.reverse, m.2 = r := fun m hm => by obtain ⟨i, _, rfl⟩ := List.mem_map.mp hm; rfl
  have al' : ∀ x ∈ boatsW (!r) (runS c now (rowOf r ks.reverse)), x = 0 := by
    have : ∀ (ms : List Mv) (s : Sn), (∀ m ∈ ms, m.2 = r) → boatsW (!r) (runS c s ms) = boatsW (!r) s := by
      intro ms
      induction ms with
      | nil => intro s _; rfl
      | cons m ms ih =>
        intro s h
        obtain ⟨i, x⟩ := m
        obtain rfl : r = x := (h _ (List.mem_cons_self ..)).symm
        show boatsW (!r) (runS c (goneS c s i r) ms) = _
        rw [ih _ fun m hm => h m (List.mem_cons_of_mem _ hm), boats_other]
    rw [this _ _ hw]; exact al
  generalize runS c now (rowOf r ks.reverse) = fin at R' al'
  obtain ⟨B, ok⟩ := R'.ok
  have els : fin.ls = other.ls := gt_ext (by rw [ok.n, ok2.n]) fun j hj => by
    rw [ok.n] at hj
    by_cases e : gt fin.ls (j : Int) = gt other.ls (j : Int)
    · exact e
    · rcases (R'.un j hj).mp e with q | q <;> cases q
  have e1 : boatsW r fin = boatsW r other := by
    have l1 := boats_len ok r; have l2 := boats_len ok2 r
    refine gt_ext (by omega) fun j hj => ?_
    have := R'.sum ok2 (x := (j : Int)) ⟨by omega, by omega⟩
    rw [this]
    show _ = _ + (0 : Int)
    omega
  have e2 : boatsW (!r) fin = boatsW (!r) other := by
    have l1 := boats_len ok (!r); have l2 := boats_len ok2 (!r)
    refine gt_ext (by omega) fun j hj => ?_
    rw [al' _ (gt_mem (zs := boatsW (!r) fin) (j := (j : Int)) (by omega) (by omega)), al2 _ (gt_mem (zs := boatsW (!r) other) (j := (j : Int)) (by omega) (by omega))]
  cases fin with
  | mk rs bs ls =>
    cases other with
    | mk rs2 bs2 ls2 =>
      cases r with
      | true => exact Sn.mk.injEq .. |>.mpr ⟨e1, e2, els⟩
      | false => exact Sn.mk.injEq .. |>.mpr ⟨e2, e1, els⟩
theorem RA.start {one other : Sn} {B1 B2 : Int} (okc : okCn W U c) (ok1 : okSn c B1 one) (ok2 : okSn c B2 other) (hb : bbL c one other r = boatsW r other) : RA c r other one (ul one other c.ls.length) [] := by
  refine ⟨⟨_, ok1⟩, List.Nodup.sublist List.filter_sublist List.nodup_range, List.nodup_nil, fun i _ => by simp, fun i hi => (ul_lt hi).1, (fun i hi => by cases hi), fun i hi => ?_, fun x hx => ?_, fun h => absurd rfl h⟩
  · constructor
    · intro h; exact .inl (List.mem_filter.mpr ⟨List.mem_range.mpr hi, decide_eq_true h⟩)
    · rintro (h | h)
      · exact (ul_lt h).2
      · cases h
  · have a := (mov_sum (r := r) okc (s := one) (boats_len ok1 r) hx.1 (ul one other c.ls.length) fun i hi => (ul_lt hi).1).2
    have a' : gt (bbL c one other r) x = gt (boatsW r one) x + ((ul one other c.ls.length).map (dj c one r x)).sum := a
    rw [hb] at a'
    have me : ∀ i, i ∈ ul other one c.ls.length ↔ i ∈ ul one other c.ls.length := fun i => by
      unfold ul
      rw [List.mem_filter, List.mem_filter]
      constructor
      · exact fun h => ⟨h.1, decide_eq_true fun z => of_decide_eq_true h.2 z.symm⟩
      · exact fun h => ⟨h.1, decide_eq_true fun z => of_decide_eq_true h.2 z.symm⟩
    have e : bsum c other one r x c.ls.length = - ((ul one other c.ls.length).map (dj c one r x)).sum := by
      unfold bsum
      have nd : ∀ a b : Sn, (ul a b c.ls.length).Nodup := fun a b => List.Nodup.sublist List.filter_sublist List.nodup_range
      rw [nodup_sum (nd _ _) (nd _ _) me]
      have : ∀ i ∈ ul one other c.ls.length, dj c other r x i = - dj c one r x i := fun i hi => by
        rw [dj_turn ok1 ok2 (ul_lt hi).1 (r := r) (j := x), if_neg (ul_lt hi).2]
      generalize ul one other c.ls.length = L at this
      induction L with
      | nil => rfl
      | cons i L ih =>
        rw [List.map_cons, List.sum_cons, List.map_cons, List.sum_cons, ih fun j hj => this j (List.mem_cons_of_mem _ hj), this i (List.mem_cons_self ..)]
        omega
    omega
end
end XL
/-! min(xs, key=len), xs a list of lists -/
namespace PySem
open PySem.Spec PyProof.Rows PyProof.V PySem.W PySem.SeqAt
section
variable {prog : Program} {w : World} {A : Around} {E : Value → Shared → Prop} {s : Shared} {l : Addr} {vs : List Value} {kf : Nat → Nat}
/-- what has stood stands still, the two own ones apart -/
def Stood (g h : Heap) (S I : Addr) : Prop := ∀ b o, b ≠ S → b ≠ I → g.get? b = some o → h.get? b = some o
/-- each thing of the list is itself a list, of so many things -/
def LensAt (g : Heap) (vs : List Value) (kf : Nat → Nat) : Prop := ∀ i v, vs[i]? = some v → ∃ a its, v = .ref a ∧ g.IsList a its ∧ its.size = kf i ∧ kf i < 2 ^ 63
theorem isList_stood {g h : Heap} {S I a : Addr} {its : Array Value} (st : Stood g h S I) (nS : S ≥ g.objs.size) (nI : I ≥ g.objs.size) (x : g.IsList a its) : h.IsList a its := by
  obtain ⟨o, e, r⟩ := x
  have := Heap.lt_size e
  exact ⟨o, st a o (fun z => Nat.lt_irrefl _ (Nat.lt_of_lt_of_le this (z ▸ nS))) (fun z => Nat.lt_irrefl _ (Nat.lt_of_lt_of_le this (z ▸ nI))) e, r⟩
theorem len_key {g h : Heap} {S I : Addr} {tk : Nat} {i : Nat} {v : Value} {Q : Value → Shared → Prop} {M : Model} (hM : M = model prog w) (st : Stood g h S I) (nS : S ≥ g.objs.size) (nI : I ≥ g.objs.size) (L : LensAt g vs kf) (hv : vs[i]? = some v)
    (q : Q (.int (kf i : Nat) (tk + 1)) { s with heap := h, toks := tk + 1 + 1 }) : wpAny M A (call (.builtin "len") [v]) Q E { s with heap := h, toks := tk } := by
  subst hM
  obtain ⟨a, its, rfl, hl, hz, hb⟩ := L i v hv
  refine Calls.call_len_list (isList_stood st nS nI hl) (by rw [hz]; omega) ?_
  rw [hz]
  exact q
theorem min_len_loop {g : Heap} {S I : Addr} {R : Result → Shared → Prop} (hh : A.handled = none) (nS : S ≥ g.objs.size) (nI : I ≥ g.objs.size) (hSI : S ≠ I) (hl : g.IsList l vs.toArray) (L : LensAt g vs kf)
    (hR : ∀ i v h' tk', vs[i]? = some v → (∀ j, j < vs.length → kf i ≤ kf j) → Stood g h' S I → R (.ok (.ret v)) { s with heap := h', toks := tk' }) :
    ∀ (r j i : Nat) (h : Heap) (tk : Nat) (vb : Value) (tb : Tok) (c : Nat), vs.length - (j + 1) = r → j + 1 ≤ vs.length → Stood g h S I →
      h.get? S = some (seqObj "list" #[vb, .int (kf i : Nat) tb] c) → h.IsListIter I l (j + 1) → vs[i]? = some vb → (∀ j', j' ≤ j → kf i ≤ kf j') →
      codeAny (model prog w) A (.builtin "min.loop" ⟨[.ref I, .builtin "len", .ref S], []⟩) R { s with heap := h, toks := tk } := by
  have hname : (toString "min" ++ toString ".loop" : String) = "min.loop" := by decide
  have hlI : l ≠ I := fun z => by
    obtain ⟨o, e, _⟩ := hl
    have := Heap.lt_size e
    exact Nat.lt_irrefl _ (Nat.lt_of_lt_of_le this (z ▸ nI))
  have W := Walks.list (prog := prog) (w := w) (A := A.in1) hh I l hlI vs.toArray
  have hsz : vs.toArray.size = vs.length := List.size_toArray ..
  intro r
  induction r with
  | zero =>
    intro j i h tk vb tb c hr hj st hS hit hvb hbest
    have hin : j + 1 = vs.length := by omega
    refine codeAny_builtin PySem.F.entry_min_loop ?_
    rw [Around.under_plainId PySem.F.plain_min_loop _]
    refine wpAny_bind (wpAny_seqItems hS rfl ?_)
    refine wpAny_bind (wpAny_tryCatch (W.done _ _ _ ⟨by rw [hsz, ← hin]; exact hit, isList_stood st nS nI hl⟩ fun h1 tk1 k1 => ?_))
    have hS1 := k1 S _ (by simpa using hSI) hS
    have up := Heap.SameBut.update h1 S (Obj.mapSeq fun _ => (#[] : Array Value))
    refine wpAny_bind ?_
    refine wpAny_updateSeq hS1 rfl (wpAny_bind (wpAny_letGo (wpAny_pure ?_)))
    refine hR i vb _ _ hvb (fun j' hj' => hbest j' (by omega)) fun b o b1 b2 e => ?_
    rw [up.2 b b1]
    exact k1 b o (by simpa using b2) (st b o b1 b2 e)
  | succ r ih =>
    intro j i h tk vb tb c hr hj st hS hit hvb hbest
    have hlt : j + 1 < vs.length := by omega
    refine codeAny_builtin PySem.F.entry_min_loop ?_
    rw [Around.under_plainId PySem.F.plain_min_loop _]
    refine wpAny_bind (wpAny_seqItems hS rfl ?_)
    refine wpAny_bind (wpAny_tryCatch (W.item (j + 1) _ _ _ (by rw [hsz]; exact hlt) ⟨hit, isList_stood st nS nI hl⟩ fun v h1 tk1 hP hst1 k1 => ?_))
    have hv : vs[j + 1]? = some v := by simpa using hP
    have st1 : Stood g h1 S I := fun b o b1 b2 e => k1 b o (by simpa using b2) (st b o b1 b2 e)
    have hS1 := k1 S _ (by simpa using hSI) hS
    have hit1 := hst1.1
    refine wpAny_bind (wpAny_tryCatch (wpAny_holding (len_key rfl st1 nS nI L hv ?_)))
    refine wpAny_bind (wpAny_tryCatch (wpAny_holding (wpAny_bind (CmpOf.ints_lt (prog := prog) (w := w) (A := A.in1) (P := fun (i : Nat) v => ∃ t, v = .int ((kf i : Nat) : Int) t) (fun i => ((kf i : Nat) : Int)) (fun i v h => h) (j + 1) i _ _ _ _ _ ⟨_, rfl⟩ ⟨tb, rfl⟩ ?_))))
    refine wpAny_bind (wpAny_holding (wpAny_truthy_bool ?_))
    refine wpAny_bind (wpAny_letGo (wpAny_pure ?_))
    by_cases hb' : ((kf (j + 1) : Nat) : Int) < ((kf i : Nat) : Int)
    · have up := Heap.SameBut.update h1 S (Obj.mapSeq fun _ => #[v, .int (kf (j + 1) : Nat) (tk1 + 1)])
      have hc2 := get?_update_seq hS1 fun _ => #[v, .int (kf (j + 1) : Nat) (tk1 + 1)]
      simp only [hb', decide_true, if_true]
      refine wpAny_bind ?_
      refine wpAny_updateSeq hS1 rfl (wpAny_bind (wpAny_letGo ?_))
      rw [hname]
      refine wpAny_pure ⟨plainId_quiet PySem.F.plain_min_loop _, ih (j + 1) (j + 1) _ _ v _ _ (by omega) hlt (fun b o b1 b2 e => by rw [up.2 b b1]; exact st1 b o b1 b2 e) hc2 ?_ hv fun j' hj' => ?_⟩
      · obtain ⟨oI, hoI, r1, r2⟩ := hit1
        exact ⟨oI, (up.2 I hSI.symm).trans hoI, r1, r2⟩
      · by_cases e : j' = j + 1
        · rw [e]; exact Nat.le_refl _
        · have := hbest j' (by omega)
          omega
    · simp only [hb', decide_false, Bool.false_eq_true, if_false]
      refine wpAny_bind (wpAny_letGo ?_)
      rw [hname]
      refine wpAny_pure ⟨plainId_quiet PySem.F.plain_min_loop _, ih (j + 1) i _ _ vb tb c (by omega) hlt st1 hS1 hit1 hvb fun j' hj' => ?_⟩
      by_cases e : j' = j + 1
      · rw [e]; omega
      · exact hbest j' (by omega)
theorem min_len_raw {Q : Value → Shared → Prop} (hh : A.handled = none) (hl : s.heap.IsList l vs.toArray) (L : LensAt s.heap vs kf) (hne : 0 < vs.length)
    (q : ∀ i v h' tk', vs[i]? = some v → (∀ j, j < vs.length → kf i ≤ kf j) → (∀ b o, s.heap.get? b = some o → h'.get? b = some o) → Q v { s with heap := h', toks := tk' }) :
    wpAny (model prog w) A (call (.builtin "min") [.ref l] [(Str.ofString "key", .builtin "len")]) Q E s := by
  have hname : (toString "min" ++ toString ".loop" : String) = "min.loop" := by decide
  refine kmk_tree PySem.F.kind_min PySem.F.plain_min PySem.F.entry_min (kmk_min_key _ _) ?_
  refine wpAny_bind (wpAny_of_eq (show Builtin.Builtins.bindParams "min" ["key", "default"] 0 ⟨[], [(Str.ofString "key", .builtin "len")]⟩ = pure [some (.builtin "len"), none] from rfl) ?_)
  refine wpAny_bind (wpAny_pure ?_)
  refine wpAny_bind (wpAny_pyIter_list hl ?_)
  refine wpAny_bind (wpAny_newList ?_ (Nat.zero_le _))
  rw [hname]
  have gI : ((s.heap.push { cls := .type "list_iterator", data := .fields #[.ref l, .int 0 0] }).push (seqObj "list" #[] 0)).get? s.heap.objs.size = some { cls := .type "list_iterator", data := .fields #[.ref l, .int 0 0] } := Heap.get?_push_of_some _ (Heap.get?_push_size _ rfl)
  generalize hI : ({ cls := .type "list_iterator", data := .fields #[.ref l, .int 0 0] } : Obj) = oI at gI ⊢
  have gS : ((s.heap.push oI).push (seqObj "list" #[] 0)).get? (s.heap.push oI).objs.size = some (seqObj "list" #[] 0) := Heap.get?_push_size _ rfl
  have szI : (s.heap.push oI).objs.size = s.heap.objs.size + 1 := size_push' ..
  have st0 : Stood s.heap ((s.heap.push oI).push (seqObj "list" #[] 0)) (s.heap.push oI).objs.size s.heap.objs.size := fun b o _ _ e => Heap.get?_push_of_some _ (Heap.get?_push_of_some _ e)
  have hit0 : ((s.heap.push oI).push (seqObj "list" #[] 0)).IsListIter s.heap.objs.size l 0 := ⟨oI, gI, by rw [← hI], by rw [← hI]; rfl⟩
  generalize (s.heap.push oI).push (seqObj "list" #[] 0) = h at gS st0 hit0
  generalize (s.heap.push oI).objs.size = S at gS st0 szI
  have nS : S ≥ s.heap.objs.size := by rw [szI]; exact Nat.le_succ _
  have nI : s.heap.objs.size ≥ s.heap.objs.size := Nat.le_refl _
  have hSI : S ≠ s.heap.objs.size := by rw [szI]; exact Nat.succ_ne_self _
  have hlI : l ≠ s.heap.objs.size := fun z => by
    obtain ⟨o, e, _⟩ := hl
    have := Heap.lt_size e
    exact Nat.lt_irrefl _ (z ▸ this)
  refine wpAny_pure ⟨plainId_quiet PySem.F.plain_min_loop _, ?_⟩
  have W := Walks.list (prog := prog) (w := w) (A := A.in1) hh s.heap.objs.size l hlI vs.toArray
  refine codeAny_builtin PySem.F.entry_min_loop ?_
  rw [Around.under_plainId PySem.F.plain_min_loop _]
  refine wpAny_bind (wpAny_seqItems gS rfl ?_)
  refine wpAny_bind (wpAny_tryCatch (W.item 0 _ _ _ (by rw [List.size_toArray]; exact hne) ⟨hit0, isList_stood st0 nS nI hl⟩ fun v h1 tk1 hP hst1 k1 => ?_))
  have hv : vs[0]? = some v := by simpa using hP
  have st1 : Stood s.heap h1 S s.heap.objs.size := fun b o b1 b2 e => k1 b o (by simpa using b2) (st0 b o b1 b2 e)
  have hS1 := k1 S _ (by simpa using hSI) gS
  refine wpAny_bind (wpAny_tryCatch (wpAny_holding (len_key rfl st1 nS nI L hv ?_)))
  have up := Heap.SameBut.update h1 S (Obj.mapSeq fun _ => #[v, .int (kf 0 : Nat) (tk1 + 1)])
  have hc2 := get?_update_seq hS1 fun _ => #[v, .int (kf 0 : Nat) (tk1 + 1)]
  refine wpAny_bind ?_
  refine wpAny_updateSeq hS1 rfl ?_
  rw [hname]
  refine wpAny_pure ⟨plainId_quiet PySem.F.plain_min_loop _, min_len_loop (g := s.heap) hh nS nI hSI hl L (fun i v h' tk' hv hb st => ?_) _ 0 0 _ _ v _ _ rfl hne (fun b o b1 b2 e => by rw [up.2 b b1]; exact st1 b o b1 b2 e) hc2 ?_ hv fun j' hj' => ?_⟩
  · refine q i v h' tk' hv hb fun b o e => ?_
    have := Heap.lt_size e
    exact st b o (fun z => Nat.lt_irrefl _ (Nat.lt_of_lt_of_le this (z ▸ nS))) (fun z => Nat.lt_irrefl _ (z ▸ this)) e
  · obtain ⟨oJ, hoJ, r1, r2⟩ := hst1.1
    exact ⟨oJ, (up.2 _ hSI.symm).trans hoJ, r1, r2⟩
  · obtain rfl : j' = 0 := by omega
    exact Nat.le_refl _
end
end PySem
namespace L2
open PySem PySem.Spec PyProof.Rows PySem.W
theorem vals_from : ∀ {ls : List V} {its : List Value}, Vals ls its → ∀ (i : Nat) (v : Value), its[i]? = some v → ∃ u, ls[i]? = some u ∧ RelV u v
  | _, _, .nil, i, v, e => by simp at e
  | _, _, .cons (a := a) r t, 0, v, e => ⟨a, rfl, by rw [← Option.some.inj e]; exact r⟩
  | _, _, .cons r t, i + 1, v, e => vals_from t i v (by simpa using e)
/-- min(xs, key=len), xs a list of lists -/
def tMinLen (K : PySem.W.Frag) (t : TA) : TE := fun σ H Q => t σ H fun vs H1 => ∃ (a : Addr) (us : List V) (n : Nat → Nat), vs = [.ref a] ∧ SqL K H1 a us ∧ 0 < us.length ∧ (∀ i u, us[i]? = some u → ∃ b xs, u = .ref b ∧ SqL K H1 b xs ∧ xs.length = n i) ∧ ∀ i u, us[i]? = some u → (∀ j, j < us.length → n i ≤ n j) → Q u H1
theorem pe_minLen {X : Cx} {e : Expr} {t : TA} {p p2 kpos pos : Pos} (hc : X.calm = true) (hg : Gl X "min") (hm : X.mg "min" = none) (hg2 : Gl X "len") (hm2 : X.mg "len" = none) (ha : PA X [e] t)
    (hb : backTo pos (starEach [e] X.env) = (false, eval e X.env) :: backTo pos (starEach [] X.env) := by rfl) (hpl : (backTo pos (starEach [e] X.env)).any (·.1) = false := by rfl) :
    PE X (.Call (.Name "min" p) [e] [⟨some "key", .Name "len" p2, kpos⟩] pos) (tMinLen X.K t) := by
  refine ⟨fun pins s σ H Q I h => ?_⟩
  have bmin : bootBuiltins "min" = some (.builtin "min") := by decide +kernel
  have blen : bootBuiltins "len" = some (.builtin "len") := by decide +kernel
  refine wpAny_Call_Name_kw (ld_blt I hg hm bmin ?_)
  refine PyProof.Rows.callWith_kw (thn (ha.run pos pins s σ H _ I h) fun us s1 ⟨vs, H1, I1, r1, q1⟩ => ?_) hb hpl rfl rfl
  obtain ⟨a, ls, n, rfl, hl, hne, hls, q⟩ := q1
  rw [Vals.ref1 r1]
  show wpAny _ _ (evalAll [do let v ← eval (.Name "len" p2) X.env; standAt pos; pure v]) _ _ s1
  refine wpAny_evalAll_cons (wpAny_bind (ld_blt I1 hg2 hm2 blen (wpAny_bind (wpAny_standAt (wpAny_pure (wpAny_evalAll_nil ?_))))))
  obtain ⟨its, rv, pl, hz⟩ := I1.list hl
  have hlen := rv.length
  refine min_len_raw (kf := n) (I1.ok.hd hc) pl.isList (fun i v e => ?_) (by omega) fun i v h2 tk e hb kp => ?_
  · obtain ⟨u, eu, ru⟩ := vals_from rv i v e
    obtain ⟨b, xs, rfl, hxs, hn⟩ := hls i u eu
    obtain ⟨it2, rv2, pl2, hz2⟩ := I1.list hxs
    cases ru
    have := rv2.length
    have h3 := line63
    exact ⟨b, it2.toArray, rfl, pl2.isList, by rw [List.size_toArray]; omega, by omega⟩
  · obtain ⟨u, eu, ru⟩ := vals_from rv i v e
    exact ⟨u, H1, I1.kept kp, ru, q i u eu fun j hj => hb j (by omega)⟩
end L2
namespace XL
open PySem PySem.Spec PyProof.Rows L2
abbrev sFr : Stmt := topS 23
abbrev sNr : Stmt := topS 24
theorem ok100 {c : Cn} (okc : okCn 10 12 c) : okCn 100 100 c := ⟨okc.r1, by have := okc.r2; omega, okc.b1, by have := okc.b2; omega, by have := okc.n; omega, okc.l⟩
theorem natI_at {L : List Nat} {i : Nat} {z : Int} (h : (natI L)[i]? = some z) : ∃ l, L[i]? = some l ∧ z = (l : Int) := by
  unfold natI at h
  rw [List.getElem?_map] at h
  cases q : L[i]? with
  | none => rw [q] at h; cases h
  | some l => rw [q] at h; exact ⟨l, rfl, (Option.some.inj h).symm⟩
section
variable {P : Program} {w : World} {K : PySem.W.Frag} {mg : Str → Option Value} {base : Heap}
/-! ### first_ready -/
abbrev nFr : List Str := ["canal", "standing", "water", "locks", "lock"]
theorem scFr : FnScope nFr ["canal", "standing", "water", "locks"] (defScope sFr) := ⟨rfl, rfl, rfl, by decide +kernel, rfl, by decide +kernel, by decide +kernel⟩
def spFr (K : PySem.W.Frag) : Sp := fun vs H Q _ => ∃ (v u : V) (r : Bool) (A : Addr) (L : List Nat) (c : Cn) (s : Sn) (B : Int), vs = [v, u, .str (wS r), .ref A] ∧ CnAny K H v c ∧ Dp K H u (snD s) ∧ H A = some (.lst ((natI L).map V.int)) ∧ okCn 10 12 c ∧ okSn c B s ∧ (∀ i ∈ L, i < c.ls.length) ∧
  ∀ H' : Hp, Same H H' → ((∀ i ∈ L, hasB c s i r = false) → Q .non H') ∧ ∀ l ∈ L, hasB c s l r = true → Q (.int (l : Nat)) H'
theorem ok_fr {f fh : Addr} {fd fdh : FuncData} {k : Nat} (F : Fun K "first_ready" "first_ready" sFr f fd) (Ha : Fns P w K mg base k "has_boat" ["canal", "standing", "lock", "water"] (spHas K) fh fdh) : FnOk P w K mg base CX0 (k + 1) f fd ["canal", "standing", "water", "locks"] (spFr K) := by
  refine F.ok scFr (fun vs H Q E h => ?_) (fun cdv A outer s H vs Q E hr h => ?_)
  · obtain ⟨v, u, r, A, L, c, s, B, rfl, _⟩ := h
    rfl
  obtain ⟨v, u, r, A, L, c, s, B, rfl, hc, hu, eA, okc, ok, hlt, q⟩ := h
  refine ⟨_, (pss_cons (ps_for PassesOwn.never rfl (pi_seq (pv 3)) (pg_name (i := 4) scFr.nd rfl (.inl rfl))
    (pss_one (ps_if (pt_val (pe_fn Ha hr rfl (pa_cons (pv 0) (pa_cons (pv 1) (pa_cons (pv 4) (pa_cons (pv 2) pa_nil)))))) (pss_one (ps_ret (pv 4))) pss_nil)))
    (pss_one (ps_ret pe_non))), ?_⟩
  refine ⟨_, rfl, A, _, rfl, .inl (SqL.of eA), fun J wk => for_it wk (fun j σ H5 => ∃ y4 : Option V, σ = [some v, some u, some (.str (wS r)), some (.ref A), y4] ∧ Same H H5 ∧ ∀ i ∈ L.take j, hasB c s i r = false) ⟨none, rfl, Same.refl _, fun i hi => by rw [List.take_zero] at hi; cases hi⟩ (fun j σ H5 _ h => ?_) (fun j x σ H5 H6 hj h hy => ?_) (fun σ H5 h => ?_)⟩
  · obtain ⟨_, _, s5, _⟩ := h
    exact ⟨fun _ z => s5.seq z, fun z => Same.tup s5 z⟩
  · obtain ⟨y4, rfl, s5, hno⟩ := h
    obtain ⟨rfl, hx⟩ := hy
    obtain ⟨z, hz, rfl⟩ := intz_at hx
    obtain ⟨l, hl, rfl⟩ := natI_at hz
    have hm := List.mem_of_getElem? hl
    refine at_g (σ' := [some v, some u, some (.str (wS r)), some (.ref A), some (.int (l : Nat))]) rfl ?_
    refine ⟨_, rfl, _, rfl, _, rfl, _, rfl, nil_go ⟨v, u, l, r, c, s, B, rfl, hc.same s5, (snAny_t hu).same s5, hlt l hm, ok100 okc, ok, fun H7 s7 => ⟨_, rfl, ?_⟩⟩⟩
    cases hb : hasB c s l r with
    | true => exact iteT ⟨_, rfl, (q _ (s5.trans s7)).2 l hm hb⟩
    | false =>
      refine iteF ⟨_, rfl, s5.trans s7, fun i hi => ?_⟩
      rw [take_snoc hl] at hi
      rcases List.mem_append.mp hi with h | h
      · exact hno i h
      · rw [List.mem_singleton.mp h]; exact hb
  · obtain ⟨y4, rfl, s5, hno⟩ := h
    refine (q _ s5).1 fun i hi => hno i ?_
    rw [List.take_of_length_le (by rw [List.length_map, List.length_map]; exact Nat.le_refl _)]
    exact hi
/-! ### nearest_road -/
abbrev nNr : List Str := ["canal", "standing", "water", "locks", "starts", "told", "lock", "start"]
theorem scNr : FnScope nNr ["canal", "standing", "water", "locks"] (defScope sNr) := ⟨rfl, rfl, rfl, by decide +kernel, rfl, by decide +kernel, by decide +kernel⟩
def spNr (K : PySem.W.Frag) : Sp := fun vs H Q _ => ∃ (v u : V) (r : Bool) (A : Addr) (L : List Nat) (c : Cn) (s : Sn) (B : Int), vs = [v, u, .str (wS r), .ref A] ∧ CnAny K H v c ∧ Dp K H u (snD s) ∧ H A = some (.lst ((natI L).map V.int)) ∧ okCn 10 12 c ∧ okSn c B s ∧ (∀ i ∈ L, i < c.ls.length) ∧ L ≠ [] ∧ L.length ≤ 12 ∧ (∀ i ∈ L, ∀ f, Rd c s r f → f (fromTo c s i r).1 ≠ none) ∧
  ∀ (f : Rf) (l : Nat) (ks : List Nat) (p : Addr) (us : List V) (H' : Hp), Same H H' → H p = none → Rd c s r f → l ∈ L → f (fromTo c s l r).1 = some ks → (∀ i ∈ L, ∀ ks', f (fromTo c s i r).1 = some ks' → ks.length ≤ ks'.length) → MvAt H' p (rowOf r ks) us → Q (.ref p) H'
theorem ok_nr {f ft fo : Addr} {fd fdt fdo : FuncData} {k : Nat} (F : Fun K "nearest_road" "nearest_road" sNr f fd) (FT : Fns P w K mg base k "from_and_to" ["canal", "standing", "lock", "water"] (spFT K) ft fdt) (Ro : Fns P w K mg base k "roads" ["canal", "standing", "water"] (spRo K) fo fdo) (m_min : mg "min" = none) (m_len : mg "len" = none) : FnOk P w K mg base CX0 (k + 1) f fd ["canal", "standing", "water", "locks"] (spNr K) := by
  refine F.ok scNr (fun vs H Q E h => ?_) (fun cdv A outer s H vs Q E hr h => ?_)
  · obtain ⟨v, u, r, A, L, c, s, B, rfl, _⟩ := h
    rfl
  obtain ⟨v, u, r, A, L, c, s, B, rfl, hc, hu, eA, okc, ok, hlt, hne, hlen, haw, q⟩ := h
  refine ⟨_, (pss_cons (ps_setLc (i := 4) (own := [("lock", 6)]) (g := gName 6) (tt := tYes) rfl scNr.nd rfl rfl (sw_true rfl rfl rfl (by decide +kernel)) (pi_seq (pv 3)) (blkOk_by (own := [("lock", 6)]) (N := nNr) (sc := defScope sNr) (by decide +kernel)) (fun _ _ _ _ _ => (pg_name (i := 6) scNr.nd rfl (.inl rfl))) (fun _ _ _ _ _ => pts_nil) (fun _ _ _ _ _ => pe_hide (pe_ix (r := rIxA K) ix_any (pe_fn FT hr rfl (pa_cons (pv 0) (pa_cons (pv 1) (pa_cons (pv 6) (pa_cons (pv 2) pa_nil))))) pe_int (fun _ _ => rfl))))
    (pss_cons (ps_set (i := 5) scNr.nd rfl (.inr rfl) (pe_fn Ro hr rfl (pa_cons (pv 0) (pa_cons (pv 1) (pa_cons (pv 2) pa_nil)))))
    (pss_one (ps_ret (pe_minLen rfl rfl m_min rfl m_len (pa_cons (pe_lc (own := [("start", 7)]) (g := gName 7) (tt := tYes) rfl scNr.nd (pi_seq (pv 4)) (blkOk_by (own := [("start", 7)]) (N := nNr) (sc := defScope sNr) (by decide +kernel)) (fun _ _ _ _ _ => (pg_name (i := 7) scNr.nd rfl (.inl rfl))) (fun _ _ _ _ _ => pts_nil) (fun _ _ _ _ _ => pe_hide (pe_dget (hu1 hr.units) (pv 5) (pv 7) (fun _ _ => rfl)))) pa_nil)))))), ?_⟩
  refine ⟨_, rfl, A, _, rfl, .inl (SqL.of eA), fun J wk => lc_map wk Same (fun a b => a.trans b) (fun i y F => ∃ l, L[i]? = some l ∧ y = .int (fromTo c s l r).1) (fun i y A B s p => p) (by rw [List.length_map, List.length_map]; exact small1000' (by omega)) (Same.refl _) (fun F D acc sF nF => ?_) (fun i x D acc F H' hi nD sF nF hy B hB => ?_) (fun D ys F nD sF nF hyl hR => ?_)⟩
  · have sD : Same _ (upd F D (.lst acc)) := sF.trans (same_new nF)
    exact ⟨fun _ z => sD.seq z, fun z => Same.tup sD z⟩
  · obtain ⟨rfl, hx⟩ := hy
    obtain ⟨z, hz, rfl⟩ := intz_at hx
    obtain ⟨l, hl, rfl⟩ := natI_at hz
    have hm := List.mem_of_getElem? hl
    refine hB _ F rfl nF fun Qt hq => ?_
    have hll := hlt l hm
    refine ⟨_, rfl, _, rfl, _, rfl, _, rfl, nil_go ⟨v, u, l, r, c, s, rfl, hc.same sF, (snAny_t hu).same sF, hll, by rw [ok.n]; exact hll, fun p H2 s2 np ep => ?_⟩⟩
    exact ⟨p, _, _, _, rfl, rfl, .inr (.inl (.inl ep)), rfl, hq _ _ s2 ⟨l, hl, rfl⟩⟩
  have hyl' : ys.length = L.length := by rw [hyl, List.length_map, List.length_map]
  have s1 : Same H (upd F D (.lst ys)) := sF.trans (same_new nF)
  have eD : (upd F D (.lst ys)) D = some (.lst ys) := upd_same
  generalize upd F D (.lst ys) = H1 at s1 eD
  refine at_g (σ' := [some v, some u, some (.str (wS r)), some (.ref A), some (.ref D), none, none, none]) rfl ?_
  refine ⟨_, rfl, _, rfl, _, rfl, nil_go ⟨v, u, r, c, s, B, rfl, hc.same s1, Dp.same s1 _ hu, okc, ok, fun T f kvs H2 s2 nT ro rd => ?_⟩⟩
  refine at_g (σ' := [some v, some u, some (.str (wS r)), some (.ref A), some (.ref D), some (.ref T), none, none]) rfl ?_
  have s02 := s1.trans s2
  have eD2 := s2 _ _ eD
  refine ⟨_, rfl, D, _, rfl, .inl (SqL.of eD2), fun J wk => lc_map wk Same (fun a b => a.trans b) (fun i y F => ∃ l a us ks, L[i]? = some l ∧ y = .ref a ∧ f (fromTo c s l r).1 = some ks ∧ MvAt F a (rowOf r ks) us ∧ H a = none) (fun i y A B s p => ?_) (small1000' (by omega)) (Same.refl _) (fun F D acc sF nF => ?_) (fun i x D3 acc F H' hi nD sF nF hy B hB => ?_) (fun D3 zs F nD sF nF hzl hZ => ?_)⟩
  · obtain ⟨l, a, us, ks, h1, h2, h3, h4, h5⟩ := p
    exact ⟨l, a, us, ks, h1, h2, h3, h4.move (s _ _ h4.e) (Tp.of s), h5⟩
  · have sD : Same _ (upd F D (.lst acc)) := sF.trans (same_new nF)
    exact ⟨fun _ z => sD.seq z, fun z => Same.tup sD z⟩
  · obtain ⟨rfl, hx⟩ := hy
    obtain ⟨l, hl, rfl⟩ := hR i x hx
    refine hB _ F rfl nF fun Qt hq => ?_
    have roF := ro.move sF
    have hm := List.mem_of_getElem? hl
    rcases roF.v (fromTo c s l r).1 with ⟨h1, h2⟩ | ⟨la, lus, row, h1, h2, h3, h4⟩
    · exact absurd h2 (haw l hm f rd)
    · have gD : DGet F T (.int (fromTo c s l r).1) (some (.ref la)) := by
        have := DGet.k (k := .inl (fromTo c s l r).1) roF.e
        rw [h1] at this; exact this
      exact ⟨_, rfl, _, rfl, T, _, rfl, gD, hq _ _ (Same.refl _) ⟨l, la, lus, row, hl, rfl, h2, h3, s1.free h4.2⟩⟩
  · have hzl' : zs.length = L.length := by rw [hzl]; exact hyl'
    have sD := same_new nF (o := .lst zs)
    have hn : ∀ (i l : Nat) (ks : List Nat), L[i]? = some l → f (fromTo c s l r).1 = some ks → (match L[i]? with | some l => (match f (fromTo c s l r).1 with | some ks => ks.length | none => 0) | none => 0) = ks.length := fun i l ks h1 h2 => by rw [h1]; simp only [h2]
    refine nil_go ⟨D3, zs, fun i => match L[i]? with | some l => (match f (fromTo c s l r).1 with | some ks => ks.length | none => 0) | none => 0, rfl, SqL.of upd_same, by rw [hzl']; exact List.length_pos_iff.mpr hne, fun i y hy => ?_, fun i y hy hmin => ?_⟩
    · obtain ⟨l, a, us, ks, h1, h2, h3, h4, h5⟩ := hZ i y hy
      refine ⟨a, us, h2, SqL.of (sD _ _ h4.e), ?_⟩
      exact (by rw [h4.l, List.length_map] : us.length = ks.length).trans (hn i l ks h1 h3).symm
    · obtain ⟨l, a, us, ks, h1, h2, h3, h4, h5⟩ := hZ i y hy
      rw [h2]
      refine q f l ks a us _ (s02.trans (sF.trans sD)) h5 rd (List.mem_of_getElem? h1) h3 (fun i' hi' ks' hk' => ?_) (h4.move (sD _ _ h4.e) (Tp.of sD))
      obtain ⟨j, hj⟩ := List.getElem?_of_mem hi'
      have := hmin j (by rw [hzl']; exact (List.getElem?_eq_some_iff.mp hj).1)
      simp only [hn i l ks h1 h3, hn j i' ks' hj hk'] at this
      exact this
end
end XL
namespace XL
open PySem PySem.Spec PyProof.Rows L2
abbrev sRw : Stmt := topS 25
theorem map_ti (zs : List Int) : (intsD zs).map tupD = intsD zs := by
  unfold intsD
  rw [List.map_map]
  exact List.map_congr_left fun x _ => by simp [tupD]
theorem tup_snD (s : Sn) : tupD (snD s) = snD s := by
  have e : tupD (snD s) = .tuple [.tuple (tupDs (intsD s.rs)), .tuple (tupDs (intsD s.bs)), .tuple (tupDs (intsD s.ls))] := by simp [snD, tupD, tupDs]
  rw [e, tupDs_eq, tupDs_eq, tupDs_eq, map_ti, map_ti, map_ti]; rfl
theorem lst_snD (s : Sn) : lstD (snD s) = .list [.list (intsD s.rs), .list (intsD s.bs), .list (intsD s.ls)] := by
  have e : lstD (snD s) = .list [.list (lstDs (intsD s.rs)), .list (lstDs (intsD s.bs)), .list (lstDs (intsD s.ls))] := by simp [snD, lstD, lstDs]
  rw [e, lstDs_eq, lstDs_eq, lstDs_eq, map_li, map_li, map_li]
theorem okD_ints (n : Nat) {zs : List Int} (h : zs.length ≤ 1000) : okD (n + 2) (.tuple (intsD zs)) := ⟨by rw [intsD, List.length_map]; exact h, fun e he => by
  obtain ⟨z, _, rfl⟩ := List.mem_map.mp he
  exact trivial⟩
theorem okD_sn (n : Nat) {s : Sn} (h1 : s.rs.length ≤ 1000) (h2 : s.bs.length ≤ 1000) (h3 : s.ls.length ≤ 1000) : okD (n + 3) (snD s) := ⟨by show 3 ≤ 1000; decide, fun d hd => by
  simp only [List.mem_cons, List.not_mem_nil, or_false] at hd
  rcases hd with rfl | rfl | rfl
  · exact okD_ints n h1
  · exact okD_ints n h2
  · exact okD_ints n h3⟩
section
variable {P : Program} {w : World} {K : PySem.W.Frag} {mg : Str → Option Value} {base : Heap}
theorem okRun_at {c : Cn} : ∀ {ms : List Mv} {s : Sn} {j : Nat} {m : Mv}, okRun c s ms → ms[j]? = some m → hasB c (runS c s (ms.take j)) m.1 m.2 = true
  | [], s, j, m, h, e => by simp at e
  | m' :: ms, s, 0, m, h, e => by
    have e : m' = m := by simpa using e
    subst e; exact h.1.2
  | m' :: ms, s, j + 1, m, h, e => by
    have e : ms[j]? = some m := by simpa using e
    exact okRun_at (s := goM c s m') h.2 e
theorem ga_go {CB rw : Addr} {H : Hp} {Q : VK} {E : XK} {v u : V} {ms : List Mv} {c : Cn} {s : Sn} {B : Int} {d : PyData} (hc : CnAny K H v c) (hu : Dp K H u d) (okd : okD 4 d) (etd : tupD d = snD s) (hrw : RowAt K H rw ms) (hml : ms.length ≤ 400) (okc : okCn 100 100 c) (oks : okSn c B s) (okr : okRun c s ms)
    (q : ∀ v' H', Same H H' → Dp K H' v' (snD (runS c s ms)) → Q v' H') : spGA K CB [v, u, .ref rw] H Q E :=
  ⟨v, u, rw, ms, c, s, B, d, rfl, hc, hu, okd, etd, hrw, hml, okRun_lt okr, okc, oks, fun _ => q, fun j m dd t H' ej _ hb _ _ _ _ => by have := okRun_at okr ej; rw [hb] at this; cases this⟩
theorem MvAt.row {H : Hp} {a : Addr} {ms : List Mv} {us : List V} (h : MvAt H a ms us) : RowAt K H a ms := ⟨us, .inl (SqL.of h.e), h.l, fun j u hu => by
  obtain ⟨t, m, e1, e2, e3⟩ := h.d j u hu
  exact ⟨t, m, e1, e2, .inr (.inl (.inl e3))⟩⟩
theorem MvAt.rev {H H' : Hp} {a a' : Addr} {ms : List Mv} {us : List V} (h : MvAt H a ms us) (t : Tp H H') (e : H' a' = some (.lst us.reverse)) : MvAt H' a' ms.reverse us.reverse := by
  refine ⟨e, by rw [List.length_reverse, List.length_reverse, h.l], fun j u hu => ?_⟩
  have hl := h.l
  have hj : j < us.length := by
    have := (List.getElem?_eq_some_iff.mp hu).1
    rw [List.length_reverse] at this; exact this
  rw [List.getElem?_reverse hj] at hu
  obtain ⟨x, m, e1, e2, e3⟩ := h.d _ u hu
  refine ⟨x, m, e1, ?_, t.t _ _ e3⟩
  rw [List.getElem?_reverse (by omega), ← hl]
  exact e2
theorem natI_mem {L : List Nat} {i : Nat} : (i : Int) ∈ natI L ↔ i ∈ L := by
  unfold natI
  rw [List.mem_map]
  constructor
  · rintro ⟨n, hn, e⟩
    rw [show i = n by omega]; exact hn
  · exact fun h => ⟨i, h, rfl⟩
theorem first_ix : ∀ {L : List Nat} {l : Nat}, l ∈ L → ∃ j, (natI L)[j]? = some (l : Int) ∧ (∀ m : Nat, m < j → (natI L)[m]? ≠ some (l : Int)) ∧ (natI L).eraseIdx j = natI (L.erase l)
  | a :: L, l, h => by
    by_cases e : a = l
    · subst e
      refine ⟨0, rfl, fun m hm => absurd hm (Nat.not_lt_zero _), ?_⟩
      rw [List.erase_cons_head]; rfl
    · obtain ⟨j, h1, h2, h3⟩ := first_ix (L := L) (l := l) (by rcases List.mem_cons.mp h with z | z; exact absurd z.symm e; exact z)
      refine ⟨j + 1, h1, fun m hm => ?_, ?_⟩
      · cases m with
        | zero => intro z; exact e (by have : (a : Int) = (l : Int) := Option.some.inj z; omega)
        | succ m => exact h2 m (by omega)
      · rw [List.erase_cons_tail (by simpa using e)]
        show (a : Int) :: (natI L).eraseIdx j = (a : Int) :: natI (L.erase l)
        rw [h3]
theorem MvAt.app {H H' : Hp} {a b p : Addr} {ms ns : List Mv} {us vs : List V} (h : MvAt H a ms us) (g : MvAt H b ns vs) (t : Tp H H') (e : H' p = some (.lst (us ++ vs))) : MvAt H' p (ms ++ ns) (us ++ vs) := by
  have hl := h.l
  refine ⟨e, by rw [List.length_append, List.length_append, h.l, g.l], fun j u hu => ?_⟩
  by_cases q : j < us.length
  · rw [List.getElem?_append_left q] at hu
    obtain ⟨x, m, e1, e2, e3⟩ := h.d j u hu
    exact ⟨x, m, e1, by rw [List.getElem?_append_left (by omega)]; exact e2, t.t _ _ e3⟩
  · rw [List.getElem?_append_right (by omega)] at hu
    obtain ⟨x, m, e1, e2, e3⟩ := g.d _ u hu
    exact ⟨x, m, e1, by rw [List.getElem?_append_right (by omega), ← hl]; exact e2, t.t _ _ e3⟩
theorem rowOf_rev (r : Bool) (ks : List Nat) : rowOf r ks.reverse = (rowOf r ks).reverse := by unfold rowOf; rw [List.map_reverse]
theorem tp_lst {H : Hp} {D : Addr} {xs : List V} {o : HO} (h : H D = some (.lst xs)) : Tp H (upd H D o) :=
  ⟨fun a xs e => by rw [upd_ne (fun z => by rw [z, h] at e; cases e)]; exact e, fun a o xs e => by rw [upd_ne (fun z => by rw [z, h] at e; cases e)]; exact e⟩
theorem alone_run {c : Cn} {r : Bool} : ∀ (ms : List Mv) {s : Sn}, Alone s r → (∀ m ∈ ms, m.2 = r) → Alone (runS c s ms) r
  | [], s, h, _ => h
  | m :: ms, s, h, hw => by
    obtain ⟨i, x⟩ := m
    obtain rfl : r = x := (hw _ (List.mem_cons_self ..)).symm
    exact alone_run ms (s := goneS c s i r) (by unfold Alone; rw [boats_other]; exact h) fun m hm => hw m (List.mem_cons_of_mem _ hm)
theorem sn_len {c : Cn} {B : Int} {s : Sn} (oc : okCn 10 12 c) (os : okSn c B s) : s.rs.length ≤ 1000 ∧ s.bs.length ≤ 1000 ∧ s.ls.length ≤ 1000 := by
  have h1 := os.r; have h2 := os.b; have h3 := os.n; have h4 := oc.r2; have h5 := oc.b2; have h6 := oc.n
  omega
/-! ### row_alone -/
abbrev nRw : List Str := ["canal", "one", "other", "water", "now", "row", "road", "left", "lock", "more"]
theorem scRw : FnScope nRw ["canal", "one", "other", "water"] (defScope sRw) := ⟨rfl, rfl, rfl, by decide +kernel, rfl, by decide +kernel, by decide +kernel⟩
def spRw (K : PySem.W.Frag) : Sp := fun vs H Q _ => ∃ (v u1 u2 : V) (r : Bool) (c : Cn) (s1 s2 : Sn) (B1 B2 : Int), vs = [v, u1, u2, .str (wS r)] ∧ CnAny K H v c ∧ Dp K H u1 (snD s1) ∧ Dp K H u2 (snD s2) ∧ okCn 10 12 c ∧ okSn c B1 s1 ∧ okSn c B2 s2 ∧ Alone s1 r ∧ Alone s2 r ∧
  (∀ H' : Hp, Same H H' → (bbL c s1 s2 r ≠ boatsW r s2 ∨ ∃ f, Rd c s1 r f ∧ ¬ AwakeE c s1 s2 r f) → Q .non H') ∧
  (∀ (f : Rf) (p : Addr) (us : List V) (ms : List Mv) (H' : Hp), Same H H' → H p = none → bbL c s1 s2 r = boatsW r s2 → Rd c s1 r f → AwakeE c s1 s2 r f → okRun c s1 ms → (∀ m ∈ ms, m.2 = r) → runS c s1 ms = s2 → ms.length ≤ 400 → MvAt H' p ms us → Q (.ref p) H')
/-- what stands at each turn -/
structure Tn (K : PySem.W.Frag) (c : Cn) (r : Bool) (s1 s2 : Sn) (H0 H : Hp) (now : V) (RW RD LF : Addr) (m : Nat) (row : List Mv) (left ks : List Nat) : Prop where
  sm : Same H0 H
  nw : Dp K H now (snD (runS c s1 row))
  er : ∃ us, MvAt H RW row us
  ed : ∃ us, MvAt H RD (rowOf r ks) us
  el : H LF = some (.lst ((natI left).map V.int))
  n1 : H0 RW = none ∧ H0 LF = none
  n2 : RW ≠ LF ∧ RD ≠ RW ∧ RD ≠ LF
  ok : okRun c s1 row
  al : ∀ m ∈ row, m.2 = r
  ra : RA c r s2 (runS c s1 row) left ks
  kl : ks.length ≤ 10
  ll : left.length ≤ 12
  bd : row.length + 10 * m ≤ 390
  ms : m = 3 * left.length + (if ks = [] then 1 else if left.any (fun i => hasB c (runS c s1 row) i r) = true then 0 else 2)
theorem ok_rw {f fl fu ff fn fg CB : Addr} {fd fdl fdu fdf fdn fdg : FuncData} {k : Nat} (F : Fun K "row_alone" "row_alone" sRw f fd) (Le : Fns P w K mg base k "leads" ["canal", "one", "other", "water"] (spLe K) fl fdl) (Ul : Fns P w K mg base k "unlike_locks" ["one", "other"] (spUl K) fu fdu)
    (Fr : Fns P w K mg base k "first_ready" ["canal", "standing", "water", "locks"] (spFr K) ff fdf) (Nr : Fns P w K mg base k "nearest_road" ["canal", "standing", "water", "locks"] (spNr K) fn fdn) (Ga : FnX P w K mg base k "gone_all" ["canal", "standing", "row"] (spGA K CB) fg fdg) : FnOk P w K mg base CX0 (k + 1) f fd ["canal", "one", "other", "water"] (spRw K) := by
  refine F.ok scRw (fun vs H Q E h => ?_) (fun cdv A outer s H vs Q E hr h => ?_)
  · obtain ⟨v, u1, u2, r, c, s1, s2, B1, B2, rfl, _⟩ := h
    rfl
  obtain ⟨v, u1, u2, r, c, s1, s2, B1, B2, rfl, hc, hu1, hu2, okc, ok1, ok2, al1, al2, qn, qy⟩ := h
  refine ⟨_, (pss_cons (ps_if (pt_not (pt_val (pe_fn Le hr rfl (pa_cons (pv 0) (pa_cons (pv 1) (pa_cons (pv 2) (pa_cons (pv 3) pa_nil))))))) (pss_one (ps_ret pe_non)) pss_nil)
    (pss_cons (ps_par3 (i := 4) (j := 5) (l := 6) rfl scRw.nd rfl rfl rfl (by decide) (by decide) (by decide) rfl rfl rfl (pa_cons (pv 1) (pa_cons (pe_lst pa_nil) (pa_cons (pe_lst pa_nil) pa_nil))) rfl)
    (pss_cons (ps_set (i := 7) scRw.nd rfl (.inl rfl) (pe_fn Ul hr rfl (pa_cons (pv 1) (pa_cons (pv 2) pa_nil))))
    (pss_cons (ps_while PassesOwn.never (pt_truth (pv 7) (fun _ => rfl))
    (pss_cons (ps_set (i := 8) scRw.nd rfl (.inl rfl) (pe_fn Fr hr rfl (pa_cons (pv 0) (pa_cons (pv 4) (pa_cons (pv 3) (pa_cons (pv 7) pa_nil))))))
    (pss_cons (ps_if (pt_cmpR op_notN (pv 8) pe_non (nomark _)) (pss_cons (ps_expr (pe_bm PySem.F.plainAttrs_list PySem.F.slot_list_remove PySem.F.type_list_remove mt_remove (pv 7) (pa_cons (pv 8) pa_nil)))
    (pss_one (ps_set (i := 9) scRw.nd rfl (.inl rfl) (pe_lst (pa_cons (pe_tup (pa_cons (pv 8) (pa_cons (pv 3) pa_nil))) pa_nil))))) (pss_one (ps_if (pt_truth (pv 6) (fun _ => rfl)) (pss_one (ps_par (i := 9) (j := 6) rfl scRw.nd rfl rfl (by decide) rfl rfl (pa_cons (pe_revL (pv 6)) (pa_cons (pe_lst pa_nil) pa_nil)) rfl)) (pss_one (ps_asg2 (pe_fn Nr hr rfl (pa_cons (pv 0) (pa_cons (pv 4) (pa_cons (pv 3) (pa_cons (pv 7) pa_nil))))) (pg_name (i := 9) scRw.nd rfl (.inl rfl)) (pg_name (i := 6) scRw.nd rfl (.inl rfl)))))))
    (pss_cons (ps_set (i := 4) scRw.nd rfl (.inl rfl) (pe_call Ga.ok hr rfl Ga.g Ga.k Ga.b .nil passL (pa_cons (pv 0) (pa_cons (pv 4) (pa_cons (pv 9) pa_nil)))))
    (pss_one (ps_aug (i := 5) scRw.nd rfl (.inl rfl) (pv 9) iop_ext))))))
    (pss_one (ps_ret (pe_op op_cat (pv 5) (pe_revL (pv 6))))))))), ?_⟩
  refine ⟨_, rfl, _, rfl, _, rfl, _, rfl, nil_go ⟨v, u1, u2, r, c, s1, s2, B1, B2, rfl, hc, hu1, hu2, okc, ok1, ok2, al1, al2, fun H1 g1 => ⟨fun h => ⟨false, rfl, iteT (qn _ g1 (.inl h))⟩, fun hbb f b rd hb => ⟨b, rfl, ?_⟩⟩⟩⟩
  cases b with
  | false => exact iteT (qn _ g1 (.inr ⟨f, rd, fun z => nomatch hb.mpr z⟩))
  | true =>
  have haw := hb.mp rfl
  refine iteF ?_
  refine ⟨_, rfl, (by show 0 ≤ sizeLine; decide), fun RW nRW => ⟨(by show 0 ≤ sizeLine; decide), fun RD nRD => nil_go ⟨_, _, _, rfl, ?_⟩⟩⟩
  have t2 := same_new nRW (o := .lst [])
  have eRW : (upd H1 RW (.lst [])) RW = some (.lst []) := upd_same
  generalize upd H1 RW (.lst []) = H2 at t2 eRW nRD
  have t3 := same_new nRD (o := .lst [])
  have eRD : (upd H2 RD (.lst [])) RD = some (.lst []) := upd_same
  refine at_g (σ' := [some v, some u1, some u2, some (.str (wS r)), some u1, some (.ref RW), some (.ref RD), none, none, none]) rfl ?_
  generalize upd H2 RD (.lst []) = H3 at t3 eRD
  have hDW : RD ≠ RW := fun z => by rw [z, eRW] at nRD; cases nRD
  have s13 := t2.trans t3
  have hn1 := ok1.n; have hn2 := ok2.n; have hnL : c.ls.length ≤ 12 := okc.n
  refine ⟨_, rfl, _, rfl, nil_go ⟨u1, u2, s1, s2, rfl, Dp.same (g1.trans s13) _ hu1, Dp.same (g1.trans s13) _ hu2, by omega, by omega, fun LF H4 t4 nLF eLF => ?_⟩⟩
  rw [hn1] at eLF
  refine at_g (σ' := [some v, some u1, some u2, some (.str (wS r)), some u1, some (.ref RW), some (.ref RD), some (.ref LF), none, none]) rfl ?_
  have hul : (ul s1 s2 c.ls.length).length ≤ 12 := by
    unfold ul
    have h2 := List.length_filter_le (fun i : Nat => decide (gt s1.ls (i : Int) ≠ gt s2.ls (i : Int))) (List.range c.ls.length)
    rw [List.length_range] at h2
    omega
  have mv0 : ∀ {G : Hp} {a : Addr}, G a = some (.lst []) → MvAt G a [] [] := fun {G a} e => ⟨e, rfl, fun j u h => by simp at h⟩
  have aw : ∀ (ms : List Mv), okRun c s1 ms → (∀ m ∈ ms, m.2 = r) → ∀ i, i ∈ ul s1 s2 c.ls.length → ∀ g, Rd c (runS c s1 ms) r g → g (fromTo c (runS c s1 ms) i r).1 ≠ none := fun ms okr hw i hi g rg => by
    have h := haw i hi
    have d := dom_eq okc ok1 okr hw rd rg
    rcases fromTo_ends c (runS c s1 ms) i r with e | e <;> rw [e]
    · exact fun z => h.1 ((d _).mpr z)
    · exact fun z => h.2 ((d _).mpr z)
  refine ⟨fun m σ G => ∃ (now : V) (RW RD LF : Addr) (row : List Mv) (left ks : List Nat) (y8 y9 : Option V), σ = [some v, some u1, some u2, some (.str (wS r)), some now, some (.ref RW), some (.ref RD), some (.ref LF), y8, y9] ∧ Tn K c r s1 s2 H1 G now RW RD LF m row left ks ∧ ∀ i ∈ left, i ∈ ul s1 s2 c.ls.length,
    ⟨_, u1, RW, RD, LF, [], ul s1 s2 c.ls.length, [], none, none, rfl, ⟨s13.trans t4, Dp.same (g1.trans (s13.trans t4)) _ hu1, ⟨[], mv0 ((t3.trans t4) _ _ eRW)⟩, ⟨[], mv0 (t4 _ _ eRD)⟩, eLF, ⟨nRW, s13.free nLF⟩, ⟨(fun z => by rw [← z, t3 _ _ eRW] at nLF; cases nLF), hDW, (fun z => by rw [← z, eRD] at nLF; cases nLF)⟩, trivial, (fun m hm => by cases hm), RA.start okc ok1 ok2 hbb, by decide, hul, ?_, rfl⟩, fun i hi => hi⟩, fun m σ G hW => ?_⟩
  · rw [if_pos rfl]
    show 0 + 10 * _ ≤ 390
    omega
  clear eRW eRD eLF nRW nRD nLF hDW t2 t3 t4 s13
  obtain ⟨now, RW, RD, LF, row, left, ks, y8, y9, rfl, T, hsub⟩ := hW
  refine ⟨_, rfl, _, .inl ⟨_, SqL.of T.el, rfl⟩, ?_⟩
  obtain ⟨usR0, R0⟩ := T.er
  obtain ⟨usD0, D0⟩ := T.ed
  by_cases hle : left = []
  · subst hle
    refine iteF ?_
    obtain ⟨okE, eE⟩ := T.ra.end_ okc ok2 (alone_run row al1 T.al) al2
    have hlD := D0.l; have hlR := R0.l; have hkl := T.kl; have hbd := T.bd
    refine ⟨_, rfl, _, rfl, RD, usD0, rfl, SqL.of D0.e, fun X1 nX1 => ?_⟩
    have t5 := same_new nX1 (o := .lst usD0.reverse)
    have e5 : (upd G X1 (.lst usD0.reverse)) X1 = some (.lst usD0.reverse) := upd_same
    generalize upd G X1 (.lst usD0.reverse) = G5 at t5 e5
    have D5 := D0.rev (Tp.of t5) e5
    have R5 := R0.move (t5 _ _ R0.e) (Tp.of t5)
    rw [List.length_map] at hlD
    refine ⟨RW, X1, _, _, rfl, rfl, R5.e, D5.e, by rw [List.length_reverse, sizeLine_eq]; omega, fun X2 nX2 => ?_⟩
    have t6 := same_new nX2 (o := .lst (usR0 ++ usD0.reverse))
    rw [← rowOf_rev] at D5
    have M6 := MvAt.app R5 D5 (Tp.of t6) upd_same
    have s6 := (T.sm.trans t5).trans t6
    refine qy f X2 _ _ _ (g1.trans s6) ((g1.trans (T.sm.trans t5)).free nX2) hbb rd haw (okRun_app.mpr ⟨T.ok, okE⟩) (fun m hm => ?_) (by rw [runS_app]; exact eE) ?_ M6
    · rcases List.mem_append.mp hm with z | z
      · exact T.al m z
      · obtain ⟨i, _, rfl⟩ := List.mem_map.mp z
        rfl
    · rw [List.length_append, List.length_map, List.length_reverse]; omega
  · have hne : (!((natI left).map V.int).isEmpty) = true := by
      cases left with
      | nil => exact absurd rfl hle
      | cons a l => rfl
    rw [hne]
    refine iteT ⟨fun σ' G' => ∃ m', m' < m ∧ ∃ (now : V) (RW RD LF : Addr) (row : List Mv) (left ks : List Nat) (y8 y9 : Option V), σ' = [some v, some u1, some u2, some (.str (wS r)), some now, some (.ref RW), some (.ref RD), some (.ref LF), y8, y9] ∧ Tn K c r s1 s2 H1 G' now RW RD LF m' row left ks ∧ ∀ i ∈ left, i ∈ ul s1 s2 c.ls.length, fun σ' H' z => z, ?_⟩
    obtain ⟨B9, ok9⟩ := T.ra.ok
    refine ⟨_, rfl, _, rfl, _, rfl, _, rfl, nil_go ⟨v, now, r, LF, left, c, _, B9, rfl, hc.same (g1.trans T.sm), T.nw, T.el, okc, ok9, T.ra.lt, fun G5 t5 => ⟨fun hno => ?_, fun l hl hB => ?_⟩⟩⟩
    · refine at_g (σ' := [some v, some u1, some u2, some (.str (wS r)), some now, some (.ref RW), some (.ref RD), some (.ref LF), some .non, y9]) rfl ?_
      refine ⟨_, rfl, rfl, _, rfl, iteF ?_⟩
      have hany : left.any (fun i => hasB c (runS c s1 row) i r) = false := by
        rw [List.any_eq_false]
        intro i hi
        rw [hno i hi]; decide
      refine ⟨_, rfl, _, .inl ⟨_, SqL.of (t5 _ _ D0.e), rfl⟩, ?_⟩
      have R1 := R0.move (t5 _ _ R0.e) (Tp.of t5)
      have D1 := D0.move (t5 _ _ D0.e) (Tp.of t5)
      have hD1l := D1.l
      rw [List.length_map] at hD1l
      have nw5 := Dp.same t5 _ T.nw
      have el5 := t5 _ _ T.el
      have s5 := T.sm.trans t5
      have hkl := T.kl
      by_cases hk : ks = []
      · have hus : usD0 = [] := List.length_eq_zero_iff.mp (by rw [hD1l, hk]; rfl)
        subst hus
        subst hk
        refine iteF ?_
        refine ⟨_, rfl, _, rfl, _, rfl, _, rfl, nil_go ⟨v, now, r, LF, left, c, _, B9, rfl, hc.same (g1.trans s5), nw5, el5, okc, ok9, T.ra.lt, hle, T.ll, (fun i hi g rg => aw row T.ok T.al i (hsub i hi) g rg), fun g l ks p us G6 t6 np rg hl hk hmin M6 => ?_⟩⟩
        obtain ⟨kne, okM, raO, rdy⟩ := T.ra.out okc ok2 hno rg hl hk hmin
        refine at_g (σ' := [some v, some u1, some u2, some (.str (wS r)), some now, some (.ref RW), some (.ref RD), some (.ref LF), some .non, some (.ref p)]) rfl ?_
        refine at_g (σ' := [some v, some u1, some u2, some (.str (wS r)), some now, some (.ref RW), some (.ref p), some (.ref LF), some .non, some (.ref p)]) rfl ?_
        have smP := s5.trans t6
        have nwP := Dp.same t6 _ nw5
        have rwP := R1.move (t6 _ _ R1.e) (Tp.of t6)
        have rdP := M6
        have elP := t6 _ _ el5
        have mvP := M6
        have alM : ∀ m ∈ rowOf r ks, m.2 = r := fun m hm => by obtain ⟨i, _, rfl⟩ := List.mem_map.mp hm; rfl
        have klP : ks.length ≤ 10 := by
          have := (rg.rng _ _ hk).2
          have h2 : basW r c ≤ 10 := by
            cases r with
            | true => exact okc.r2
            | false => exact okc.b2
          omega
        have lenM : (rowOf r ks).length ≤ 10 := by rw [List.length_map]; exact klP
        have raA : RA c r s2 (runS c s1 (row ++ rowOf r ks)) left ks := by rw [runS_app]; exact raO
        have llP := T.ll
        have hlt : 3 * left.length + (if ks = [] then 1 else if left.any (fun i => hasB c (runS c s1 (row ++ rowOf r ks)) i r) = true then 0 else 2) < m := by
          have h1 := T.ms
          rw [if_pos rfl] at h1
          rw [if_neg kne, if_pos (List.any_eq_true.mpr ⟨l, hl, by rw [runS_app]; exact rdy⟩)]
          omega
        have rdW : p ≠ RW := fun z => by rw [z, R1.e] at np; cases np
        have rdL : p ≠ LF := fun z => by rw [z, el5] at np; cases np
        have subP := hsub
        have sl := sn_len okc ok9
        refine ⟨_, rfl, _, rfl, _, rfl, nil_go (ga_go (hc.same (g1.trans smP)) nwP (okD_sn 1 sl.1 sl.2.1 sl.2.2) (tup_snD _) (MvAt.row mvP) (by omega) (ok100 okc) ok9 okM fun nw G7 t7 hnw => ?_)⟩
        refine at_g (σ' := [some v, some u1, some u2, some (.str (wS r)), some nw, some (.ref RW), some (.ref p), some (.ref LF), some .non, some (.ref p)]) rfl ?_
        have hM := mvP.move (t7 _ _ mvP.e) (Tp.of t7)
        have hRw := rwP.move (t7 _ _ rwP.e) (Tp.of t7)
        have hRd := rdP.move (t7 _ _ rdP.e) (Tp.of t7)
        have hlM := hM.l; have hlR := hRw.l; have hbd := T.bd
        refine ⟨_, rfl, _, rfl, RW, p, _, _, rfl, rfl, hRw.e, hM.e, by rw [sizeLine_eq]; omega, ?_⟩
        have tpR := tp_lst (o := .lst (usR0 ++ us)) hRw.e
        rw [← runS_app] at hnw
        have okA : okRun c s1 (row ++ rowOf r ks) := okRun_app.mpr ⟨T.ok, okM⟩
        have alA : ∀ m ∈ row ++ rowOf r ks, m.2 = r := fun m hm => by
          rcases List.mem_append.mp hm with z | z
          · exact T.al m z
          · exact alM m z
        refine ⟨_, hlt, nw, RW, p, LF, row ++ rowOf r ks, left, ks, _, _, rfl, ⟨fun x o e => by rw [upd_ne (ne_of_none e T.n1.1)]; exact t7 _ _ (smP _ _ e), Dp.tp tpR _ (noL_sn _) hnw, ⟨_, MvAt.app hRw hM tpR upd_same⟩, ⟨_, hRd.move (by rw [upd_ne rdW]; exact hRd.e) tpR⟩, by rw [upd_ne (Ne.symm T.n2.1)]; exact t7 _ _ elP, T.n1, ⟨T.n2.1, rdW, rdL⟩, okA, alA, raA, klP, llP, by rw [List.length_append]; omega, rfl⟩, subP⟩
      · have hus : usD0 ≠ [] := fun z => hk (List.length_eq_zero_iff.mp (by rw [← hD1l, z]; rfl))
        have hue : (!usD0.isEmpty) = true := by
          cases usD0 with
          | nil => exact absurd rfl hus
          | cons a l => rfl
        rw [hue]
        refine iteT ?_
        obtain ⟨okM, raB⟩ := T.ra.back okc ok2 hno
        refine ⟨_, rfl, RD, usD0, rfl, SqL.of D1.e, fun M nM => ⟨(by show 0 ≤ sizeLine; decide), fun RD2 nRD2 => nil_go ⟨_, _, rfl, ?_⟩⟩⟩
        have t8 := same_new nM (o := .lst usD0.reverse)
        have e8 : (upd G5 M (.lst usD0.reverse)) M = some (.lst usD0.reverse) := upd_same
        generalize upd G5 M (.lst usD0.reverse) = G8 at t8 e8 nRD2
        have mv8 : MvAt G8 M (rowOf r ks.reverse) usD0.reverse := by rw [rowOf_rev]; exact D1.rev (Tp.of t8) e8
        have t9 := same_new nRD2 (o := .lst [])
        have e9 : (upd G8 RD2 (.lst [])) RD2 = some (.lst []) := upd_same
        refine at_g (σ' := [some v, some u1, some u2, some (.str (wS r)), some now, some (.ref RW), some (.ref RD2), some (.ref LF), some .non, some (.ref M)]) rfl ?_
        generalize upd G8 RD2 (.lst []) = G9 at t9 e9
        have t89 := t8.trans t9
        have smP := s5.trans t89
        have nwP := Dp.same t89 _ nw5
        have rwP := R1.move (t89 _ _ R1.e) (Tp.of t89)
        have rdP : MvAt G9 RD2 (rowOf r []) [] := mv0 e9
        have elP := t89 _ _ el5
        have mvP := mv8.move (t9 _ _ mv8.e) (Tp.of t9)
        have alM : ∀ m ∈ rowOf r ks.reverse, m.2 = r := fun m hm => by obtain ⟨i, _, rfl⟩ := List.mem_map.mp hm; rfl
        have lenM : (rowOf r ks.reverse).length ≤ 10 := by rw [List.length_map, List.length_reverse]; exact hkl
        have raA : RA c r s2 (runS c s1 (row ++ rowOf r ks.reverse)) left [] := by rw [runS_app]; exact raB
        have klP : ([] : List Nat).length ≤ 10 := by decide
        have llP := T.ll
        have hlt : 3 * left.length + (if ([] : List Nat) = [] then 1 else if left.any (fun i => hasB c (runS c s1 (row ++ rowOf r ks.reverse)) i r) = true then 0 else 2) < m := by
          have h1 := T.ms
          rw [if_neg hk, hany] at h1
          rw [if_pos rfl]
          have h2 : m = 3 * left.length + 2 := h1
          omega
        have rdW : RD2 ≠ RW := fun z => by rw [z, t8 _ _ R1.e] at nRD2; cases nRD2
        have rdL : RD2 ≠ LF := fun z => by rw [z, t8 _ _ el5] at nRD2; cases nRD2
        have subP := hsub
        have sl := sn_len okc ok9
        refine ⟨_, rfl, _, rfl, _, rfl, nil_go (ga_go (hc.same (g1.trans smP)) nwP (okD_sn 1 sl.1 sl.2.1 sl.2.2) (tup_snD _) (MvAt.row mvP) (by omega) (ok100 okc) ok9 okM fun nw G7 t7 hnw => ?_)⟩
        refine at_g (σ' := [some v, some u1, some u2, some (.str (wS r)), some nw, some (.ref RW), some (.ref RD2), some (.ref LF), some .non, some (.ref M)]) rfl ?_
        have hM := mvP.move (t7 _ _ mvP.e) (Tp.of t7)
        have hRw := rwP.move (t7 _ _ rwP.e) (Tp.of t7)
        have hRd := rdP.move (t7 _ _ rdP.e) (Tp.of t7)
        have hlM := hM.l; have hlR := hRw.l; have hbd := T.bd
        refine ⟨_, rfl, _, rfl, RW, M, _, _, rfl, rfl, hRw.e, hM.e, by rw [sizeLine_eq]; omega, ?_⟩
        have tpR := tp_lst (o := .lst (usR0 ++ usD0.reverse)) hRw.e
        rw [← runS_app] at hnw
        have okA : okRun c s1 (row ++ rowOf r ks.reverse) := okRun_app.mpr ⟨T.ok, okM⟩
        have alA : ∀ m ∈ row ++ rowOf r ks.reverse, m.2 = r := fun m hm => by
          rcases List.mem_append.mp hm with z | z
          · exact T.al m z
          · exact alM m z
        refine ⟨_, hlt, nw, RW, RD2, LF, row ++ rowOf r ks.reverse, left, [], _, _, rfl, ⟨fun x o e => by rw [upd_ne (ne_of_none e T.n1.1)]; exact t7 _ _ (smP _ _ e), Dp.tp tpR _ (noL_sn _) hnw, ⟨_, MvAt.app hRw hM tpR upd_same⟩, ⟨_, hRd.move (by rw [upd_ne rdW]; exact hRd.e) tpR⟩, by rw [upd_ne (Ne.symm T.n2.1)]; exact t7 _ _ elP, T.n1, ⟨T.n2.1, rdW, rdL⟩, okA, alA, raA, klP, llP, by rw [List.length_append]; omega, rfl⟩, subP⟩
    · refine at_g (σ' := [some v, some u1, some u2, some (.str (wS r)), some now, some (.ref RW), some (.ref RD), some (.ref LF), some (.int (l : Nat)), y9]) rfl ?_
      refine ⟨_, rfl, rfl, _, rfl, iteT ?_⟩
      obtain ⟨j, hj1, hj2, hj3⟩ := first_ix hl
      have eL5 := t5 _ _ T.el
      refine ⟨_, rfl, .inl ⟨rfl, _, SqL.of eL5⟩, _, rfl, nil_go ⟨LF, natI left, (l : Int), j, rfl, rfl, eL5, hj1, hj2, ?_⟩⟩
      rw [hj3]
      have s5 : Same H1 (upd G5 LF (.lst ((natI (left.erase l)).map V.int))) := fun x o e => by rw [upd_ne (ne_of_none e T.n1.2)]; exact t5 _ _ (T.sm _ _ e)
      have tp5 := tp_lst (o := .lst ((natI (left.erase l)).map V.int)) eL5
      have nw5 := Dp.tp tp5 _ (noL_sn _) (Dp.same t5 _ T.nw)
      have R1 := R0.move (t5 _ _ R0.e) (Tp.of t5)
      have D1 := D0.move (t5 _ _ D0.e) (Tp.of t5)
      have R5 := R1.move (by rw [upd_ne T.n2.1]; exact R1.e) tp5
      have D5 := D1.move (by rw [upd_ne T.n2.2.2]; exact D1.e) tp5
      have el5 : (upd G5 LF (.lst ((natI (left.erase l)).map V.int))) LF = some (.lst ((natI (left.erase l)).map V.int)) := upd_same
      clear tp5
      generalize upd G5 LF (.lst ((natI (left.erase l)).map V.int)) = G6 at s5 nw5 R5 D5 el5
      refine ⟨_, rfl, _, rfl, (by show 2 ≤ sizeLine; decide), fun T1 nT1 => ⟨(by show 1 ≤ sizeLine; decide), fun M nM => ?_⟩⟩
      have t8 := same_new nT1 (o := .tup [.int (l : Nat), .str (wS r)])
      have e8 : (upd G6 T1 (.tup [.int (l : Nat), .str (wS r)])) T1 = some (.tup (mvV (l, r))) := upd_same
      generalize upd G6 T1 (.tup [.int (l : Nat), .str (wS r)]) = G8 at t8 e8 nM
      have t9 := same_new nM (o := .lst [.ref T1])
      have e9 : (upd G8 M (.lst [.ref T1])) M = some (.lst [.ref T1]) := upd_same
      refine at_g (σ' := [some v, some u1, some u2, some (.str (wS r)), some now, some (.ref RW), some (.ref RD), some (.ref LF), some (.int (l : Nat)), some (.ref M)]) rfl ?_
      generalize upd G8 M (.lst [.ref T1]) = G9 at t9 e9
      have t89 := t8.trans t9
      have smP := s5.trans t89
      have nwP := Dp.same t89 _ nw5
      have rwP := R5.move (t89 _ _ R5.e) (Tp.of t89)
      have rdP := D5.move (t89 _ _ D5.e) (Tp.of t89)
      have elP := t89 _ _ el5
      have mvP : MvAt G9 M [(l, r)] [.ref T1] := ⟨e9, rfl, fun j u hu => by
        match j, hu with
        | 0, hu => exact ⟨T1, (l, r), (Option.some.inj hu).symm, rfl, t9 _ _ e8⟩
        | j + 1, hu => simp at hu⟩
      have okM : okRun c (runS c s1 row) [(l, r)] := ⟨⟨T.ra.lt l hl, hB⟩, trivial⟩
      have alM : ∀ m ∈ [((l, r) : Mv)], m.2 = r := fun m hm => by rw [List.mem_singleton.mp hm]
      have lenM : ([((l, r) : Mv)]).length ≤ 10 := by show 1 ≤ 10; decide
      have raA : RA c r s2 (runS c s1 (row ++ [(l, r)])) (left.erase l) ks := by rw [runS_app]; exact T.ra.go okc ok2 hl hB
      have hel : (left.erase l).length = left.length - 1 := List.length_erase_of_mem hl
      have hl0 : 0 < left.length := List.length_pos_of_mem hl
      have klP := T.kl
      have llP : (left.erase l).length ≤ 12 := by have := T.ll; omega
      have hlt : 3 * (left.erase l).length + (if ks = [] then 1 else if (left.erase l).any (fun i => hasB c (runS c s1 (row ++ [(l, r)])) i r) = true then 0 else 2) < m := by
        have h1 := T.ms
        have h2 : (if ks = [] then 1 else if (left.erase l).any (fun i => hasB c (runS c s1 (row ++ [(l, r)])) i r) = true then 0 else 2) ≤ 2 := by split; decide; split <;> decide
        omega
      have rdW := T.n2.2.1; have rdL := T.n2.2.2
      have subP : ∀ i ∈ left.erase l, i ∈ ul s1 s2 c.ls.length := fun i hi => hsub i (List.mem_of_mem_erase hi)
      have sl := sn_len okc ok9
      refine ⟨_, rfl, _, rfl, _, rfl, nil_go (ga_go (hc.same (g1.trans smP)) nwP (okD_sn 1 sl.1 sl.2.1 sl.2.2) (tup_snD _) (MvAt.row mvP) (by omega) (ok100 okc) ok9 okM fun nw G7 t7 hnw => ?_)⟩
      refine at_g (σ' := [some v, some u1, some u2, some (.str (wS r)), some nw, some (.ref RW), some (.ref RD), some (.ref LF), some (.int (l : Nat)), some (.ref M)]) rfl ?_
      have hM := mvP.move (t7 _ _ mvP.e) (Tp.of t7)
      have hRw := rwP.move (t7 _ _ rwP.e) (Tp.of t7)
      have hRd := rdP.move (t7 _ _ rdP.e) (Tp.of t7)
      have hlM := hM.l; have hlR := hRw.l; have hbd := T.bd
      refine ⟨_, rfl, _, rfl, RW, M, _, _, rfl, rfl, hRw.e, hM.e, by rw [sizeLine_eq]; omega, ?_⟩
      have tpR := tp_lst (o := .lst (usR0 ++ [.ref T1])) hRw.e
      rw [← runS_app] at hnw
      have okA : okRun c s1 (row ++ [(l, r)]) := okRun_app.mpr ⟨T.ok, okM⟩
      have alA : ∀ m ∈ row ++ [(l, r)], m.2 = r := fun m hm => by
        rcases List.mem_append.mp hm with z | z
        · exact T.al m z
        · exact alM m z
      refine ⟨_, hlt, nw, RW, RD, LF, row ++ [(l, r)], (left.erase l), ks, _, _, rfl, ⟨fun x o e => by rw [upd_ne (ne_of_none e T.n1.1)]; exact t7 _ _ (smP _ _ e), Dp.tp tpR _ (noL_sn _) hnw, ⟨_, MvAt.app hRw hM tpR upd_same⟩, ⟨_, hRd.move (by rw [upd_ne rdW]; exact hRd.e) tpR⟩, by rw [upd_ne (Ne.symm T.n2.1)]; exact t7 _ _ elP, T.n1, ⟨T.n2.1, rdW, rdL⟩, okA, alA, raA, klP, llP, by rw [List.length_append]; omega, rfl⟩, subP⟩
end
end XL
namespace XL
open PySem PySem.Spec PyProof.Rows L2
abbrev sHu : Stmt := topS 36
section
variable {P : Program} {w : World} {K : PySem.W.Frag} {mg : Str → Option Value} {base : Heap}
/-! ### hues -/
abbrev nHu : List Str := ["_law_hue"]
theorem scHu : FnScope nHu ["_law_hue"] (defScope sHu) := ⟨rfl, rfl, rfl, by decide +kernel, rfl, by decide +kernel, by decide +kernel⟩
def pI (r : Bool) : Int := if r = true then 0 else 1
def spHu : Sp := fun vs H Q _ => ∃ r : Bool, vs = [.str (wS r)] ∧ ∀ p, H p = none → Q (.ref p) (upd H p (.tup [.int (pI r), .int (pI (!r))]))
theorem ok_hu {f : Addr} {fd : FuncData} {k : Nat} (F : Fun K "_law_hues" "_law_hues" sHu f fd) : FnOk P w K mg base CX0 (k + 1) f fd ["_law_hue"] spHu := by
  refine F.ok scHu (fun vs H Q E h => ?_) (fun cdv A outer s H vs Q E hr h => ?_)
  · obtain ⟨r, rfl, _⟩ := h
    rfl
  obtain ⟨r, rfl, q⟩ := h
  refine ⟨_, (pss_one (ps_ret (pe_ifExp (pt_cmpR op_eq (pv 0) pe_str (nomark _)) (pe_tup (pa_cons pe_int (pa_cons pe_int pa_nil))) (pe_tup (pa_cons pe_int (pa_cons pe_int pa_nil)))))), ?_⟩
  refine ⟨_, rfl, rfl, _, rfl, ?_⟩
  rw [wS_red]
  cases r with
  | true => exact iteT ⟨by show 2 ≤ sizeLine; decide, fun p np => q p np⟩
  | false => exact iteF ⟨by show 2 ≤ sizeLine; decide, fun p np => q p np⟩
/-! ### ways_out -/
end
end XL
namespace XL
open PySem PySem.Spec PyProof.Rows L2
/-! ### rows in order, and the one least road -/
def rowD (r : Bool) (a : List Nat) : PyData := .list ((rowOf r a).map mvD)
def rlt (r : Bool) (a b : List Nat) : Bool := PySem.W.dataLt (rowD r a) (rowD r b)
/-- a isn't behind b -/
def rle (r : Bool) (a b : List Nat) : Prop := rlt r b a = false
theorem row_toks (r : Bool) : ∀ a b : List Nat, PySem.W.keyToksAll ((rowOf r a).map mvD) = PySem.W.keyToksAll ((rowOf r b).map mvD) → a = b
  | [], [], _ => rfl
  | [], y :: b, h => by simp [rowOf, PySem.W.keyToksAll] at h
  | x :: a, [], h => by simp [rowOf, PySem.W.keyToksAll] at h
  | x :: a, y :: b, h => by
    have ih := row_toks r a b
    simp only [rowOf, List.map_cons, PySem.W.keyToksAll, mvD, PySem.W.keyToks] at h ih
    simp only [List.cons_append, List.nil_append, List.append_assoc, List.cons.injEq, Sum.inl.injEq, true_and] at h
    have h1 := h.1
    rw [ih h.2, show x = y by omega]
theorem rle_refl (r : Bool) (a : List Nat) : rle r a a := lex_irrefl _
theorem rle_trans {r : Bool} {a b c : List Nat} (h : rle r a b) (g : rle r b c) : rle r a c := by
  unfold rle rlt PySem.W.dataLt at *
  cases e : PyProof.Rows.lexLt itemOrd (PySem.W.keyToks (rowD r c)) (PySem.W.keyToks (rowD r a)) with
  | false => rfl
  | true =>
    rcases lex_negTrans _ (PySem.W.keyToks (rowD r b)) _ e with z | z
    · rw [g] at z; cases z
    · rw [h] at z; cases z
theorem rle_anti {r : Bool} {a b : List Nat} (h : rle r a b) (g : rle r b a) : a = b := by
  have e := lex_total _ _ g h
  exact row_toks r a b e
/-- what min of two gives is behind neither -/
theorem rle_min (r : Bool) (a b : List Nat) : rle r (if rlt r b a = true then b else a) a ∧ rle r (if rlt r b a = true then b else a) b := by
  cases e : rlt r b a with
  | false => exact ⟨rle_refl r a, e⟩
  | true =>
    refine ⟨?_, rle_refl r b⟩
    show rlt r a b = false
    cases e2 : rlt r a b with
    | false => rfl
    | true =>
      have := lex_trans _ _ _ e e2
      rw [lex_irrefl] at this; cases this
structure Rl (c : Cn) (s : Sn) (r : Bool) (f : Rf) : Prop where
  rd : Rd c s r f
  le : ∀ j row i i' row', f j = some (row ++ [i]) → i' < c.ls.length → (fromTo c s i' r).2 = j → f (fromTo c s i' r).1 = some row' → row'.length = row.length → rle r (row ++ [i]) (row' ++ [i'])
theorem rl_len {c : Cn} {s : Sn} {r : Bool} {f g : Rf} (R : Rd c s r f) (R' : Rd c s r g) {j : Int} {ks : List Nat} (h : g j = some ks) : ∃ ks', f j = some ks' ∧ ks'.length = ks.length := by
  obtain ⟨k1, e1, l1⟩ := far_mono R' R rfl (fun _ _ h => h) ks.length j ks rfl h
  obtain ⟨k2, e2, l2⟩ := far_mono R R' rfl (fun _ _ h => h) k1.length j k1 rfl e1
  rw [h] at e2
  obtain rfl := Option.some.inj e2
  exact ⟨k1, e1, by omega⟩
theorem Rl.alike {c : Cn} {s : Sn} {r : Bool} {f g : Rf} (R : Rl c s r f) (R' : Rl c s r g) : ∀ (n : Nat) (j : Int) (ks : List Nat), ks.length = n → f j = some ks → g j = some ks
  | 0, j, ks, hl, e => by
    obtain ⟨k2, e2, l2⟩ := rl_len R'.rd R.rd e
    rw [e2, List.length_eq_zero_iff.mp hl, List.length_eq_zero_iff.mp (l2.trans hl)]
  | n + 1, j, ks, hl, e => by
    obtain ⟨k2, e2, l2⟩ := rl_len R'.rd R.rd e
    obtain ⟨ys, i, rfl, hy⟩ := snoc_of hl
    obtain ⟨zs, i2, rfl, hz⟩ := snoc_of (l2.trans hl)
    obtain ⟨a1, a2, a3⟩ := R.rd.st _ ys i e
    obtain ⟨b1, b2, b3⟩ := R'.rd.st _ zs i2 e2
    have g1 := Rl.alike R R' n _ ys hy a3
    obtain ⟨k3, f3, l3⟩ := rl_len R.rd R'.rd b3
    have g3 := Rl.alike R R' n _ k3 (l3.trans hz) f3
    rw [b3] at g3
    obtain rfl := Option.some.inj g3
    have x1 := R.le j ys i i2 zs e b1 b2 f3 (by omega)
    have x2 := R'.le j zs i2 i ys e2 a1 a2 g1 (by omega)
    rw [e2, rle_anti x1 x2]
theorem Rl.uniq {c : Cn} {s : Sn} {r : Bool} {f g : Rf} (R : Rl c s r f) (R' : Rl c s r g) : f = g := funext fun j => by
  cases e : f j with
  | some ks => exact (R.alike R' ks.length j ks rfl e).symm
  | none =>
    cases e2 : g j with
    | none => rfl
    | some ks => rw [R'.alike R ks.length j ks rfl e2] at e; cases e
end XL
namespace XL
open PySem PySem.Spec PyProof.Rows L2
/-! ### the rounds of roads, with the order of rows -/
def LeF (c : Cn) (s : Sn) (r : Bool) (f : Rf) : Prop := ∀ j row i i' row', f j = some (row ++ [i]) → i' < c.ls.length → (fromTo c s i' r).2 = j → f (fromTo c s i' r).1 = some row' → row'.length = row.length → rle r (row ++ [i]) (row' ++ [i'])
def LkG (c : Cn) (s : Sn) (r : Bool) (f : Rf) (n : Nat) (g : Rf) : Prop := ∀ i row, i < n → f (fromTo c s i r).1 = some row → f (fromTo c s i r).2 = none → ∃ ks, g (fromTo c s i r).2 = some ks ∧ rle r ks (row ++ [i])
section
variable {c : Cn} {s : Sn} {r : Bool} {f g : Rf} {d : Nat}
theorem le0 : LeF c s r (f0 c s r) := fun j row i i' row' h => by
  unfold f0 at h
  split at h
  · exact (app_ne (Option.some.inj h)).elim
  · cases h
/-- what is found in a round is just one longer than all before it -/
theorem new_len (R : RI c s r d f) (G : GI c s r f c.ls.length g) {j : Int} {ks : List Nat} (h : g j = some ks) : ks.length = d + 1 := by
  obtain ⟨fn, row, i, rfl, hi, hj, hf⟩ := G.new j ks h
  have h1 := (R.rng _ _ hf).2
  by_cases q : row.length < d
  · obtain ⟨k2, e2, _⟩ := R.cl i row hi hf q
    rw [hj, fn] at e2; cases e2
  · rw [List.length_append]; simp only [List.length_cons, List.length_nil]; omega
theorem le_step (R : RI c s r d f) (L : LeF c s r f) (G : GI c s r f c.ls.length g) (K : LkG c s r f c.ls.length g) : LeF c s r (both g f) := fun j row i i' row' h hi' hj' h' hl => by
  have old : ∀ {x ks}, f x = some ks → ks.length ≤ d := fun {x ks} e => (R.rng x ks e).2
  cases q : g j with
  | some ks =>
    rw [both_some q] at h
    obtain rfl := Option.some.inj h
    have n1 := new_len R G q
    rw [List.length_append] at n1
    simp only [List.length_cons, List.length_nil] at n1
    cases q2 : g (fromTo c s i' r).1 with
    | some k2 =>
      rw [both_some q2] at h'
      obtain rfl := Option.some.inj h'
      have := new_len R G q2
      omega
    | none =>
      rw [both_none q2] at h'
      have fn := (G.new j _ q).1
      obtain ⟨k3, e3, l3⟩ := K i' row' hi' h' (by rw [hj']; exact fn)
      rw [hj', q] at e3
      rw [Option.some.inj e3]; exact l3
  | none =>
    rw [both_none q] at h
    have o1 := old h
    rw [List.length_append] at o1
    simp only [List.length_cons, List.length_nil] at o1
    cases q2 : g (fromTo c s i' r).1 with
    | some k2 =>
      rw [both_some q2] at h'
      obtain rfl := Option.some.inj h'
      have := new_len R G q2
      omega
    | none =>
      rw [both_none q2] at h'
      exact L j row i i' row' h hi' hj' h' hl
/-- a lock's road put in, the lesser kept -/
theorem lk_put (K : LkG c s r f n g) {row ks : List Nat} (h1 : f (fromTo c s n r).1 = some row) (hle : rle r ks (row ++ [n])) (ho : ∀ k0, g (fromTo c s n r).2 = some k0 → rle r ks k0) : LkG c s r f (n + 1) (fun j => if j = (fromTo c s n r).2 then some ks else g j) := fun i row' hi e1 e2 => by
  by_cases q : (fromTo c s i r).2 = (fromTo c s n r).2
  · refine ⟨ks, if_pos q, ?_⟩
    by_cases e : i = n
    · subst e
      rw [h1] at e1
      rw [← Option.some.inj e1]; exact hle
    · obtain ⟨k0, a, b⟩ := K i row' (by omega) e1 e2
      rw [q] at a
      exact rle_trans (ho k0 a) b
  · have hne : i ≠ n := fun e => q (by rw [e])
    obtain ⟨k0, a, b⟩ := K i row' (by omega) e1 e2
    exact ⟨k0, by show (if _ then _ else _) = _; rw [if_neg q]; exact a, b⟩
theorem lk_skip (K : LkG c s r f n g) (h : ∀ row, f (fromTo c s n r).1 = some row → f (fromTo c s n r).2 ≠ none) : LkG c s r f (n + 1) g := fun i row hi e1 e2 => by
  by_cases e : i = n
  · subst e; exact absurd e2 (h row e1)
  · exact K i row (by omega) e1 e2
end
end XL
namespace XL
open PySem PySem.Spec PyProof.Rows L2
section
variable {P : Program} {w : World} {K : PySem.W.Frag} {mg : Str → Option Value} {base : Heap}
def spRl (K : PySem.W.Frag) : Sp := fun vs H Q _ => ∃ (v u : V) (r : Bool) (c : Cn) (s : Sn) (B : Int), vs = [v, u, .str (wS r)] ∧ CnAny K H v c ∧ Dp K H u (snD s) ∧ okCn 10 12 c ∧ okSn c B s ∧
  ∀ (D : Addr) (f : Rf) (kvs : List (Key × V)) (H' : Hp), Same H H' → H D = none → RoAt H H' D r f kvs → Rl c s r f → Q (.ref D) H'
theorem ok_rl {f fb ft : Addr} {fd fdb fdt : FuncData} {k : Nat} (F : Fun K "roads" "roads" sRo f fd) (Bo : Fns P w K mg base k "boats_of" ["standing", "water"] (spBoT K) fb fdb) (FT : Fns P w K mg base k "from_and_to" ["canal", "standing", "lock", "water"] (spFT K) ft fdt)
    (m_enumerate : mg "enumerate" = none) (m_range : mg "range" = none) (m_len : mg "len" = none) (m_min : mg "min" = none) : FnOk P w K mg base CX0 (k + 1) f fd ["canal", "standing", "water"] (spRl K) := by
  refine F.ok scRo (fun vs H Q E h => ?_) (fun cdv A outer s H vs Q E hr h => ?_)
  · obtain ⟨v, u, r, c, s, B, rfl, _⟩ := h
    rfl
  obtain ⟨v, u, r, c, s, B, rfl, hc, hu, okc, ok, q⟩ := h
  refine ⟨_, (pss_cons (ps_setDc (i := 3) (own := [("basin", 9), ("boats", 10)]) (g := gAny K 2 (gCons (gName 9) (gCons (gName 10) gNil))) rfl scRo.nd rfl rfl (sw_trueD rfl rfl rfl (by decide +kernel)) (pi_enumT rfl m_enumerate (pa_cons (pe_fn Bo hr rfl (pa_cons (pv 1) (pa_cons (pv 2) pa_nil))) pa_nil)) (blkOk_by (own := [("basin", 9), ("boats", 10)]) (N := nRo) (sc := defScope sRo) (by decide +kernel)) (fun _ _ _ _ _ => (pg_any rfl (pgs_cons (pg_name (i := 9) scRo.nd rfl (.inl rfl)) (pgs_cons (pg_name (i := 10) scRo.nd rfl (.inl rfl)) pgs_nil)))) (fun _ _ _ _ _ => (pts_one (pt_cmpR op_gt (pv 10) pe_int (nomark _)))) (fun _ _ _ _ _ => (pv 9)) (fun _ _ _ _ _ => (pe_lst pa_nil)))
    (pss_cons (ps_set (i := 4) scRo.nd rfl (.inl rfl) (pv 3))
    (pss_cons (ps_while PassesOwn.never (pt_truth (pv 4) (fun _ => rfl))
    (pss_cons (ps_set (i := 4) scRo.nd rfl (.inl rfl) pe_dnewK)
    (pss_cons (ps_for PassesOwn.never rfl (pi_range1 rfl m_range (pa_cons (pe_callB (r := rLenA K) call_lenA rfl m_len PySem.boot_len (pa_cons (pe_ix (r := rIxA K) ix_any (pv 0) pe_int (fun _ _ => rfl)) pa_nil)) pa_nil)) (pg_name (i := 5) scRo.nd rfl (.inl rfl))
    (pss_cons (ps_asg (pe_fn FT hr rfl (pa_cons (pv 0) (pa_cons (pv 1) (pa_cons (pv 5) (pa_cons (pv 2) pa_nil))))) (pg_any rfl (pgs_cons (pg_name (i := 6) scRo.nd rfl (.inl rfl)) (pgs_cons (pg_name (i := 7) scRo.nd rfl (.inl rfl)) pgs_nil))))
    (pss_one (ps_if (PW.pt (pw_and (pt_cmp (pc_din (hu1 hr.units) (pv 6) (pv 3)) rfl) (pw_and1 (pt_cmp (pc_dnotin (hu1 hr.units) (pv 7) (pv 3)) rfl)))) (pss_cons (ps_set (i := 8) scRo.nd rfl (.inl rfl) (pe_op op_cat (pe_dget (hu1 hr.units) (pv 3) (pv 6) (fun _ _ => rfl)) (pe_lst (pa_cons (pe_tup (pa_cons (pv 5) (pa_cons (pv 2) pa_nil))) pa_nil))))
    (pss_one (ps_dput (hu1 hr.units) (pv 4) (pv 7) (pe_callB (r := rMin2D K) (call_min2D rfl hr.units) rfl m_min boot_min' (pa_cons (pe_dget2 (hu1 hr.units) (pv 4) (pv 7) (pv 8) ⟨rfl, rfl, rfl, rfl⟩) (pa_cons (pv 8) pa_nil))) rfl))) pss_nil))))
    (pss_one (ps_set (i := 3) scRo.nd rfl (.inl rfl) (pe_merge2 (pv 3) (pv 4)))))))
    (pss_one (ps_ret (pv 3)))))), ?_⟩
  have hbl := boats_len ok r
  have hnn : 0 ≤ basW r c := by rw [← hbl]; omega
  have hnB : basW r c ≤ 10 := by
    cases r with
    | true => exact okc.r2
    | false => exact okc.b2
  have hnL : c.ls.length ≤ 12 := okc.n
  -- told
  refine ⟨_, rfl, _, rfl, u, r, s, rfl, hu, fun a ha => ?_⟩
  refine ⟨a, _, rfl, ha, fun D nD => dc_it (walk_enumT (K := K) (a := a) (xs := (boatsW r s).map V.int)) (fun i H5 => Same H H5 ∧ ∃ kvs, RoAt H H5 D r (fun j => if j < (i : Int) then f0 c s r j else none) kvs ∧ kvs.length ≤ i) ?_ (fun i H5 _ h => Same.tup h.1 ha) (fun i x H5 H6 hi h hy => ?_) (fun H5 h => ?_)⟩
  · refine ⟨same_new nD, [], ⟨upd_same, List.nodup_nil, (fun k hk => by cases hk), fun j => .inl ⟨rfl, ?_⟩⟩, Nat.le_refl _⟩
    show (if j < ((0 : Nat) : Int) then f0 c s r j else none) = none
    split
    · unfold f0; rw [if_neg (by omega)]
    · rfl
  · obtain ⟨s5, kvs, ro, hl⟩ := h
    obtain ⟨T, xi, xv, rfl, nT, rfl, ei, ev⟩ := hy
    obtain rfl : V.int (i : Nat) = xi := Option.some.inj ei
    have ev' : ((boatsW r s).map V.int)[i]? = some xv := ev
    obtain ⟨z, ez, rfl⟩ := intz_at ev'
    have ez' : gt (boatsW r s) (i : Int) = z := by
      unfold gt
      rw [show ((i : Int)).toNat = i by omega, List.getD_eq_getElem?_getD, ez]; rfl
    rw [List.length_map] at hi
    have hD5 : H5 D = some (.dK kvs) := ro.e
    have hTD : T ≠ D := fun z => by rw [z, hD5] at nT; cases nT
    have sT := same_new nT (o := .tup [.int (i : Nat), .int z])
    have eT : (upd H5 T (.tup [.int (i : Nat), .int z])) T = some (.tup [.int (i : Nat), .int z]) := upd_same
    generalize upd H5 T (.tup [.int (i : Nat), .int z]) = H6 at sT eT
    have s6 := s5.trans sT
    have ro6 := ro.move sT
    refine ⟨T, _, rfl, .inr (.inl (.inl eT)), rfl, _, _, rfl, _, _, rfl, rfl, rfl, ?_⟩
    refine ⟨_, rfl, _, _, rfl, rfl, _, rfl, ?_⟩
    by_cases hz : 0 < z
    · rw [decide_eq_true hz]
      refine iteT ⟨_, rfl, (by show 0 ≤ sizeLine; decide), fun p np => ?_⟩
      have sp := same_new np (o := .lst [])
      have ep : (upd H6 p (.lst [])) p = some (.lst []) := upd_same
      have hpD : p ≠ D := fun z => by rw [z, ro6.e] at np; cases np
      generalize upd H6 p (.lst []) = H7 at sp ep
      have ro7 := ro6.move sp
      refine ⟨kvs, .inl (i : Int), rfl, ro7.e, small1000' (by omega), fun x o e => by rw [upd_ne (ne_of_none e nD)]; exact (s6.trans sp) _ _ e, putK kvs (.inl (i : Int)) (.ref p), ⟨upd_same, nodup_put ro7.n, key_put ro7.k, fun j => ?_⟩, by have := length_putK kvs (.inl (i : Int)) (.ref p); omega⟩
      rw [valV_put]
      by_cases hj : j = (i : Int)
      · subst hj
        refine .inr ⟨p, [], [], by rw [if_pos rfl], ?_, ⟨by rw [upd_ne hpD]; exact ep, rfl, fun j u h => by simp at h⟩, hpD, s6.free np⟩
        show (if (i : Int) < ((i + 1 : Nat) : Int) then f0 c s r (i : Int) else none) = some []
        rw [if_pos (by omega)]
        unfold f0
        rw [if_pos ⟨by omega, by omega, by rw [ez']; exact hz⟩]
      · have e2 : (if j < ((i + 1 : Nat) : Int) then f0 c s r j else none) = (if j < (i : Int) then f0 c s r j else none) := by
          by_cases q : j < (i : Int)
          · rw [if_pos q, if_pos (by omega)]
          · rw [if_neg q, if_neg (by omega)]
        rw [if_neg (fun z => hj (Sum.inl.inj z))]
        show (_ ∧ (if j < ((i + 1 : Nat) : Int) then f0 c s r j else none) = none) ∨ ∃ a us ks, _ ∧ (if j < ((i + 1 : Nat) : Int) then f0 c s r j else none) = some ks ∧ _
        rw [e2]
        rcases ro7.v j with h | ⟨a', us, ks, h1, h2, h3, h4⟩
        · exact .inl h
        · exact .inr ⟨a', us, ks, h1, h2, h3.move (by rw [upd_ne h4.1]; exact h3.e) (tp_dk ro7.e), h4⟩
    · rw [decide_eq_false hz]
      refine iteF ⟨s6, kvs, ?_, by omega⟩
      have e2 : (fun j : Int => if j < ((i + 1 : Nat) : Int) then f0 c s r j else none) = (fun j => if j < (i : Int) then f0 c s r j else none) := funext fun j => by
        by_cases q : j < (i : Int)
        · rw [if_pos q, if_pos (by omega)]
        · rw [if_neg q]
          split
          · obtain rfl : j = (i : Int) := by omega
            unfold f0
            rw [if_neg (fun h => by rw [ez'] at h; omega)]
          · rfl
      rw [e2]; exact ro6
  obtain ⟨s5, kvs, ro, hl⟩ := h
  have ef : (fun j : Int => if j < ((((boatsW r s).map V.int).length : Nat) : Int) then f0 c s r j else none) = f0 c s r := funext fun j => by
    rw [List.length_map, hbl]
    split
    · rfl
    · unfold f0; rw [if_neg (by omega)]
  rw [ef] at ro
  rw [List.length_map] at hl
  refine at_g (σ' := [some v, some u, some (.str (wS r)), some (.ref D), none, none, none, none, none, none, none]) rfl ?_
  refine ⟨_, rfl, ?_⟩
  refine at_g (σ' := [some v, some u, some (.str (wS r)), some (.ref D), some (.ref D), none, none, none, none, none, none]) rfl ?_
  have cb : ∀ g : Rf, cnt c r g ≤ 10 := fun g => by
    unfold cnt
    have := List.length_filter_le (fun j : Nat => (g (j : Int)).isNone) (List.range (basW r c).toNat)
    rw [List.length_range] at this; omega
  have kl : kvs.length ≤ 10 := by omega
  refine ⟨fun m σ H5 => ∃ (D G : Addr) (kvs gk : List (Key × V)) (g : Rf) (d : Nat) (y5 y6 y7 y8 y9 y10 : Option V), σ = [some v, some u, some (.str (wS r)), some (.ref D), some (.ref G), y5, y6, y7, y8, y9, y10] ∧ Same H H5 ∧ H D = none ∧ RoAt H H5 D r g kvs ∧ RI c s r d g ∧ LeF c s r g ∧ H5 G = some (.dK gk) ∧ (gk = [] → Rd c s r g) ∧ kvs.length + 12 * cnt c r g ≤ 130 ∧ m = 2 * cnt c r g + (if gk.isEmpty = true then 0 else 1),
    ⟨_, D, D, kvs, kvs, f0 c s r, 0, none, none, none, none, none, none, rfl, s5, nD, ro, ri0, le0, ro.e, fun e => ri0.empty fun j => by rw [e] at ro; exact ro.nil j, by have := cb (f0 c s r); omega, rfl⟩, fun m σ H5 hW => ?_⟩
  clear ro s5 nD ef hl kl kvs D
  obtain ⟨D, G0, kvs, gk0, f, d, y5, y6, y7, y8, y9, y10, rfl, s5, nD, ro, ri, leF, eG0, hdone, hlen, rfl⟩ := hW
  refine ⟨_, rfl, _, .inr (.inr ⟨gk0, eG0, rfl⟩), ?_⟩
  cases gk0 with
  | nil => exact iteF ⟨_, rfl, q D f kvs H5 s5 nD ro ⟨hdone rfl, leF⟩⟩
  | cons p0 gr =>
    refine iteT ⟨fun σ' H' => ∃ m', m' < 2 * cnt c r f + 1 ∧ ∃ (D G : Addr) (kvs gk : List (Key × V)) (g : Rf) (d : Nat) (y5 y6 y7 y8 y9 y10 : Option V), σ' = [some v, some u, some (.str (wS r)), some (.ref D), some (.ref G), y5, y6, y7, y8, y9, y10] ∧ Same H H' ∧ H D = none ∧ RoAt H H' D r g kvs ∧ RI c s r d g ∧ LeF c s r g ∧ H' G = some (.dK gk) ∧ (gk = [] → Rd c s r g) ∧ kvs.length + 12 * cnt c r g ≤ 130 ∧ m' = 2 * cnt c r g + (if gk.isEmpty = true then 0 else 1), fun σ' H' z => z, ?_⟩
    -- a new dict
    intro G nG
    refine at_g (σ' := [some v, some u, some (.str (wS r)), some (.ref D), some (.ref G), y5, y6, y7, y8, y9, y10]) rfl ?_
    have sG := same_new nG (o := .dK [])
    have roG : RoAt H (upd H5 G (.dK [])) G r (fun _ => none) [] := ⟨upd_same, List.nodup_nil, (fun k hk => by cases hk), fun j => .inl ⟨rfl, rfl⟩⟩
    generalize upd H5 G (.dK []) = H6 at sG roG
    obtain ⟨a, g', vs, rfl, ha, hg, hvl, _⟩ := hc.ex
    have s6 := s5.trans sG
    refine ⟨_, rfl, a, _, _, _, rfl, rfl, Same.sq2 s6 ha, rfl, g', vs, rfl, Same.sq2 s6 hg, _, rfl, by omega, by omega, for_it walk_range (fun n σ H7 => ∃ (gk : List (Key × V)) (g : Rf) (y5 y6 y7 y8 y9 y10 : Option V), σ = [some (.ref a), some u, some (.str (wS r)), some (.ref D), some (.ref G), y5, y6, y7, y8, y9, y10] ∧ Same H5 H7 ∧ RoAt H H7 G r g gk ∧ GI c s r f n g ∧ LkG c s r f n g ∧ gk.length ≤ n) ⟨[], fun _ => none, y5, y6, y7, y8, y9, y10, rfl, sG, roG, ⟨(fun j ks h => by cases h), fun i row hi => absurd hi (Nat.not_lt_zero _)⟩, (fun i row hi => absurd hi (Nat.not_lt_zero _)), Nat.le_refl _⟩ (fun _ _ _ _ _ => trivial) (fun n x σ H7 H8 hn h hy => ?_) (fun σ H7 h => ?_)⟩
    · obtain ⟨gk, g, y5, y6, y7, y8, y9, y10, rfl, s7, roG7, gi, lk, hgl⟩ := h
      obtain ⟨rfl, rfl⟩ := hy
      have hn' : n < c.ls.length := by rw [← hvl]; exact hn
      have hns : n < s.ls.length := by rw [ok.n]; exact hn'
      refine at_g (σ' := [some (.ref a), some u, some (.str (wS r)), some (.ref D), some (.ref G), some (.int (n : Nat)), y6, y7, y8, y9, y10]) (by show _ = [some (V.ref a), some u, some (V.str (wS r)), some (V.ref D), some (V.ref G), some (V.int (n : Nat)), y6, y7, y8, y9, y10]; rw [← Int.zero_add (n : Int)]; rfl) ?_
      have s07 := s5.trans s7
      refine ⟨_, rfl, _, rfl, _, rfl, _, rfl, nil_go ⟨_, u, n, r, c, s, rfl, hc.same s07, (snAny_t hu).same s07, hn', hns, fun p H8 s8 np ep => ?_⟩⟩
      refine ⟨p, _, rfl, .inr (.inl (.inl ep)), rfl, _, _, rfl, _, _, rfl, rfl, ?_⟩
      refine at_s (σ' := [some (.ref a), some u, some (.str (wS r)), some (.ref D), some (.ref G), some (.int (n : Nat)), some (.int (fromTo c s n r).1), some (.int (fromTo c s n r).2), y8, y9, y10]) rfl ?_
      have s58 := s7.trans s8
      have roD8 := ro.move s58
      have roG8 := roG7.move s8
      have skip : (∀ row, f (fromTo c s n r).1 = some row → f (fromTo c s n r).2 ≠ none) → GI c s r f (n + 1) g := fun hsk => ⟨gi.new, fun i row hi h1 h2 => by
        by_cases e : i < n
        · exact gi.cov i row e h1 h2
        · obtain rfl : i = n := by omega
          exact absurd h2 (hsk row h1)⟩
      refine ⟨_, rfl, _, rfl, D, _, rfl, DGet.k (k := .inl (fromTo c s n r).1) roD8.e, _, rfl, ?_⟩
      rcases roD8.v (fromTo c s n r).1 with ⟨h1, h2⟩ | ⟨la, lus, row, h1, h2, h3, h4⟩
      · rw [h1]
        exact iteF (iteF ⟨gk, g, _, _, _, _, _, _, rfl, s58, roG8, skip (fun row h => by rw [h2] at h; cases h), lk_skip lk (fun row h => by rw [h2] at h; cases h), by omega⟩)
      · rw [h1]
        refine iteT ⟨_, rfl, _, rfl, D, _, rfl, DGet.k (k := .inl (fromTo c s n r).2) roD8.e, _, rfl, ?_⟩
        rcases roD8.v (fromTo c s n r).2 with ⟨k1, k2⟩ | ⟨ka, kus, krow, k1, k2, k3, k4⟩
        · rw [k1]
          refine iteT ?_
          have gD : DGet H8 D (.int (fromTo c s n r).1) (some (.ref la)) := by
            have := DGet.k (k := .inl (fromTo c s n r).1) roD8.e
            rw [h1] at this; exact this
          refine ⟨_, rfl, _, rfl, D, _, rfl, gD, _, rfl, _, rfl, (by show 2 ≤ sizeLine; decide), fun T nT => ⟨(by show 1 ≤ sizeLine; decide), fun L nL => ?_⟩⟩
          have sT := same_new nT (o := .tup [.int (n : Nat), .str (wS r)])
          have eT : (upd H8 T (.tup [.int (n : Nat), .str (wS r)])) T = some (.tup [.int (n : Nat), .str (wS r)]) := upd_same
          generalize upd H8 T (.tup [.int (n : Nat), .str (wS r)]) = H9 at sT eT nL
          have sL := same_new nL (o := .lst [.ref T])
          have eL : (upd H9 L (.lst [.ref T])) L = some (.lst [.ref T]) := upd_same
          generalize upd H9 L (.lst [.ref T]) = H10 at sL eL
          have s810 := sT.trans sL
          have h3b := h3.move (s810 _ _ h3.e) (Tp.of s810)
          have hlus : lus.length ≤ 10 := by rw [h3b.l]; unfold rowOf; rw [List.length_map]; have := (ri.rng _ _ h2).2; have := ri.ct _ _ h2; omega
          refine ⟨la, L, _, _, rfl, rfl, h3b.e, eL, Nat.le_of_lt (small1000' (by show _ + 1 ≤ 1000; omega)), fun R nR => ?_⟩
          refine at_s (σ' := [some (.ref a), some u, some (.str (wS r)), some (.ref D), some (.ref G), some (.int (n : Nat)), some (.int (fromTo c s n r).1), some (.int (fromTo c s n r).2), some (.ref R), y9, y10]) rfl ?_
          have sR := same_new nR (o := .lst (lus ++ [.ref T]))
          have eR : (upd H10 R (.lst (lus ++ [.ref T]))) R = some (.lst (lus ++ [.ref T])) := upd_same
          generalize upd H10 R (.lst (lus ++ [.ref T])) = H11 at sR eR
          have s811 := s810.trans sR
          have MR : MvAt H11 R (rowOf r (row ++ [n])) (lus ++ [.ref T]) := by
            rw [rowOf_snoc]
            refine ⟨eR, by rw [List.length_append, List.length_append, h3b.l]; rfl, fun j y hj => ?_⟩
            by_cases e : j < lus.length
            · rw [List.getElem?_append_left e] at hj
              obtain ⟨t', m', e1, e2, e3⟩ := h3b.d j y hj
              exact ⟨t', m', e1, by rw [List.getElem?_append_left (by rw [← h3b.l]; exact e)]; exact e2, sR _ _ e3⟩
            · rw [List.getElem?_append_right (by omega)] at hj
              have hj0 : j - lus.length = 0 := by
                have := (List.getElem?_eq_some_iff.mp hj).1
                simp at this; omega
              rw [hj0] at hj
              obtain rfl : V.ref T = y := Option.some.inj hj
              exact ⟨T, (n, r), rfl, by rw [List.getElem?_append_right (by rw [← h3b.l]; omega), ← h3b.l, hj0]; rfl, sR _ _ (sL _ _ eT)⟩
          have roG11 := roG8.move s811
          have hRG : R ≠ G := fun z => by rw [z, (roG8.move s810).e] at nR; cases nR
          have s511 := s58.trans s811
          have dpm : ∀ {x : Addr} {ks : List Nat} {us : List V}, MvAt H11 x (rowOf r ks) us → Dp K H11 (.ref x) (.list ((rowOf r ks).map mvD)) := fun {x ks us} M => .lst (SqL.of M.e) (MvAt.dp (a := x) M.l M.d)
          have fin : ∀ (va : Addr) (vus : List V) (vks : List Nat), MvAt H11 va (rowOf r vks) vus → va ≠ G ∧ H va = none → (∃ row i, vks = row ++ [i] ∧ i < c.ls.length ∧ (fromTo c s i r).2 = (fromTo c s n r).2 ∧ f (fromTo c s i r).1 = some row) → rle r vks (row ++ [n]) → (∀ k0, g (fromTo c s n r).2 = some k0 → rle r vks k0) → ∃ (gk' : List (Key × V)) (g : Rf) (y5' y6' y7' y8' y9' y10' : Option V), [some (V.ref a), some u, some (V.str (wS r)), some (V.ref D), some (V.ref G), some (.int (n : Nat)), some (.int (fromTo c s n r).1), some (.int (fromTo c s n r).2), some (.ref R), y9, y10] = [some (V.ref a), some u, some (V.str (wS r)), some (V.ref D), some (V.ref G), y5', y6', y7', y8', y9', y10'] ∧ Same H5 (upd H11 G (.dK (putK gk (.inl (fromTo c s n r).2) (.ref va)))) ∧ RoAt H (upd H11 G (.dK (putK gk (.inl (fromTo c s n r).2) (.ref va)))) G r g gk' ∧ GI c s r f (n + 1) g ∧ LkG c s r f (n + 1) g ∧ gk'.length ≤ n + 1 := by
            intro va vus vks M hva hnew hle hlo
            refine ⟨_, fun j => if j = (fromTo c s n r).2 then some vks else g j, _, _, _, _, _, _, rfl, fun x o e => by rw [upd_ne (ne_of_none e nG)]; exact s511 _ _ e, ⟨upd_same, nodup_put roG11.n, key_put roG11.k, fun j => ?_⟩, ⟨fun j ks h => ?_, fun i row' hi h1' h2' => ?_⟩, lk_put lk h2 hle hlo, by have := length_putK gk (.inl (fromTo c s n r).2) (.ref va); omega⟩
            · rw [valV_put]
              by_cases e : j = (fromTo c s n r).2
              · subst e
                refine .inr ⟨va, vus, vks, by rw [if_pos rfl], by rw [if_pos rfl], M.move (by rw [upd_ne hva.1]; exact M.e) (tp_dk roG11.e), hva⟩
              · rw [if_neg (fun z => e (Sum.inl.inj z)), if_neg e]
                rcases roG11.v j with h | ⟨a', us', ks', x1, x2, x3, x4⟩
                · exact .inl h
                · exact .inr ⟨a', us', ks', x1, x2, x3.move (by rw [upd_ne x4.1]; exact x3.e) (tp_dk roG11.e), x4⟩
            · by_cases e : j = (fromTo c s n r).2
              · rw [if_pos e] at h
                obtain rfl := Option.some.inj h
                obtain ⟨row', i, z1, z2, z3, z4⟩ := hnew
                exact ⟨by rw [e]; exact k2, row', i, z1, z2, by rw [e]; exact z3, z4⟩
              · rw [if_neg e] at h
                exact gi.new j ks h
            · by_cases e : (fromTo c s i r).2 = (fromTo c s n r).2
              · show (if (fromTo c s i r).2 = (fromTo c s n r).2 then some vks else g (fromTo c s i r).2) ≠ none
                rw [if_pos e]; exact fun z => nomatch z
              · show (if (fromTo c s i r).2 = (fromTo c s n r).2 then some vks else g (fromTo c s i r).2) ≠ none
                rw [if_neg e]
                by_cases e' : i < n
                · exact gi.cov i row' e' h1' h2'
                · obtain rfl : i = n := by omega
                  exact absurd rfl e
          have newR : ∃ row' i, row ++ [n] = row' ++ [i] ∧ i < c.ls.length ∧ (fromTo c s i r).2 = (fromTo c s n r).2 ∧ f (fromTo c s i r).1 = some row' := ⟨row, n, rfl, hn', rfl, h2⟩
          have lt0 : gk.length < sizeLine := small1000' (by omega)
          refine ⟨_, rfl, G, rfl, .inl ⟨gk, .inl roG11.e⟩, _, rfl, _, rfl, _, DGet.k (k := .inl (fromTo c s n r).2) roG11.e, _, rfl, ?_⟩
          rcases roG11.v (fromTo c s n r).2 with ⟨x1, x2⟩ | ⟨a', us', ks', x1, x2, x3, x4⟩
          · rw [x1]
            refine ⟨_, _, _, _, rfl, dpm MR, dpm MR, row_alike2 r _ _, row_depth r _ _, ?_⟩
            rw [show ∀ b : Bool, (if b = true then V.ref R else (none : Option V).getD (V.ref R)) = V.ref R from fun b => by cases b <;> rfl]
            exact ⟨_, rfl, _, rfl, G, _, rfl, .inl ⟨gk, .inl (fromTo c s n r).2, roG11.e, rfl, lt0, rfl⟩, fin R _ _ MR ⟨hRG, (s5.trans (s58.trans s810)).free nR⟩ newR (rle_refl r _) (fun k0 e => by rw [x2] at e; cases e)⟩
          · rw [x1]
            refine ⟨_, _, _, _, rfl, dpm x3, dpm MR, row_alike2 r _ _, row_depth r _ _, ?_⟩
            cases edl : PySem.W.dataLt (.list ((rowOf r (row ++ [n])).map mvD)) (.list ((rowOf r ks').map mvD)) with
            | true => exact ⟨_, rfl, _, rfl, G, _, rfl, .inl ⟨gk, .inl (fromTo c s n r).2, roG11.e, rfl, lt0, rfl⟩, fin R _ _ MR ⟨hRG, (s5.trans (s58.trans s810)).free nR⟩ newR (rle_refl r _) (fun k0 e => by rw [x2] at e; rw [← Option.some.inj e]; have z := (rle_min r ks' (row ++ [n])).1; rw [if_pos (show rlt r (row ++ [n]) ks' = true from edl)] at z; exact z)⟩
            | false =>
              obtain ⟨_, row', i, z1, z2, z3, z4⟩ := gi.new _ _ x2
              exact ⟨_, rfl, _, rfl, G, _, rfl, .inl ⟨gk, .inl (fromTo c s n r).2, roG11.e, rfl, lt0, rfl⟩, fin a' _ _ x3 x4 ⟨row', i, z1, z2, z3, z4⟩ edl (fun k0 e => by rw [x2] at e; rw [← Option.some.inj e]; exact rle_refl r _)⟩
        · rw [k1]
          exact iteF ⟨gk, g, _, _, _, _, _, _, rfl, s58, roG8, skip (fun row h e => by rw [k2] at e; cases e), lk_skip lk (fun row h e => by rw [k2] at e; cases e), by omega⟩
    · obtain ⟨gk, g, y5, y6, y7, y8, y9, y10, rfl, s7, roG7, gi, lk, hgl⟩ := h
      rw [hvl] at gi lk hgl
      have roD7 := ro.move s7
      intro p np
      have hDp : D ≠ p := fun z => by rw [← z, roD7.e] at np; cases np
      have hGp : G ≠ p := fun z => by rw [← z, roG7.e] at np; cases np
      refine ⟨_, rfl, D, kvs, rfl, hDp, upd_same, by rw [upd_ne hDp]; exact roD7.e, by omega, _, rfl, G, gk, rfl, hGp, upd_same, by rw [upd_ne hGp, upd_ne hGp]; exact roG7.e, by omega, ?_⟩
      refine at_g (σ' := [some (.ref a), some u, some (.str (wS r)), some (.ref p), some (.ref G), y5, y6, y7, y8, y9, y10]) rfl ?_
      rw [upd_upd, upd_upd]
      have sp := same_new np (o := .dK (mergeK (mergeK [] kvs) gk))
      have hnd : ((mergeK [] kvs).map (·.1)).Nodup := nodup_merge (more := kvs) List.nodup_nil
      have roP : RoAt H (upd H7 p (.dK (mergeK (mergeK [] kvs) gk))) p r (both g f) (mergeK (mergeK [] kvs) gk) := by
        refine ⟨upd_same, nodup_merge hnd, key_merge roG7.k (key_merge roD7.k (fun k hk => by cases hk)), fun j => ?_⟩
        rw [valV_merge _ roG7.n, valV_merge _ roD7.n]
        rcases roG7.v j with ⟨h1, h2⟩ | ⟨la, lus, row, h1, h2, h3, h4⟩
        · rw [h1, both_none h2]
          rcases roD7.v j with ⟨k1, k2⟩ | ⟨ka, kus, krow, k1, k2, k3, k4⟩
          · rw [k1]; exact .inl ⟨rfl, k2⟩
          · rw [k1]
            exact .inr ⟨ka, kus, krow, rfl, k2, k3.move (sp _ _ k3.e) (Tp.of sp), (fun z => by rw [← z, k3.e] at np; cases np), k4.2⟩
        · rw [h1, both_some h2]
          exact .inr ⟨la, lus, row, rfl, rfl, h3.move (sp _ _ h3.e) (Tp.of sp), (fun z => by rw [← z, h3.e] at np; cases np), h4.2⟩
      have eG := sp _ _ roG7.e
      have nP : H p = none := (s5.trans s7).free np
      have ln := length_mergeK gk (mergeK [] kvs)
      have ln2 := length_mergeK kvs []
      rw [List.length_nil] at ln2
      have sH := (s5.trans s7).trans sp
      cases gk with
      | nil =>
        have gn : ∀ j, g j = none := fun j => roG7.nil j
        rw [both_empty gn] at roP
        refine ⟨2 * cnt c r f + 0, by omega, p, G, _, [], f, d, _, _, _, _, _, _, rfl, sH, nP, roP, ri, leF, eG, fun _ => ri.done gi gn, ?_, rfl⟩
        rw [List.length_nil] at ln; omega
      | cons pg gr' =>
        obtain ⟨j0, k0, h0⟩ := roG7.some
        obtain ⟨ri', hcn⟩ := ri.step okc gi h0
        refine ⟨2 * cnt c r (both g f) + 1, by omega, p, G, _, _, both g f, d + 1, _, _, _, _, _, _, rfl, sH, nP, roP, ri', le_step ri leF gi lk, eG, (fun z => by cases z), ?_, rfl⟩
        omega
end
end XL
namespace XL
open PySem PySem.Spec PyProof.Rows L2
/-! ### there are roads -/
section
variable {c : Cn} {s : Sn} {r : Bool} {W U : Nat}
theorem gi_ex (f : Rf) : ∃ g, GI c s r f c.ls.length g := by
  classical
  let Pq : Int → Prop := fun j => f j = none ∧ ∃ (i : Nat) (row : List Nat), i < c.ls.length ∧ (fromTo c s i r).2 = j ∧ f (fromTo c s i r).1 = some row
  have ch : ∀ j, ∃ o : Option (List Nat), (Pq j → ∃ i row, o = some (row ++ [i]) ∧ i < c.ls.length ∧ (fromTo c s i r).2 = j ∧ f (fromTo c s i r).1 = some row) ∧ (¬ Pq j → o = none) := fun j => by
    by_cases h : Pq j
    · obtain ⟨_, i, row, h1, h2, h3⟩ := h
      exact ⟨some (row ++ [i]), fun _ => ⟨i, row, rfl, h1, h2, h3⟩, fun z => absurd ⟨by assumption, i, row, h1, h2, h3⟩ z⟩
    · exact ⟨none, fun z => absurd z h, fun _ => rfl⟩
  refine ⟨fun j => Classical.choose (ch j), fun j ks e => ?_, fun i row hi h1 h2 => ?_⟩
  · have sp := Classical.choose_spec (ch j)
    by_cases h : Pq j
    · obtain ⟨i, row, e1, e2, e3, e4⟩ := sp.1 h
      have e' : Classical.choose (ch j) = some ks := e
      rw [e1] at e'
      exact ⟨h.1, row, i, (Option.some.inj e').symm, e2, e3, e4⟩
    · have e' : Classical.choose (ch j) = some ks := e
      rw [sp.2 h] at e'; cases e'
  · have sp := Classical.choose_spec (ch (fromTo c s i r).2)
    obtain ⟨i', row', e1, _⟩ := sp.1 ⟨h2, i, row, hi, rfl, h1⟩
    show Classical.choose (ch (fromTo c s i r).2) ≠ none
    rw [e1]; exact fun z => nomatch z
theorem ri_ex (okc : okCn W U c) : ∀ (k d : Nat) (f : Rf), cnt c r f ≤ k → RI c s r d f → ∃ f', Rd c s r f'
  | k, d, f, hk, R => by
    obtain ⟨g, G⟩ := gi_ex (c := c) (s := s) (r := r) f
    by_cases h : ∃ j0 k0, g j0 = some k0
    · obtain ⟨j0, k0, h0⟩ := h
      obtain ⟨R', hc⟩ := R.step okc G h0
      match k, hk with
      | 0, hk => omega
      | k + 1, hk => exact ri_ex okc k (d + 1) _ (by omega) R'
    · refine ⟨f, R.done G fun j => ?_⟩
      cases e : g j with
      | none => rfl
      | some ks => exact absurd ⟨j, ks, e⟩ h
theorem rd_ex (okc : okCn W U c) : ∃ f, Rd c s r f := ri_ex okc _ 0 _ (Nat.le_refl _) ri0
end
end XL
namespace XL
open PySem PySem.Spec PyProof.Rows L2
/-! ### where leads says so, a row leads there -/
theorem arg_min {α : Type} (f : α → Nat) : ∀ {L : List α}, L ≠ [] → ∃ l ∈ L, ∀ i ∈ L, f l ≤ f i
  | [x], _ => ⟨x, List.mem_cons_self .., fun i hi => by rw [List.mem_singleton.mp hi]; exact Nat.le_refl _⟩
  | x :: y :: L, _ => by
    obtain ⟨l, hl, h⟩ := arg_min f (L := y :: L) (by simp)
    by_cases q : f x ≤ f l
    · refine ⟨x, List.mem_cons_self .., fun i hi => ?_⟩
      rcases List.mem_cons.mp hi with rfl | hi
      · exact Nat.le_refl _
      · exact Nat.le_trans q (h i hi)
    · refine ⟨l, List.mem_cons_of_mem _ hl, fun i hi => ?_⟩
      rcases List.mem_cons.mp hi with rfl | hi
      · omega
      · exact h i hi
section
variable {c : Cn} {r : Bool} {W U : Nat} {s1 s2 : Sn} {B1 B2 : Int} {f : Rf}
theorem rows_r (ks : List Nat) : ∀ m ∈ rowOf r ks, m.2 = r := fun m hm => by obtain ⟨i, _, rfl⟩ := List.mem_map.mp hm; rfl
theorem all_app {a b : List Mv} (h : ∀ m ∈ a, m.2 = r) (g : ∀ m ∈ b, m.2 = r) : ∀ m ∈ a ++ b, m.2 = r := fun m hm => by
  rcases List.mem_append.mp hm with z | z
  · exact h m z
  · exact g m z
theorem ra_ex (okc : okCn W U c) (ok1 : okSn c B1 s1) (ok2 : okSn c B2 s2) (al1 : Alone s1 r) (al2 : Alone s2 r) (rd : Rd c s1 r f) (haw : AwakeE c s1 s2 r f) : ∀ (m : Nat) (row : List Mv) (left ks : List Nat), 3 * left.length + (if ks = [] then 1 else if left.any (fun i => hasB c (runS c s1 row) i r) = true then 0 else 2) ≤ m → okRun c s1 row → (∀ m ∈ row, m.2 = r) → RA c r s2 (runS c s1 row) left ks → (∀ i ∈ left, i ∈ ul s1 s2 c.ls.length) → ∃ ms, okRun c s1 ms ∧ (∀ m ∈ ms, m.2 = r) ∧ runS c s1 ms = s2
  | m, row, left, ks, hm, okr, al, R, hsub => by
    by_cases hle : left = []
    · subst hle
      obtain ⟨okE, eE⟩ := R.end_ okc ok2 (alone_run row al1 al) al2
      exact ⟨row ++ rowOf r ks.reverse, okRun_app.mpr ⟨okr, okE⟩, all_app al (rows_r _), by rw [runS_app]; exact eE⟩
    · have hl0 : 0 < left.length := List.length_pos_iff.mpr hle
      by_cases hrd : ∃ l ∈ left, hasB c (runS c s1 row) l r = true
      · obtain ⟨l, hl, hB⟩ := hrd
        have hel : (left.erase l).length = left.length - 1 := List.length_erase_of_mem hl
        have h2 : (if ks = [] then 1 else if (left.erase l).any (fun i => hasB c (runS c s1 (row ++ [(l, r)])) i r) = true then 0 else 2) ≤ 2 := by split; decide; split <;> decide
        match m, hm with
        | 0, hm => omega
        | m + 1, hm =>
          refine ra_ex okc ok1 ok2 al1 al2 rd haw m (row ++ [(l, r)]) (left.erase l) ks (by omega) (okRun_app.mpr ⟨okr, ⟨⟨R.lt l hl, hB⟩, trivial⟩⟩) (all_app al fun m hm => by rw [List.mem_singleton.mp hm]) (by rw [runS_app]; exact R.go okc ok2 hl hB) fun i hi => hsub i (List.mem_of_mem_erase hi)
      · have hno : ∀ i ∈ left, hasB c (runS c s1 row) i r = false := fun i hi => by
          cases e : hasB c (runS c s1 row) i r with
          | false => rfl
          | true => exact absurd ⟨i, hi, e⟩ hrd
        have hany : left.any (fun i => hasB c (runS c s1 row) i r) = false := by
          rw [List.any_eq_false]
          intro i hi
          rw [hno i hi]; decide
        by_cases hk : ks = []
        · subst hk
          rw [if_pos rfl] at hm
          obtain ⟨g, rg⟩ := rd_ex (s := runS c s1 row) (r := r) okc
          have aw : ∀ i ∈ left, g (fromTo c (runS c s1 row) i r).1 ≠ none := fun i hi => by
            have h := haw i (hsub i hi)
            have d := dom_eq okc ok1 okr al rd rg
            rcases fromTo_ends c (runS c s1 row) i r with e | e <;> rw [e]
            · exact fun z => h.1 ((d _).mpr z)
            · exact fun z => h.2 ((d _).mpr z)
          obtain ⟨l, hl, hmin⟩ := arg_min (fun i => ((g (fromTo c (runS c s1 row) i r).1).getD []).length) hle
          cases e : g (fromTo c (runS c s1 row) l r).1 with
          | none => exact absurd e (aw l hl)
          | some k2 =>
            obtain ⟨kne, okM, raO, rdy⟩ := R.out okc ok2 hno rg hl e (fun i hi k3 e3 => by have := hmin i hi; rw [e, e3] at this; exact this)
            match m, hm with
            | 0, hm => omega
            | m + 1, hm =>
              refine ra_ex okc ok1 ok2 al1 al2 rd haw m (row ++ rowOf r k2) left k2 ?_ (okRun_app.mpr ⟨okr, okM⟩) (all_app al (rows_r _)) (by rw [runS_app]; exact raO) hsub
              rw [if_neg kne, if_pos (List.any_eq_true.mpr ⟨l, hl, by rw [runS_app]; exact rdy⟩)]
              omega
        · rw [if_neg hk, hany] at hm
          have hm' : 3 * left.length + 2 ≤ m := hm
          obtain ⟨okM, raB⟩ := R.back okc ok2 hno
          match m, hm' with
          | 0, hm' => omega
          | m + 1, hm' =>
            refine ra_ex okc ok1 ok2 al1 al2 rd haw m (row ++ rowOf r ks.reverse) left [] ?_ (okRun_app.mpr ⟨okr, okM⟩) (all_app al (rows_r _)) (by rw [runS_app]; exact raB) hsub
            rw [if_pos rfl]
            omega
/-- leads by its own words: a row leads there -/
theorem row_ex (okc : okCn W U c) (ok1 : okSn c B1 s1) (ok2 : okSn c B2 s2) (al1 : Alone s1 r) (al2 : Alone s2 r) (rd : Rd c s1 r f) (hb : bbL c s1 s2 r = boatsW r s2) (haw : AwakeE c s1 s2 r f) : ∃ ms, okRun c s1 ms ∧ (∀ m ∈ ms, m.2 = r) ∧ runS c s1 ms = s2 :=
  ra_ex okc ok1 ok2 al1 al2 rd haw _ [] _ [] (Nat.le_refl _) trivial (fun m hm => by cases hm) (RA.start okc ok1 ok2 hb) fun i hi => hi
end
end XL
namespace XL
open PySem PySem.Spec PyProof.Rows L2
section
variable {c : Cn} {r : Bool} {W U : Nat} {s1 s2 s3 : Sn} {B1 B2 : Int} {f : Rf}
/-- a row of one water leads from the one to the other -/
def Reach (c : Cn) (r : Bool) (s1 s2 : Sn) : Prop := ∃ ms, okRun c s1 ms ∧ (∀ m ∈ ms, m.2 = r) ∧ runS c s1 ms = s2
theorem leads_iff (okc : okCn W U c) (ok1 : okSn c B1 s1) (ok2 : okSn c B2 s2) (al1 : Alone s1 r) (al2 : Alone s2 r) (rd : Rd c s1 r f) : (bbL c s1 s2 r = boatsW r s2 ∧ AwakeE c s1 s2 r f) ↔ Reach c r s1 s2 := by
  constructor
  · exact fun h => row_ex okc ok1 ok2 al1 al2 rd h.1 h.2
  · rintro ⟨ms, okr, hw, rfl⟩
    refine ⟨behind_eq okc ok1 okr hw, fun i hi => ?_⟩
    obtain ⟨_, h2⟩ := ul_lt hi
    rcases run_unlike (c := c) (r := r) (s := s1) ms s1 hw i h2 with z | ⟨m, hm, e⟩
    · exact absurd rfl z
    · have := (clo_run okc ms s1 _ ok1 okr hw rd.clo).2 m hm
      rw [e] at this
      exact this
theorem Reach.symm (okc : okCn W U c) (ok1 : okSn c B1 s1) (h : Reach c r s1 s2) : Reach c r s2 s1 := by
  obtain ⟨ms, okr, hw, rfl⟩ := h
  obtain ⟨a, b⟩ := run_back okc ok1 okr
  exact ⟨ms.reverse, a, run_all hw, b⟩
theorem Reach.trans (h : Reach c r s1 s2) (g : Reach c r s2 s3) : Reach c r s1 s3 := by
  obtain ⟨ms, okr, hw, rfl⟩ := h
  obtain ⟨ns, okn, hn, e⟩ := g
  exact ⟨ms ++ ns, okRun_app.mpr ⟨okr, okn⟩, all_app hw hn, by rw [runS_app]; exact e⟩
end
end XL
namespace XL
open PySem PySem.Spec PyProof.Rows L2
theorem boot_repr' : bootBuiltins "repr" = some (.builtin "repr") := by decide +kernel
theorem sn_shaped (s : Sn) : SeqAt.shaped (snD s) = true := by
  have h1 := idep' s.rs; have h2 := idep' s.bs; have h3 := idep' s.ls
  have a1 := ilay' s.rs; have a2 := ilay' s.bs; have a3 := ilay' s.ls
  show (PyData.canLay0 (snD s) && decide (PyData.depth (snD s) ≤ 64)) = true
  unfold snD intsD
  simp [PyData.canLay0, PyData.canLayAll0, PyData.depth, PyData.depthAll, a1, a2, a3]
  omega
theorem int_eqv' (zs : List Int) : PyData.eqvAll (intsD zs) (intsD zs) = true := by
  induction zs with
  | nil => simp [intsD, PyData.eqvAll]
  | cons z zs ih =>
    unfold intsD at ih ⊢
    simp [PyData.eqvAll, PyData.eqv, ih]
theorem sn_eqv (s : Sn) : PyData.eqv (snD s) (snD s) = true := by
  unfold snD
  simp [PyData.eqv, PyData.eqvAll, int_eqv']
/-! ### how often a lock turns -/
theorem flip_gtj {zs : List Int} {i j : Nat} (hi : i < zs.length) : gt (flip1 zs j) (i : Int) = if j = i then 1 - gt zs (i : Int) else gt zs (i : Int) := by
  unfold flip1 gt
  rw [show ((i : Int)).toNat = i by omega, List.getD_eq_getElem?_getD, List.getD_eq_getElem?_getD, List.getElem?_set]
  by_cases h : j = i
  · subst h
    rw [if_pos rfl, if_pos rfl, if_pos hi, show ((j : Int)).toNat = j by omega]
    rw [List.getD_eq_getElem?_getD]; rfl
  · rw [if_neg h, if_neg h, List.getD_eq_getElem?_getD]
theorem flips_par {i : Nat} : ∀ (ms : List Mv) (zs : List Int), i < zs.length → gt (ms.foldl (fun z m => flip1 z m.1) zs) (i : Int) = if (ms.filter fun m => decide (m.1 = i)).length % 2 = 0 then gt zs (i : Int) else 1 - gt zs (i : Int)
  | [], zs, _ => rfl
  | m :: ms, zs, h => by
    rw [List.foldl_cons, flips_par ms _ (by rw [flip_len]; exact h), flip_gtj h]
    by_cases e : m.1 = i
    · rw [if_pos e, List.filter_cons_of_pos (by rw [decide_eq_true_eq]; exact e), List.length_cons]
      by_cases p : (ms.filter fun m => decide (m.1 = i)).length % 2 = 0
      · rw [if_pos p, if_neg (by omega)]
      · rw [if_neg p, if_pos (by omega)]; omega
    · rw [if_neg e, List.filter_cons_of_neg (by rw [decide_eq_true_eq]; exact e)]
theorem run_fl {c : Cn} : ∀ (ms : List Mv) (s : Sn), (runS c s ms).ls = ms.foldl (fun z m => flip1 z m.1) s.ls
  | [], s => rfl
  | m :: ms, s => by
    show (runS c (goneS c s m.1 m.2) ms).ls = _
    rw [run_fl ms, goneS_ls]; rfl
/-- an odd number of times just where the lock stands otherwise -/
theorem odd_iff {c : Cn} {s : Sn} {ms : List Mv} {i : Nat} (h : i < s.ls.length) (h01 : ∀ x ∈ s.ls, x = 0 ∨ x = 1) : (((ms.filter fun m => decide (m.1 = i)).length : Nat) : Int) % 2 = if gt s.ls (i : Int) ≠ gt (runS c s ms).ls (i : Int) then 1 else 0 := by
  rw [run_fl, flips_par ms _ h]
  have hm := h01 _ (gt_mem (zs := s.ls) (j := (i : Int)) (by omega) (by omega))
  by_cases p : (ms.filter fun m => decide (m.1 = i)).length % 2 = 0
  · rw [if_pos p, if_neg (by simp)]; omega
  · rw [if_neg p, if_pos (by rcases hm with z | z <;> rw [z] <;> decide)]; omega
/-! ### leads as one truth -/
section
variable {c : Cn} {r : Bool} {s1 s2 s3 : Sn} {B1 B2 B3 : Int}
noncomputable def rB (c : Cn) (r : Bool) (s1 s2 : Sn) : Bool := @decide (Reach c r s1 s2) (Classical.propDecidable _)
theorem rB_iff : rB c r s1 s2 = true ↔ Reach c r s1 s2 := by unfold rB; exact @decide_eq_true_iff _ (Classical.propDecidable _)
theorem rB_of {b : Bool} (h : b = true ↔ Reach c r s1 s2) : b = rB c r s1 s2 := by rw [Bool.eq_iff_iff, h, rB_iff]
theorem rB_symm (okc : okCn 10 12 c) (ok1 : okSn c B1 s1) (ok2 : okSn c B2 s2) : rB c r s1 s2 = rB c r s2 s1 := by
  rw [Bool.eq_iff_iff, rB_iff, rB_iff]
  exact ⟨fun h => h.symm okc ok1, fun h => h.symm okc ok2⟩
theorem rB_trans (okc : okCn 10 12 c) (ok1 : okSn c B1 s1) (h : rB c r s1 s2 = true) : rB c r s1 s3 = rB c r s2 s3 := by
  rw [Bool.eq_iff_iff, rB_iff, rB_iff]
  have h := rB_iff.mp h
  exact ⟨fun g => (h.symm okc ok1).trans g, fun g => h.trans g⟩
end
section
variable {P : Program} {w : World} {K : PySem.W.Frag} {mg : Str → Option Value} {base : Heap}
theorem le_go {H : Hp} {v u1 u2 : V} {r : Bool} {c : Cn} {s1 s2 : Sn} {B1 B2 : Int} {Q : VK} {E : XK} (hc : Dp K H v (cnD c)) (h1 : Dp K H u1 (snD s1)) (h2 : Dp K H u2 (snD s2)) (okc : okCn 10 12 c) (ok1 : okSn c B1 s1) (ok2 : okSn c B2 s2) (al1 : Alone s1 r) (al2 : Alone s2 r) (q : ∀ H' : Hp, Same H H' → Q (.bl (rB c r s1 s2)) H') : spLe K [v, u1, u2, .str (wS r)] H Q E := by
  refine ⟨v, u1, u2, r, c, s1, s2, B1, B2, rfl, cnAny_t hc, h1, h2, okc, ok1, ok2, al1, al2, fun H' s => ⟨fun e => ?_, fun e f b rd hb => ?_⟩⟩
  · obtain ⟨f, rd⟩ := rd_ex (s := s1) (r := r) okc
    have : false = rB c r s1 s2 := rB_of ⟨fun z => (nomatch z), fun z => absurd ((leads_iff okc ok1 ok2 al1 al2 rd).mpr z).1 e⟩
    rw [this]; exact q H' s
  · have : b = rB c r s1 s2 := rB_of ⟨fun z => (leads_iff okc ok1 ok2 al1 al2 rd).mp ⟨e, hb.mp z⟩, fun z => hb.mpr ((leads_iff okc ok1 ok2 al1 al2 rd).mpr z).2⟩
    rw [this]; exact q H' s
end
end XL
namespace XL
open PySem PySem.Spec PyProof.Rows L2
abbrev sWo : Stmt := topS 26
/-! ### there is the one least road -/
section
variable {c : Cn} {s : Sn} {r : Bool} {W U : Nat} {f : Rf}
theorem gl_ex (f : Rf) : ∀ n : Nat, n ≤ c.ls.length → ∃ g, GI c s r f n g ∧ LkG c s r f n g
  | 0, _ => ⟨fun _ => none, ⟨(fun j ks h => by cases h), fun i row hi => absurd hi (Nat.not_lt_zero _)⟩, fun i row hi => absurd hi (Nat.not_lt_zero _)⟩
  | n + 1, hn => by
    obtain ⟨g, G, L⟩ := gl_ex f n (by omega)
    by_cases h : ∃ row, f (fromTo c s n r).1 = some row ∧ f (fromTo c s n r).2 = none
    · obtain ⟨row, h1, h2⟩ := h
      have key : ∃ ks, (ks = row ++ [n] ∨ g (fromTo c s n r).2 = some ks) ∧ rle r ks (row ++ [n]) ∧ ∀ k0, g (fromTo c s n r).2 = some k0 → rle r ks k0 := by
        cases e : g (fromTo c s n r).2 with
        | none => exact ⟨row ++ [n], .inl rfl, rle_refl r _, fun k0 h => by cases h⟩
        | some k0 =>
          have m := rle_min r k0 (row ++ [n])
          refine ⟨_, ?_, m.2, fun k1 h => by rw [← Option.some.inj h]; exact m.1⟩
          by_cases q : rlt r (row ++ [n]) k0 = true
          · rw [if_pos q]; exact .inl rfl
          · rw [if_neg q]; exact .inr rfl
      obtain ⟨ks, hk, hle, ho⟩ := key
      refine ⟨fun j => if j = (fromTo c s n r).2 then some ks else g j, ⟨fun j k2 hj => ?_, fun i row' hi e1 e2 => ?_⟩, lk_put L h1 hle ho⟩
      · by_cases q : j = (fromTo c s n r).2
        · have hj' : some ks = some k2 := by rw [← hj]; exact (if_pos q).symm
          obtain rfl : ks = k2 := Option.some.inj hj'
          rcases hk with rfl | hk
          · exact ⟨by rw [q]; exact h2, row, n, rfl, by omega, q.symm, h1⟩
          · rw [← q] at hk; exact G.new j ks hk
        · have hj' : g j = some k2 := by rw [← hj]; exact (if_neg q).symm
          exact G.new j k2 hj'
      · show (if (fromTo c s i r).2 = (fromTo c s n r).2 then some ks else g (fromTo c s i r).2) ≠ none
        by_cases q : (fromTo c s i r).2 = (fromTo c s n r).2
        · rw [if_pos q]; exact fun z => nomatch z
        · rw [if_neg q]
          have hne : i ≠ n := fun z => q (by rw [z])
          exact G.cov i row' (by omega) e1 e2
    · refine ⟨g, ⟨G.new, fun i row' hi e1 e2 => ?_⟩, lk_skip L fun row e1 e2 => h ⟨row, e1, e2⟩⟩
      by_cases q : i = n
      · subst q; exact absurd ⟨row', e1, e2⟩ h
      · exact G.cov i row' (by omega) e1 e2
theorem rlx_ex (okc : okCn W U c) : ∀ (k d : Nat) (f : Rf), cnt c r f ≤ k → RI c s r d f → LeF c s r f → ∃ f', Rl c s r f'
  | k, d, f, hk, R, LF => by
    obtain ⟨g, G, L⟩ := gl_ex (c := c) (s := s) (r := r) f c.ls.length (Nat.le_refl _)
    by_cases h : ∃ j0 k0, g j0 = some k0
    · obtain ⟨j0, k0, h0⟩ := h
      obtain ⟨R', hc⟩ := R.step okc G h0
      match k, hk with
      | 0, hk => omega
      | k + 1, hk => exact rlx_ex okc k (d + 1) _ (by omega) R' (le_step R LF G L)
    · refine ⟨f, R.done G fun j => ?_, LF⟩
      cases e : g j with
      | none => rfl
      | some ks => exact absurd ⟨j, ks, e⟩ h
theorem rl_ex (okc : okCn W U c) : ∃ f, Rl c s r f := rlx_ex okc _ 0 _ (Nat.le_refl _) ri0 le0
end
section
variable {P : Program} {w : World} {K : PySem.W.Frag} {mg : Str → Option Value} {base : Heap}
abbrev nWo : List Str := ["canal", "standing", "water", "basin"]
theorem scWo : FnScope nWo ["canal", "standing", "water", "basin"] (defScope sWo) := ⟨rfl, rfl, rfl, by decide +kernel, rfl, by decide +kernel, by decide +kernel⟩
/-! ### woken by the one least road -/
def spWl (K : PySem.W.Frag) : Sp := fun vs H Q _ => ∃ (v u : V) (r : Bool) (j : Int) (c : Cn) (s : Sn) (B : Int), vs = [v, u, .str (wS r), .int j] ∧ CnAny K H v c ∧ Dp K H u (snD s) ∧ okCn 10 12 c ∧ okSn c B s ∧ Alone s r ∧
  ∀ (f : Rf) (H' : Hp), Same H H' → Rl c s r f → ((f j = none → Q .non H') ∧ ∀ (a : Addr) (us : List V) (ks : List Nat), f j = some ks → MvAt H' a (rowOf r ks) us → Q (.ref a) H')
theorem ok_wl {f fa fo : Addr} {fd fda fdo : FuncData} {k : Nat} (F : Fun K "woken" "woken" sWo f fd) (Al : Fns P w K mg base k "be_alone" ["standing", "water"] (spAl K) fa fda) (Ro : Fns P w K mg base k "roads" ["canal", "standing", "water"] (spRl K) fo fdo) : FnOk P w K mg base CX0 (k + 1) f fd ["canal", "standing", "water", "basin"] (spWl K) := by
  refine F.ok scWo (fun vs H Q E h => ?_) (fun cdv A outer s H vs Q E hr h => ?_)
  · obtain ⟨v, u, r, j, c, s, B, rfl, _⟩ := h
    rfl
  obtain ⟨v, u, r, j, c, s, B, rfl, hc, hu, okc, ok, hal, q⟩ := h
  refine ⟨_, (pss_cons (ps_expr (pe_fn Al hr rfl (pa_cons (pv 1) (pa_cons (pv 2) pa_nil))))
    (pss_one (ps_ret (pe_dget1 (hu1 hr.units) (pe_fn Ro hr rfl (pa_cons (pv 0) (pa_cons (pv 1) (pa_cons (pv 2) pa_nil)))) (pv 3) ⟨rfl, rfl, rfl, rfl⟩)))), ?_⟩
  refine ⟨_, rfl, _, rfl, nil_go ⟨u, r, s, rfl, hu, hal, fun H1 s1 => ?_⟩⟩
  refine ⟨_, rfl, _, rfl, _, rfl, nil_go ⟨v, u, r, c, s, B, rfl, hc.same s1, Dp.same s1 _ hu, okc, ok, fun D f kvs H2 s2 nD ro rd => ?_⟩⟩
  have s12 := s1.trans s2
  refine ⟨D, rfl, .inl ⟨kvs, .inl ro.e⟩, _, rfl, _, DGet.k (k := .inl j) ro.e, ?_⟩
  obtain ⟨q1, q2⟩ := q f H2 s12 rd
  rcases ro.v j with ⟨h1, h2⟩ | ⟨la, lus, row, h1, h2, h3, h4⟩
  · rw [h1]; exact q1 h2
  · rw [h1]; exact q2 la lus row h2 h3
end
end XL
namespace XL
open PySem PySem.Spec PyProof.Rows L2
/-! ### sums of boats stay -/
theorem sum_set : ∀ (zs : List Int) (i : Nat) (x : Int), i < zs.length → (zs.set i x).sum = zs.sum - gt zs (i : Int) + x
  | [], i, x, h => by simp at h
  | z :: zs, 0, x, _ => by
    show ((x :: zs).sum : Int) = (z :: zs).sum - z + x
    rw [List.sum_cons, List.sum_cons]; omega
  | z :: zs, i + 1, x, h => by
    have ih := sum_set zs i x (by simp at h; omega)
    have e : gt (z :: zs) ((i + 1 : Nat) : Int) = gt zs (i : Int) := rfl
    rw [e]
    show ((z :: zs.set i x).sum : Int) = _
    rw [List.sum_cons, List.sum_cons, ih]; omega
theorem sum_mov {zs : List Int} {p : Int × Int} (h0 : 0 ≤ p.1) (h1 : p.1 < zs.length) (h2 : 0 ≤ p.2) (h3 : p.2 < zs.length) : (mov zs p).sum = zs.sum := by
  unfold mov
  have a := sum_set zs p.1.toNat (gt zs p.1 - 1) (by omega)
  rw [show ((p.1.toNat : Nat) : Int) = p.1 by omega] at a
  have b := sum_set (zs.set p.1.toNat (gt zs p.1 - 1)) p.2.toNat (gt (zs.set p.1.toNat (gt zs p.1 - 1)) p.2 + 1) (by rw [List.length_set]; omega)
  rw [show ((p.2.toNat : Nat) : Int) = p.2 by omega] at b
  rw [b, a]; omega
theorem le_sum : ∀ {zs : List Int}, (∀ z ∈ zs, 0 ≤ z) → 0 ≤ zs.sum ∧ ∀ z ∈ zs, z ≤ zs.sum
  | [], _ => ⟨Int.le_refl _, fun z h => by cases h⟩
  | x :: zs, h => by
    obtain ⟨a, b⟩ := le_sum (zs := zs) fun z hz => h z (List.mem_cons_of_mem _ hz)
    have hx := h x (List.mem_cons_self ..)
    rw [List.sum_cons]
    refine ⟨by omega, fun z hz => ?_⟩
    rcases List.mem_cons.mp hz with rfl | hz
    · omega
    · have := b z hz; omega
section
variable {c : Cn} {W U : Nat} {r : Bool} {s : Sn} {B : Int}
/-- what every standing is that this water's goings lead to: M boats in all -/
structure Stn (c : Cn) (r : Bool) (M : Int) (x : Sn) : Prop where
  ok : okSn c M x
  al : Alone x r
  su : (boatsW r x).sum = M
theorem stn_of (ok : okSn c B s) (al : Alone s r) : Stn c r (boatsW r s).sum s := by
  have key : ∀ zs : List Int, (∀ z ∈ zs, 0 ≤ z ∧ z ≤ B) → ∀ z ∈ zs, 0 ≤ z ∧ z ≤ zs.sum := fun zs h z hz => ⟨(h z hz).1, (le_sum fun y hy => (h y hy).1).2 z hz⟩
  have nn : 0 ≤ (boatsW r s).sum := (le_sum fun y hy => by
    cases r with
    | true => exact (ok.r0 y hy).1
    | false => exact (ok.b0 y hy).1).1
  refine ⟨⟨ok.r, ok.b, ok.n, ?_, ?_, ok.l0⟩, al, rfl⟩
  · cases r with
    | true => exact key _ ok.r0
    | false => exact fun z hz => by have h : z = 0 := al z hz; rw [h]; exact ⟨Int.le_refl _, nn⟩
  · cases r with
    | true => exact fun z hz => by have h : z = 0 := al z hz; rw [h]; exact ⟨Int.le_refl _, nn⟩
    | false => exact key _ ok.b0
theorem Stn.go (okc : okCn W U c) {M : Int} {x : Sn} (h : Stn c r M x) {i : Nat} (hi : i < c.ls.length) (hb : hasB c x i r = true) : Stn c r M (goneS c x i r) := by
  have f := fromTo_ok okc (s := x) hi r
  have hl := boats_len h.ok r
  have e : (boatsW r (goneS c x i r)).sum = M := by
    rw [goneS_boats, sum_mov f.1.1 (by rw [hl]; exact f.1.2) f.2.1 (by rw [hl]; exact f.2.2)]
    exact h.su
  have al : Alone (goneS c x i r) r := by unfold Alone; rw [boats_other]; exact h.al
  have := stn_of (goneS_ok okc h.ok hi r hb) al
  rw [e] at this
  exact this
theorem Stn.run (okc : okCn W U c) {M : Int} : ∀ {ms : List Mv} {x : Sn}, Stn c r M x → okRun c x ms → (∀ m ∈ ms, m.2 = r) → Stn c r M (runS c x ms)
  | [], x, h, _, _ => h
  | m :: ms, x, h, hr, hw => by
    obtain ⟨i, q⟩ := m
    obtain rfl : r = q := (hw _ (List.mem_cons_self ..)).symm
    exact Stn.run (ms := ms) (x := goneS c x i r) okc (h.go okc hr.1.1 hr.1.2) hr.2 fun m hm => hw m (List.mem_cons_of_mem _ hm)
end
/-! ### how many there can be -/
def enc (b : Nat) : List Int → Nat
  | [] => 0
  | z :: zs => z.toNat + b * enc b zs
theorem enc_lt {b : Nat} (hb : 0 < b) : ∀ zs : List Int, (∀ z ∈ zs, 0 ≤ z ∧ z < (b : Int)) → enc b zs < b ^ zs.length
  | [], _ => Nat.one_pos
  | z :: zs, h => by
    have ih := enc_lt hb zs fun y hy => h y (List.mem_cons_of_mem _ hy)
    have hz := h z (List.mem_cons_self ..)
    have : b * (enc b zs + 1) ≤ b * b ^ zs.length := Nat.mul_le_mul_left b ih
    rw [Nat.mul_add, Nat.mul_one] at this
    show z.toNat + b * enc b zs < b ^ (zs.length + 1)
    rw [Nat.pow_succ, Nat.mul_comm (b ^ zs.length) b]
    omega
theorem enc_inj {b : Nat} : ∀ xs ys : List Int, xs.length = ys.length → (∀ z ∈ xs, 0 ≤ z ∧ z < (b : Int)) → (∀ z ∈ ys, 0 ≤ z ∧ z < (b : Int)) → enc b xs = enc b ys → xs = ys
  | [], [], _, _, _, _ => rfl
  | [], y :: ys, h, _, _, _ => by simp at h
  | x :: xs, [], h, _, _, _ => by simp at h
  | x :: xs, y :: ys, hl, hx, hy, e => by
    have x0 := hx x (List.mem_cons_self ..)
    have y0 := hy y (List.mem_cons_self ..)
    have e' : x.toNat + b * enc b xs = y.toNat + b * enc b ys := e
    have m1 := congrArg (· % b) e'
    rw [Nat.add_mul_mod_self_left, Nat.add_mul_mod_self_left, Nat.mod_eq_of_lt (by omega), Nat.mod_eq_of_lt (by omega)] at m1
    have e2 : b * enc b xs = b * enc b ys := by omega
    have e3 : enc b xs = enc b ys := Nat.eq_of_mul_eq_mul_left (by omega) e2
    have := enc_inj xs ys (by simpa using hl) (fun z hz => hx z (List.mem_cons_of_mem _ hz)) (fun z hz => hy z (List.mem_cons_of_mem _ hz)) e3
    rw [this, show x = y by omega]
theorem nd_le2 : ∀ (n : Nat) (L : List Nat), L.Nodup → (∀ x ∈ L, x < n) → L.length ≤ n
  | 0, L, _, h => by
    cases L with
    | nil => exact Nat.le_refl _
    | cons a L => exact absurd (h a (List.mem_cons_self ..)) (Nat.not_lt_zero _)
  | n + 1, L, nd, h => by
    have ih := nd_le2 n (L.erase n) (nd.erase n) fun x hx => by
      have h1 := (nd.mem_erase_iff).mp hx
      have h2 := h x h1.2
      have h3 := h1.1
      omega
    by_cases m : n ∈ L
    · have := List.length_erase_of_mem m
      omega
    · rw [List.erase_of_not_mem m] at ih
      omega
section
variable {c : Cn} {r : Bool} {M : Int}
def codeS (r : Bool) (x : Sn) : Nat := enc 4 (boatsW r x) * 16 + enc 2 x.ls
theorem stn_code (okc : okCn 4 4 c) (hM : M ≤ 3) {x : Sn} (h : Stn c r M x) : enc 4 (boatsW r x) < 256 ∧ enc 2 x.ls < 16 := by
  have hl := boats_len h.ok r
  have hn := h.ok.n
  have h4 : basW r c ≤ 4 := by
    cases r with
    | true => exact okc.r2
    | false => exact okc.b2
  have d1 : ∀ z ∈ boatsW r x, 0 ≤ z ∧ z < ((4 : Nat) : Int) := fun z hz => by
    have : 0 ≤ z ∧ z ≤ M := by
      cases r with
      | true => exact h.ok.r0 z hz
      | false => exact h.ok.b0 z hz
    omega
  have d2 : ∀ z ∈ x.ls, 0 ≤ z ∧ z < ((2 : Nat) : Int) := fun z hz => by rcases h.ok.l0 z hz with e | e <;> omega
  have e1 := enc_lt (b := 4) (by decide) _ d1
  have e2 := enc_lt (b := 2) (by decide) _ d2
  have p1 : (4 : Nat) ^ (boatsW r x).length ≤ 4 ^ 4 := Nat.pow_le_pow_right (by decide) (by omega)
  have p2 : (2 : Nat) ^ x.ls.length ≤ 2 ^ 4 := Nat.pow_le_pow_right (by decide) (by have := okc.n; omega)
  exact ⟨Nat.lt_of_lt_of_le e1 p1, Nat.lt_of_lt_of_le e2 p2⟩
theorem zeros_eq : ∀ {xs ys : List Int}, xs.length = ys.length → (∀ z ∈ xs, z = 0) → (∀ z ∈ ys, z = 0) → xs = ys
  | [], [], _, _, _ => rfl
  | [], y :: ys, h, _, _ => by simp at h
  | x :: xs, [], h, _, _ => by simp at h
  | x :: xs, y :: ys, h, a, b => by
    rw [a x (List.mem_cons_self ..), b y (List.mem_cons_self ..), zeros_eq (by simpa using h) (fun z hz => a z (List.mem_cons_of_mem _ hz)) (fun z hz => b z (List.mem_cons_of_mem _ hz))]
theorem code_inj (okc : okCn 4 4 c) (hM : M ≤ 3) {x y : Sn} (h : Stn c r M x) (g : Stn c r M y) (e : codeS r x = codeS r y) : x = y := by
  obtain ⟨a1, a2⟩ := stn_code okc hM h
  obtain ⟨b1, b2⟩ := stn_code okc hM g
  unfold codeS at e
  have l1 := boats_len h.ok r
  have l2 := boats_len g.ok r
  have k1 := boats_len h.ok (!r)
  have k2 := boats_len g.ok (!r)
  have d : ∀ {x : Sn}, Stn c r M x → ∀ z ∈ boatsW r x, 0 ≤ z ∧ z < ((4 : Nat) : Int) := fun {x} h z hz => by
    have : 0 ≤ z ∧ z ≤ M := by
      cases r with
      | true => exact h.ok.r0 z hz
      | false => exact h.ok.b0 z hz
    omega
  have d2 : ∀ {x : Sn}, Stn c r M x → ∀ z ∈ x.ls, 0 ≤ z ∧ z < ((2 : Nat) : Int) := fun {x} h z hz => by rcases h.ok.l0 z hz with e | e <;> omega
  have e1 := enc_inj (b := 4) _ _ (by omega) (d h) (d g) (by omega)
  have e2 := enc_inj (b := 2) x.ls y.ls (by rw [h.ok.n, g.ok.n]) (d2 h) (d2 g) (by omega)
  have e3 := zeros_eq (xs := boatsW (!r) x) (ys := boatsW (!r) y) (by omega) h.al g.al
  obtain ⟨x1, x2, x3⟩ := x
  obtain ⟨y1, y2, y3⟩ := y
  cases r with
  | true =>
    have e1' : x1 = y1 := e1
    have e3' : x2 = y2 := e3
    have e2' : x3 = y3 := e2
    rw [e1', e2', e3']
  | false =>
    have e1' : x2 = y2 := e1
    have e3' : x1 = y1 := e3
    have e2' : x3 = y3 := e2
    rw [e1', e2', e3']
theorem nodup_map {α β : Type} {f : α → β} : ∀ {L : List α}, L.Nodup → (∀ x ∈ L, ∀ y ∈ L, f x = f y → x = y) → (L.map f).Nodup
  | [], _, _ => List.nodup_nil
  | a :: L, nd, h => by
    rw [List.map_cons, List.nodup_cons]
    rw [List.nodup_cons] at nd
    refine ⟨fun m => ?_, nodup_map nd.2 fun x hx y hy => h x (List.mem_cons_of_mem _ hx) y (List.mem_cons_of_mem _ hy)⟩
    obtain ⟨b, hb, e⟩ := List.mem_map.mp m
    have := h b (List.mem_cons_of_mem _ hb) a (List.mem_cons_self ..) e
    rw [this] at hb
    exact nd.1 hb
theorem stns_le (okc : okCn 4 4 c) (hM : M ≤ 3) {L : List Sn} (nd : L.Nodup) (h : ∀ x ∈ L, Stn c r M x) : L.length ≤ 4096 := by
  have := nd_le2 4096 (L.map (codeS r)) (nodup_map nd fun x hx y hy e => code_inj okc hM (h x hx) (h y hy) e) fun z hz => by
    obtain ⟨x, hx, rfl⟩ := List.mem_map.mp hz
    obtain ⟨a, b⟩ := stn_code okc hM (h x hx)
    unfold codeS; omega
  rw [List.length_map] at this
  exact this
end
end XL
namespace XL
open PySem PySem.Spec PyProof.Rows L2
/-! ### gone through, the nearer ones first -/
def Go (c : Cn) (r : Bool) (s : Sn) (n : Nat) (x : Sn) : Prop := ∃ ms, okRun c s ms ∧ (∀ m ∈ ms, m.2 = r) ∧ ms.length = n ∧ runS c s ms = x
section
variable {c : Cn} {r : Bool} {s : Sn}
theorem Go.zero : Go c r s 0 s := ⟨[], trivial, fun m hm => (by cases hm), rfl, rfl⟩
theorem Go.step {n : Nat} {x : Sn} (h : Go c r s n x) {i : Nat} (hi : i < c.ls.length) (hb : hasB c x i r = true) : Go c r s (n + 1) (goneS c x i r) := by
  obtain ⟨ms, a, b, l, e⟩ := h
  refine ⟨ms ++ [(i, r)], okRun_app.mpr ⟨a, ?_⟩, fun m hm => ?_, by rw [List.length_append, l]; rfl, ?_⟩
  · rw [e]; exact ⟨⟨hi, hb⟩, trivial⟩
  · rcases List.mem_append.mp hm with h | h
    · exact b m h
    · rw [List.mem_singleton.mp h]
  · rw [runS_snoc, e]; rfl
theorem Go.reach {n : Nat} {x : Sn} (h : Go c r s n x) : Reach c r s x := by
  obtain ⟨ms, a, b, _, e⟩ := h
  exact ⟨ms, a, b, e⟩
abbrev Ds := List (Sn × Nat)
/-- all that it comes to, each with how many goings lead there at the fewest -/
structure Far (c : Cn) (r : Bool) (s : Sn) (xs : Ds) : Prop where
  nd : (xs.map (·.1)).Nodup
  d : ∀ e ∈ xs, Go c r s e.2 e.1
  le : ∀ n x, Go c r s n x → ∃ d, (x, d) ∈ xs ∧ d ≤ n
/-- behind p of the line, and n of the goings of the next -/
structure Bf (c : Cn) (r : Bool) (s : Sn) (p n : Nat) (xs : Ds) : Prop where
  nd : (xs.map (·.1)).Nodup
  d : ∀ e ∈ xs, Go c r s e.2 e.1
  z : (s, 0) ∈ xs
  so : xs.Pairwise fun a b => a.2 ≤ b.2
  hi : ∀ e0, xs[p]? = some e0 → ∀ e ∈ xs, e.2 ≤ e0.2 + 1
  cl : ∀ q e, q < p → xs[q]? = some e → ∀ i, i < c.ls.length → hasB c e.1 i r = true → ∃ d, (goneS c e.1 i r, d) ∈ xs ∧ d ≤ e.2 + 1
  cn : ∀ e, xs[p]? = some e → ∀ m ∈ (may c e.1 c.ls.length).take n, m.2 = r → ∃ d, (goneS c e.1 m.1 r, d) ∈ xs ∧ d ≤ e.2 + 1
theorem Bf.zero : Bf c r s 0 0 [(s, 0)] := ⟨by simp, fun e he => by obtain rfl := List.mem_singleton.mp he; exact Go.zero, by simp, by simp, fun e0 h e he => by obtain rfl := List.mem_singleton.mp he; exact Nat.zero_le _, fun q e h => absurd h (Nat.not_lt_zero _), fun e _ m hm => by simp at hm⟩
theorem Bf.done {p : Nat} {xs : Ds} (h : Bf c r s p 0 xs) (hp : xs.length ≤ p) : Far c r s xs := by
  refine ⟨h.nd, h.d, fun n => ?_⟩
  induction n with
  | zero =>
    intro x ⟨ms, a, b, l, e⟩
    rw [List.length_eq_zero_iff.mp l] at e
    have e' : s = x := e
    rw [← e']; exact ⟨0, h.z, Nat.le_refl _⟩
  | succ n ih =>
    intro x ⟨ms, a, b, l, e⟩
    obtain ⟨ns, m, rfl, hn⟩ := snoc_of l
    obtain ⟨i, q⟩ := m
    obtain rfl : q = r := b _ (List.mem_append_right _ (List.mem_singleton.mpr rfl))
    obtain ⟨a1, a2⟩ := okRun_app.mp a
    rw [runS_snoc] at e
    obtain ⟨d, hd, dl⟩ := ih (runS c s ns) ⟨ns, a1, fun m hm => b m (List.mem_append_left _ hm), hn, rfl⟩
    obtain ⟨k, hk⟩ := List.mem_iff_getElem?.mp hd
    have hkl := (List.getElem?_eq_some_iff.mp hk).1
    obtain ⟨d', hd', dl'⟩ := h.cl k _ (by omega) hk i a2.1.1 a2.1.2
    refine ⟨d', ?_, ?_⟩
    · rw [← e]; exact hd'
    · have : d' ≤ d + 1 := dl'
      omega
theorem Bf.keep {p n : Nat} {xs : Ds} {e : Sn × Nat} (h : Bf c r s p n xs) (he : xs[p]? = some e) {m : Mv} (hm : (may c e.1 c.ls.length)[n]? = some m) (ok : m.2 = r → ∃ d, (goneS c e.1 m.1 r, d) ∈ xs) : Bf c r s p (n + 1) xs := by
  refine ⟨h.nd, h.d, h.z, h.so, h.hi, h.cl, fun e' he' m' hm' hr => ?_⟩
  rw [he] at he'
  obtain rfl := Option.some.inj he'
  rw [List.take_succ, hm] at hm'
  rcases List.mem_append.mp hm' with q | q
  · exact h.cn e he m' q hr
  · obtain rfl : m' = m := by simpa using q
    obtain ⟨d, hd⟩ := ok hr
    exact ⟨d, hd, h.hi e he _ hd⟩
theorem Bf.add {p n : Nat} {xs : Ds} {e : Sn × Nat} (h : Bf c r s p n xs) (he : xs[p]? = some e) {m : Mv} (hm : (may c e.1 c.ls.length)[n]? = some m) (hr : m.2 = r) (no : ∀ d, (goneS c e.1 m.1 r, d) ∉ xs) : Bf c r s p (n + 1) (xs ++ [(goneS c e.1 m.1 r, e.2 + 1)]) := by
  have em : e ∈ xs := List.mem_iff_getElem?.mpr ⟨p, he⟩
  have mm := mem_may.mp (List.mem_iff_getElem?.mpr ⟨n, hm⟩)
  rw [hr] at mm
  have pl := (List.getElem?_eq_some_iff.mp he).1
  have old : ∀ {q : Nat} {x}, q < xs.length → (xs ++ [(goneS c e.1 m.1 r, e.2 + 1)])[q]? = some x → xs[q]? = some x := fun {q x} hq hx => by rw [List.getElem?_append_left hq] at hx; exact hx
  refine ⟨?_, fun x hx => ?_, List.mem_append_left _ h.z, ?_, fun e0 h0 x hx => ?_, fun q x hq hx i hi hb => ?_, fun x hx m' hm' hr' => ?_⟩
  · rw [List.map_append, List.nodup_append]
    refine ⟨h.nd, by simp, fun a ha b hb => ?_⟩
    obtain ⟨x, hx, rfl⟩ := List.mem_map.mp ha
    rw [List.map_cons, List.map_nil, List.mem_singleton] at hb
    rw [hb]
    intro z
    have z' : x.1 = goneS c e.1 m.1 r := z
    exact no x.2 (by rw [← z']; exact hx)
  · rcases List.mem_append.mp hx with hx | hx
    · exact h.d x hx
    · rw [List.mem_singleton.mp hx]; exact (h.d e em).step mm.1 mm.2
  · rw [List.pairwise_append]
    refine ⟨h.so, by simp, fun a ha b hb => ?_⟩
    rw [List.mem_singleton.mp hb]
    exact h.hi e he a ha
  · have h0' := old pl h0
    rw [he] at h0'
    obtain rfl := Option.some.inj h0'
    rcases List.mem_append.mp hx with hx | hx
    · exact h.hi e he x hx
    · rw [List.mem_singleton.mp hx]; exact Nat.le_refl _
  · obtain ⟨d, hd, dl⟩ := h.cl q x hq (old (by omega) hx) i hi hb
    exact ⟨d, List.mem_append_left _ hd, dl⟩
  · have hx' := old pl hx
    rw [he] at hx'
    obtain rfl := Option.some.inj hx'
    rw [List.take_succ, hm] at hm'
    rcases List.mem_append.mp hm' with q | q
    · obtain ⟨d, hd, dl⟩ := h.cn e he m' q hr'
      exact ⟨d, List.mem_append_left _ hd, dl⟩
    · obtain rfl : m' = m := by simpa using q
      exact ⟨e.2 + 1, List.mem_append_right _ (List.mem_singleton.mpr rfl), Nat.le_refl _⟩
theorem Bf.next {p n : Nat} {xs : Ds} {e : Sn × Nat} (h : Bf c r s p n xs) (he : xs[p]? = some e) (hn : (may c e.1 c.ls.length).length ≤ n) : Bf c r s (p + 1) 0 xs := by
  refine ⟨h.nd, h.d, h.z, h.so, fun e0 h0 x hx => ?_, fun q x hq hx i hi hb => ?_, fun x hx m hm => by simp at hm⟩
  · have a := h.hi e he x hx
    have b : e.2 ≤ e0.2 := by
      obtain ⟨l1, e1⟩ := List.getElem?_eq_some_iff.mp he
      obtain ⟨l2, e2⟩ := List.getElem?_eq_some_iff.mp h0
      have := List.pairwise_iff_getElem.mp h.so p (p + 1) l1 l2 (Nat.lt_succ_self _)
      rw [e1, e2] at this
      exact this
    omega
  · by_cases q2 : q < p
    · exact h.cl q x q2 hx i hi hb
    · obtain rfl : q = p := by omega
      rw [he] at hx
      obtain rfl := Option.some.inj hx
      exact h.cn e he (i, r) (by rw [List.take_of_length_le hn]; exact mem_may.mpr ⟨hi, hb⟩) rfl
/-! ### a boat comes nowhere sooner than by the roads -/
theorem far_road {W U : Nat} (okc : okCn W U c) {B : Int} (ok : okSn c B s) {f : Rf} (R : Rd c s r f) : ∀ (n : Nat) (x : Sn), Go c r s n x → (∀ j, inB r c j → gt (boatsW r x) j > 0 → ∃ ks, f j = some ks ∧ ks.length ≤ n) ∧ ∀ i : Nat, i < c.ls.length → gt x.ls (i : Int) ≠ gt s.ls (i : Int) → ∃ ks, f (fromTo c s i r).1 = some ks ∧ ks.length ≤ n
  | 0, x, ⟨ms, a, b, l, e⟩ => by
    rw [List.length_eq_zero_iff.mp l] at e
    have e' : s = x := e
    subst e'
    exact ⟨fun j h1 h2 => ⟨[], (R.z j).mpr ⟨h1, h2⟩, Nat.le_refl _⟩, fun i _ h => absurd rfl h⟩
  | n + 1, x, ⟨ms, a, b, l, e⟩ => by
    obtain ⟨ns, m, rfl, hn⟩ := snoc_of l
    obtain ⟨i, q⟩ := m
    obtain rfl : r = q := (b _ (List.mem_append_right _ (List.mem_singleton.mpr rfl))).symm
    obtain ⟨a1, a2⟩ := okRun_app.mp a
    rw [runS_snoc] at e
    obtain ⟨i1, i2⟩ := far_road okc ok R n (runS c s ns) ⟨ns, a1, fun m hm => b m (List.mem_append_left _ hm), hn, rfl⟩
    have oky := runS_ok okc ok a1
    generalize runS c s ns = y at a2 e i1 i2 oky
    have hi : i < c.ls.length := a2.1.1
    have hb : gt (boatsW r y) (fromTo c y i r).1 > 0 := of_decide_eq_true a2.1.2
    have ft := fromTo_ok okc (s := y) hi r
    have e' : goneS c y i r = x := e
    -- the lock's own first end is reached within n, its other one within n + 1
    have src := i1 _ ft.1 hb
    have both : (∃ ks, f (fromTo c y i r).2 = some ks ∧ ks.length ≤ n + 1) ∧ ∃ ks, f (fromTo c s i r).1 = some ks ∧ ks.length ≤ n + 1 := by
      by_cases t : gt y.ls (i : Int) = gt s.ls (i : Int)
      · have ef : fromTo c y i r = fromTo c s i r := fromTo_ls t
        rw [ef] at src ⊢
        obtain ⟨ks, k1, k2⟩ := src
        obtain ⟨k', h1, h2⟩ := R.cl i ks hi k1
        exact ⟨⟨k', h1, by omega⟩, ks, k1, by omega⟩
      · obtain ⟨ks, k1, k2⟩ := i2 i hi t
        have o1 : gt y.ls (i : Int) = 0 ∨ gt y.ls (i : Int) = 1 := oky.l0 _ (gt_mem (by omega) (by rw [oky.n]; omega))
        have o2 : gt s.ls (i : Int) = 0 ∨ gt s.ls (i : Int) = 1 := ok.l0 _ (gt_mem (by omega) (by rw [ok.n]; omega))
        have ef : (fromTo c y i r).2 = (fromTo c s i r).1 := by
          unfold fromTo
          rcases o1 with u | u <;> rcases o2 with v | v
          · exact absurd (u.trans v.symm) t
          · rw [if_pos u, if_neg (by omega)]
          · rw [if_neg (by omega), if_pos v]
          · exact absurd (u.trans v.symm) t
        rw [ef]
        exact ⟨⟨ks, k1, by omega⟩, ks, k1, by omega⟩
    refine ⟨fun j hj hp => ?_, fun i' hi' hd => ?_⟩
    · rw [← e', gt_gone okc oky hi hj.1] at hp
      by_cases t : j = (fromTo c y i r).2
      · rw [t]; exact both.1
      · rw [if_neg t] at hp
        obtain ⟨ks, k1, k2⟩ := i1 j hj (by split at hp <;> omega)
        exact ⟨ks, k1, by omega⟩
    · by_cases t : i = i'
      · subst t; exact both.2
      · rw [← e', gone_ls_ne t] at hd
        obtain ⟨ks, k1, k2⟩ := i2 i' hi' hd
        exact ⟨ks, k1, by omega⟩
end
/-! ### how many locks stand otherwise -/
def diffs : List Int → List Int → Nat
  | x :: xs, y :: ys => (if x = y then 0 else 1) + diffs xs ys
  | _, _ => 0
theorem diffs_self : ∀ xs : List Int, diffs xs xs = 0
  | [] => rfl
  | x :: xs => by rw [diffs, if_pos rfl, diffs_self xs]
/-- one lock turned: one more or one less -/
theorem diffs_flip : ∀ (xs ys : List Int) (i : Nat), i < ys.length → xs.length = ys.length → (∀ x ∈ xs, x = 0 ∨ x = 1) → (∀ y ∈ ys, y = 0 ∨ y = 1) → diffs xs (flip1 ys i) = diffs xs ys + 1 ∨ diffs xs (flip1 ys i) + 1 = diffs xs ys
  | [], ys, i, h, l, _, _ => by simp at l; rw [← l] at h; simp at h
  | x :: xs, [], i, h, _, _, _ => by simp at h
  | x :: xs, y :: ys, 0, _, l, hx, hy => by
    have e : flip1 (y :: ys) 0 = (1 - y) :: ys := rfl
    rw [e, diffs, diffs]
    rcases hx x (List.mem_cons_self ..) with a | a <;> rcases hy y (List.mem_cons_self ..) with b | b <;> subst a <;> subst b <;> simp <;> omega
  | x :: xs, y :: ys, i + 1, h, l, hx, hy => by
    have e : flip1 (y :: ys) (i + 1) = y :: flip1 ys i := rfl
    rw [e, diffs, diffs]
    rcases diffs_flip xs ys i (by simpa using h) (by simpa using l) (fun z hz => hx z (List.mem_cons_of_mem _ hz)) (fun z hz => hy z (List.mem_cons_of_mem _ hz)) with q | q
    · exact .inl (by omega)
    · exact .inr (by omega)
theorem diffs_run {c : Cn} {W U : Nat} (okc : okCn W U c) {s : Sn} {B : Int} (ok : okSn c B s) : ∀ (n : Nat) (ms : List Mv), ms.length = n → okRun c s ms → diffs s.ls (runS c s ms).ls ≤ n ∧ (n - diffs s.ls (runS c s ms).ls) % 2 = 0
  | 0, ms, l, _ => by
    rw [List.length_eq_zero_iff.mp l]
    show diffs s.ls s.ls ≤ 0 ∧ _
    rw [show runS c s [] = s from rfl, diffs_self]
    exact ⟨Nat.le_refl _, rfl⟩
  | n + 1, ms, l, h => by
    obtain ⟨ns, m, rfl, hn⟩ := snoc_of l
    obtain ⟨a1, a2⟩ := okRun_app.mp h
    obtain ⟨b1, b2⟩ := diffs_run okc ok n ns hn a1
    have oky := runS_ok okc ok a1
    rw [runS_snoc]
    generalize runS c s ns = y at a2 b1 b2 oky
    have e : (goM c y m).ls = flip1 y.ls m.1 := goneS_ls c y m.1 m.2
    rw [e]
    rcases diffs_flip s.ls y.ls m.1 (by rw [oky.n]; exact a2.1.1) (by rw [ok.n, oky.n]) ok.l0 oky.l0 with q | q <;> omega
end XL
namespace XL
open PySem PySem.Spec PyProof.Rows L2
abbrev sSh : Stmt := topS 37
abbrev sHg : Stmt := topS 38
/-- a tuple of these numbers -/
def TuR (K : PySem.W.Frag) (xs : List Int) (u : V) (F : Hp) : Prop := ∃ t : Addr, u = .ref t ∧ SqT K F t (xs.map V.int)
theorem TuR.same {K : PySem.W.Frag} {xs : List Int} {u : V} {A B : Hp} (h : TuR K xs u A) (s : Same A B) : TuR K xs u B := by
  obtain ⟨t, e, q⟩ := h
  exact ⟨t, e, Same.tup s q⟩
structure TusAt (K : PySem.W.Frag) (H : Hp) (a : Addr) (xss : List (List Int)) (us : List V) : Prop where
  e : H a = some (.lst us)
  p : Parts (TuR K) xss us H
theorem TusAt.same {K : PySem.W.Frag} {H H' : Hp} {a : Addr} {xss : List (List Int)} {us : List V} (h : TusAt K H a xss us) (s : Same H H') : TusAt K H' a xss us := ⟨s _ _ h.e, h.p.mono fun _ _ q => q.same s⟩
def itS (k n m : Nat) (xs : List Int) (i : Nat) : Option (List Int) := if k < n - 1 ∨ (i : Int) = m - xs.sum then some (xs ++ [(i : Int)]) else none
/-- a share of the first k basins -/
def Shr (k m : Nat) (xs : List Int) : Prop := xs.length = k ∧ (∀ z ∈ xs, 0 ≤ z) ∧ xs.sum ≤ m
theorem sum_snoc (xs : List Int) (z : Int) : (xs ++ [z]).sum = xs.sum + z := by
  induction xs with
  | nil => simp
  | cons x xs ih => rw [List.cons_append, List.sum_cons, List.sum_cons, ih]; omega
theorem mem_fm' {α : Type} {it : Nat → Option α} {n : Nat} {x : α} : x ∈ (List.range n).filterMap it ↔ ∃ i, i < n ∧ it i = some x := by
  rw [List.mem_filterMap]
  exact ⟨fun ⟨i, h, e⟩ => ⟨i, List.mem_range.mp h, e⟩, fun ⟨i, h, e⟩ => ⟨i, List.mem_range.mpr h, e⟩⟩
theorem shr_it {k n m : Nat} {xs : List Int} (h : Shr k m xs) {ys : List Int} (hy : ys ∈ (List.range ((m : Int) - xs.sum + 1).toNat).filterMap (itS k n m xs)) : Shr (k + 1) m ys := by
  obtain ⟨i, hi, e⟩ := mem_fm'.mp hy
  unfold itS at e
  split at e
  · obtain rfl := Option.some.inj e
    obtain ⟨a, b, c⟩ := h
    refine ⟨by rw [List.length_append, a]; rfl, fun z hz => ?_, by rw [sum_snoc]; omega⟩
    rcases List.mem_append.mp hz with q | q
    · exact b z q
    · rw [List.mem_singleton.mp q]; omega
  · cases e
theorem shr_ne {k n m : Nat} {xs : List Int} (h : Shr k m xs) : (List.range ((m : Int) - xs.sum + 1).toNat).filterMap (itS k n m xs) ≠ [] := by
  have c := h.2.2
  refine List.ne_nil_of_mem (a := xs ++ [(m : Int) - xs.sum]) (mem_fm'.mpr ⟨((m : Int) - xs.sum).toNat, by omega, ?_⟩)
  unfold itS
  rw [show ((((m : Int) - xs.sum).toNat : Nat) : Int) = m - xs.sum by omega, if_pos (.inr rfl)]
theorem seq_stay {K : PySem.W.Frag} {H1 H : Hp} {a : Addr} {xs : List V} (e : H1 a = some (.lst xs)) (h : H a = some (.lst xs)) : (¬ SqT K H1 a xs → SqL K H1 a xs → SqL K H a xs) ∧ (SqT K H1 a xs → SqT K H a xs) := by
  refine ⟨fun _ _ => SqL.of h, fun z => ?_⟩
  rcases z with (z | ⟨o, z⟩) | z
  · rw [e] at z; cases z
  · rw [e] at z; cases z
  · exact .inr z
section
variable {P : Program} {w : World} {K : PySem.W.Frag} {mg : Str → Option Value} {base : Heap}
/-! ### shares -/
abbrev nSh : List Str := ["_law_size", "_law_many", "_law_found", "_law_k", "_law_longer", "_law_some", "_law_left", "_law_boats"]
theorem scSh : FnScope nSh ["_law_size", "_law_many"] (defScope sSh) := ⟨rfl, rfl, rfl, by decide +kernel, rfl, by decide +kernel, by decide +kernel⟩
def spSh (K : PySem.W.Frag) : Sp := fun vs H Q _ => ∃ n m : Nat, vs = [.int n, .int m] ∧ n ≤ 4 ∧ m ≤ 3 ∧
  ∀ (L : Addr) (xss : List (List Int)) (us : List V) (H' : Hp), Same H H' → H L = none → TusAt K H' L xss us → xss ≠ [] → xss.length ≤ 256 → (∀ xs ∈ xss, Shr n m xs) → Q (.ref L) H'
theorem ok_sh {f : Addr} {fd : FuncData} {k : Nat} (F : Fun K "_law_shares" "_law_shares" sSh f fd) (m_range : mg "range" = none) (m_sum : mg "sum" = none) : FnOk P w K mg base CX0 (k + 1) f fd ["_law_size", "_law_many"] (spSh K) := by
  refine F.ok scSh (fun vs H Q E h => ?_) (fun cdv A outer s H vs Q E hr h => ?_)
  · obtain ⟨n, m, rfl, _⟩ := h
    rfl
  obtain ⟨n, m, rfl, hn, hm, q⟩ := h
  refine ⟨_, (pss_cons (ps_set (i := 2) scSh.nd rfl (.inl rfl) (pe_lst (pa_cons (pe_tup pa_nil) pa_nil)))
    (pss_cons (ps_for PassesOwn.never rfl (pi_range1 rfl m_range (pa_cons (pv 0) pa_nil)) (pg_name (i := 3) scSh.nd rfl (.inr rfl))
    (pss_cons (ps_set (i := 4) scSh.nd rfl (.inl rfl) (pe_lst pa_nil))
    (pss_cons (ps_for PassesOwn.never rfl (pi_seq (pv 2)) (pg_name (i := 5) scSh.nd rfl (.inr rfl))
    (pss_cons (ps_set (i := 6) scSh.nd rfl (.inr rfl) (pe_op op_sub (pv 1) (pe_callB (r := rSumT K) (cr_sumT rfl) rfl m_sum boot_sum' (pa_cons (pv 5) pa_nil))))
    (pss_one (ps_set (i := 4) scSh.nd rfl (.inl rfl) (pe_op op_cat (pv 4) (pe_lc (own := [("_law_boats", 7)]) (g := gName 7) rfl scSh.nd (pi_range1 rfl m_range (pa_cons (pe_op op_add (pv 6) pe_int) pa_nil)) (blkOk_by (own := [("_law_boats", 7)]) (N := nSh) (sc := defScope sSh) (by decide +kernel)) (fun _ _ _ _ _ => (pg_name (i := 7) scSh.nd rfl (.inl rfl))) (fun _ _ _ _ _ => (pts_one (PW.pt (pw_or (pt_cmpR op_lt (pv 3) (pe_op op_sub (pv 0) pe_int) (nomark _)) (pw_or1 (pt_cmpR op_eq (pv 7) (pv 6) (nomark _))))))) (fun _ _ _ _ _ => pe_hide (pe_op (r := rCatU K) op_catU (pv 5) (pe_tup (pa_cons (pv 7) pa_nil))))))))))
    (pss_one (ps_set (i := 2) scSh.nd rfl (.inl rfl) (pv 4))))))
    (pss_one (ps_ret (pv 2))))), ?_⟩
  refine ⟨(by show 0 ≤ sizeLine; decide), fun t0 nt0 => ⟨(by show 1 ≤ sizeLine; decide), fun L0 nL0 => ?_⟩⟩
  have a0 := same_new nt0 (o := .tup [])
  have b0 := same_new nL0 (o := .lst [.ref t0])
  have T0 : TusAt K (upd (upd H t0 (.tup [])) L0 (.lst [.ref t0])) L0 [[]] [.ref t0] := ⟨upd_same, .one ⟨t0, rfl, .inl (.inl (b0 _ _ upd_same))⟩⟩
  have s0 := a0.trans b0
  have nL0' : H L0 = none := a0.free nL0
  generalize upd (upd H t0 (.tup [])) L0 (.lst [.ref t0]) = H1 at s0 T0
  refine at_g (σ' := [some (.int n), some (.int m), some (.ref L0), none, none, none, none, none]) rfl ?_
  refine ⟨_, rfl, nil_go ⟨_, rfl, by omega, by omega, ?_⟩⟩
  rw [show ((n : Nat) : Int).toNat = n by omega]
  refine for_it walk_range (fun k σ G => ∃ (L : Addr) (xss : List (List Int)) (us : List V) (y3 y4 y5 y6 : Option V), σ = [some (.int n), some (.int m), some (.ref L), y3, y4, y5, y6, none] ∧ Same H G ∧ H L = none ∧ TusAt K G L xss us ∧ xss ≠ [] ∧ xss.length ≤ 4 ^ k ∧ ∀ xs ∈ xss, Shr k m xs) ⟨L0, [[]], _, none, none, none, none, rfl, s0, nL0', T0, by simp, by decide, fun xs hx => by obtain rfl := List.mem_singleton.mp hx; exact ⟨rfl, (fun z hz => by cases hz), by show (0 : Int) ≤ m; omega⟩⟩ (fun _ _ _ _ _ => trivial) (fun k x σ G G' hk h hy => ?_) (fun σ G h => ?_)
  · obtain ⟨L, xss, us, y3, y4, y5, y6, rfl, sG, nL, T, hne, hl, hsh⟩ := h
    obtain ⟨rfl, rfl⟩ := hy
    have h256 : xss.length ≤ 64 := Nat.le_trans hl (Nat.pow_le_pow_right (by decide) (by omega : k ≤ 3))
    refine at_g (σ' := [some (.int n), some (.int m), some (.ref L), some (.int (k : Int)), y4, y5, y6, none]) (by show [some (V.int n), some (.int m), some (.ref L), some (.int (0 + (k : Int))), y4, y5, y6, none] = _; rw [Int.zero_add]) ?_
    refine ⟨(by show 0 ≤ sizeLine; decide), fun M0 nM0 => ?_⟩
    have b1 := same_new nM0 (o := .lst [])
    have T1 : TusAt K (upd G' M0 (.lst [])) M0 [] [] := ⟨upd_same, .nil⟩
    have nM0' : H M0 = none := sG.free nM0
    have TL := T.same b1
    have sG1 := sG.trans b1
    generalize upd G' M0 (.lst []) = G1 at b1 T1 TL sG1
    refine at_g (σ' := [some (.int n), some (.int m), some (.ref L), some (.int (k : Int)), some (.ref M0), y5, y6, none]) rfl ?_
    have ul : us.length = xss.length := T.p.1
    refine ⟨_, rfl, L, us, rfl, .inl (SqL.of TL.e), fun J wk => for_it wk (fun i σ Z => ∃ (M : Addr) (yss : List (List Int)) (vs : List V) (y5 y6 : Option V), σ = [some (.int n), some (.int m), some (.ref L), some (.int (k : Int)), some (.ref M), y5, y6, none] ∧ Same G1 Z ∧ H M = none ∧ TusAt K Z M yss vs ∧ (1 ≤ i → yss ≠ []) ∧ yss.length ≤ i * 4 ∧ ∀ ys ∈ yss, Shr (k + 1) m ys) ⟨M0, [], [], y5, y6, rfl, Same.refl _, nM0', T1, (fun h => absurd h (by decide)), Nat.le_refl _, fun ys hy => by cases hy⟩ (fun i σ Z hi h => ?_) (fun i x σ Z Z' hi h hy => ?_) (fun σ Z h => ?_)⟩
    · obtain ⟨M, yss, vs, y5, y6, rfl, sZ, _⟩ := h
      exact seq_stay TL.e (sZ _ _ TL.e)
    · obtain ⟨M, yss, vs, y5, y6, rfl, sZ, nM, TM, hne', hl', hsh'⟩ := h
      obtain ⟨rfl, hx⟩ := hy
      obtain ⟨xs, hxs, t, rfl, ht⟩ := TL.p.2 i x hx
      have hm' := hsh xs (List.mem_iff_getElem?.mpr ⟨i, hxs⟩)
      have htz := Same.tup sZ ht
      refine at_g (σ' := [some (.int n), some (.int m), some (.ref L), some (.int (k : Int)), some (.ref M), some (.ref t), y6, none]) rfl ?_
      refine ⟨_, rfl, _, rfl, nil_go ⟨t, xs, rfl, htz, _, _, rfl, rfl, ?_⟩⟩
      refine at_g (σ' := [some (.int n), some (.int m), some (.ref L), some (.int (k : Int)), some (.ref M), some (.ref t), some (.int ((m : Int) - xs.sum)), none]) rfl ?_
      obtain ⟨c1, c2, c3⟩ := hm'
      have s0 := (le_sum c2).1
      refine ⟨_, rfl, _, rfl, _, _, rfl, rfl, nil_go ⟨_, rfl, by omega, by omega, lc_filt walk_range Same (fun a b => a.trans b) (itS k n m xs) (TuR K) (fun p y A B q h => h.same q) (small1000' (by omega)) Same.refl (fun _ _ _ _ _ => trivial) (fun j x D acc F H' hj nD sF nF hl hy Nx hno hyes => ?_) (fun D ys F nD sF nF hp => ?_)⟩⟩
      · obtain ⟨rfl, rfl⟩ := hy
        show gName 7 (V.int (0 + (j : Int))) _ _ _
        rw [Int.zero_add]
        have put : itS k n m xs j = some (xs ++ [(j : Int)]) → tHide (tOp (rCatU K) (tVar 5) (tTup (tCons (tVar 7) tNil))) [some (.int n), some (.int m), some (.ref L), some (.int (k : Int)), some (.ref M), some (.ref t), some (.int ((m : Int) - xs.sum)), some (.int (j : Int))] (upd F D (.lst acc)) fun y H4 => ∃ acc, H4 D = some (.lst acc) ∧ acc.length < sizeLine ∧ Nx (upd H4 D (.lst (acc ++ [y]))) := fun e => hide_put nF hl fun Q hQ => by
          refine ⟨_, rfl, _, rfl, (by show 1 ≤ sizeLine; decide), fun p np => ?_⟩
          have sp := same_new np (o := .tup [.int (j : Int)])
          refine ⟨t, p, _, _, rfl, rfl, Same.tup (sF.trans sp) htz, .inl (.inl upd_same), (by rw [List.length_map, c1]; exact Nat.le_of_lt (small1000' (by simp; omega))), fun p2 H2 s2 q2 => ?_⟩
          refine hQ _ _ (hyes _ e _ _ (sp.trans s2) ⟨p2, rfl, by rw [List.map_append]; exact q2⟩)
        refine ⟨rfl, _, rfl, _, rfl, _, _, rfl, rfl, _, _, rfl, rfl, _, rfl, ?_⟩
        by_cases h1 : k < n - 1
        · rw [decide_eq_true (show ((k : Int) < (n : Int) - 1) by omega)]
          exact iteT (iteT (put (by unfold itS; rw [if_pos (.inl h1)])))
        · rw [decide_eq_false (show ¬ ((k : Int) < (n : Int) - 1) by omega)]
          refine iteF ⟨_, rfl, _, rfl, rfl, _, rfl, ?_⟩
          by_cases h2 : (j : Int) = m - xs.sum
          · rw [decide_eq_true (show V.int (j : Int) = V.int ((m : Int) - xs.sum) by rw [h2])]
            exact iteT (put (by unfold itS; rw [if_pos (.inr h2)]))
          · rw [decide_eq_false (fun z => h2 (V.int.inj z))]
            exact iteF (hno (by unfold itS; rw [if_neg (fun z => z.elim h1 h2)]) _ (Same.refl _) nF)
      · have sD := sF.trans (same_new nF (o := .lst ys))
        have eD : (upd F D (.lst ys)) D = some (.lst ys) := upd_same
        replace hp := hp.mono (B := upd F D (.lst ys)) fun p y h => h.same (same_new nF)
        generalize upd F D (.lst ys) = FD at sD eD hp
        have lf := filterMap_le (itS k n m xs) ((m : Int) - xs.sum + 1).toNat
        have MD := TM.same sD
        have i64 : i < us.length := hi
        refine ⟨M, D, vs, ys, rfl, rfl, MD.e, eD, (by rw [MD.p.1, hp.1]; exact Nat.le_of_lt (small1000' (by omega))), fun M2 nM2 => ?_⟩
        have s2 := same_new nM2 (o := .lst (vs ++ ys))
        refine at_g (σ' := [some (.int n), some (.int m), some (.ref L), some (.int (k : Int)), some (.ref M2), some (.ref t), some (.int ((m : Int) - xs.sum)), none]) rfl ?_
        refine ⟨M2, yss ++ (List.range ((m : Int) - xs.sum + 1).toNat).filterMap (itS k n m xs), vs ++ ys, _, _, rfl, sZ.trans (sD.trans s2), (sG1.trans (sZ.trans sD)).free nM2, ⟨upd_same, (MD.p.append hp).mono fun p y h => h.same s2⟩, fun _ z => shr_ne ⟨c1, c2, c3⟩ (List.append_eq_nil_iff.mp z).2, ?_, fun zs hz => ?_⟩
        · rw [List.length_append]; omega
        · rcases List.mem_append.mp hz with hz | hz
          · exact hsh' zs hz
          · exact shr_it ⟨c1, c2, c3⟩ hz
    · obtain ⟨M, yss, vs, y5, y6, rfl, sZ, nM, TM, hne', hl', hsh'⟩ := h
      refine ⟨_, rfl, ?_⟩
      refine at_g (σ' := [some (.int n), some (.int m), some (.ref M), some (.int (k : Int)), some (.ref M), y5, y6, none]) rfl ?_
      refine ⟨M, yss, vs, _, _, _, _, rfl, sG1.trans sZ, nM, TM, hne' (by rw [ul]; exact List.length_pos_iff.mpr hne), ?_, hsh'⟩
      rw [Nat.pow_succ]
      have : us.length * 4 ≤ 4 ^ k * 4 := Nat.mul_le_mul_right 4 (by omega)
      omega
  · obtain ⟨L, xss, us, y3, y4, y5, y6, rfl, sG, nL, T, hne, hl, hsh⟩ := h
    refine ⟨_, rfl, q L xss us _ sG nL T hne (Nat.le_trans hl (Nat.pow_le_pow_right (by decide) hn)) hsh⟩
end
end XL
namespace XL
open PySem PySem.Spec PyProof.Rows L2
/-- k locks, each high or low -/
def Hgh (k : Nat) (xs : List Int) : Prop := xs.length = k ∧ ∀ z ∈ xs, z = 0 ∨ z = 1
theorem hgh_snoc {k : Nat} {xs : List Int} (h : Hgh k xs) {z : Int} (hz : z = 0 ∨ z = 1) : Hgh (k + 1) (xs ++ [z]) := ⟨by rw [List.length_append, h.1]; rfl, fun y hy => by
  rcases List.mem_append.mp hy with q | q
  · exact h.2 y q
  · rw [List.mem_singleton.mp q]; exact hz⟩
section
variable {P : Program} {w : World} {K : PySem.W.Frag} {mg : Str → Option Value} {base : Heap}
/-! ### highs -/
abbrev nHg : List Str := ["_law_size", "_law_found", "_law_k", "_law_some"]
theorem scHg : FnScope nHg ["_law_size"] (defScope sHg) := ⟨rfl, rfl, rfl, by decide +kernel, rfl, by decide +kernel, by decide +kernel⟩
def spHg (K : PySem.W.Frag) : Sp := fun vs H Q _ => ∃ n : Nat, vs = [.int n] ∧ n ≤ 4 ∧
  ∀ (L : Addr) (xss : List (List Int)) (us : List V) (H' : Hp), Same H H' → H L = none → TusAt K H' L xss us → xss ≠ [] → xss.length ≤ 16 → (∀ xs ∈ xss, Hgh n xs) → Q (.ref L) H'
theorem ok_hg {f : Addr} {fd : FuncData} {k : Nat} (F : Fun K "_law_highs" "_law_highs" sHg f fd) (m_range : mg "range" = none) : FnOk P w K mg base CX0 (k + 1) f fd ["_law_size"] (spHg K) := by
  refine F.ok scHg (fun vs H Q E h => ?_) (fun cdv A outer s H vs Q E hr h => ?_)
  · obtain ⟨n, rfl, _⟩ := h
    rfl
  obtain ⟨n, rfl, hn, q⟩ := h
  refine ⟨_, (pss_cons (ps_set (i := 1) scHg.nd rfl (.inl rfl) (pe_lst (pa_cons (pe_tup pa_nil) pa_nil)))
    (pss_cons (ps_for PassesOwn.never rfl (pi_range1 rfl m_range (pa_cons (pv 0) pa_nil)) (pg_name (i := 2) scHg.nd rfl (.inl rfl))
    (pss_one (ps_set (i := 1) scHg.nd rfl (.inl rfl) (pe_op op_cat (pe_lc (own := [("_law_some", 3)]) (g := gName 3) (tt := tYes) rfl scHg.nd (pi_seq (pv 1)) (blkOk_by (own := [("_law_some", 3)]) (N := nHg) (sc := defScope sHg) (by decide +kernel)) (fun _ _ _ _ _ => (pg_name (i := 3) scHg.nd rfl (.inl rfl))) (fun _ _ _ _ _ => pts_nil) (fun _ _ _ _ _ => pe_hide (pe_op (r := rCatU K) op_catU (pv 3) (pe_tup (pa_cons pe_int pa_nil))))) (pe_lc (own := [("_law_some", 3)]) (g := gName 3) (tt := tYes) rfl scHg.nd (pi_seq (pv 1)) (blkOk_by (own := [("_law_some", 3)]) (N := nHg) (sc := defScope sHg) (by decide +kernel)) (fun _ _ _ _ _ => (pg_name (i := 3) scHg.nd rfl (.inl rfl))) (fun _ _ _ _ _ => pts_nil) (fun _ _ _ _ _ => pe_hide (pe_op (r := rCatU K) op_catU (pv 3) (pe_tup (pa_cons pe_int pa_nil)))))))))
    (pss_one (ps_ret (pv 1))))), ?_⟩
  refine ⟨(by show 0 ≤ sizeLine; decide), fun t0 nt0 => ⟨(by show 1 ≤ sizeLine; decide), fun L0 nL0 => ?_⟩⟩
  have a0 := same_new nt0 (o := .tup [])
  have b0 := same_new nL0 (o := .lst [.ref t0])
  have T0 : TusAt K (upd (upd H t0 (.tup [])) L0 (.lst [.ref t0])) L0 [[]] [.ref t0] := ⟨upd_same, .one ⟨t0, rfl, .inl (.inl (b0 _ _ upd_same))⟩⟩
  have s0 := a0.trans b0
  have nL0' : H L0 = none := a0.free nL0
  generalize upd (upd H t0 (.tup [])) L0 (.lst [.ref t0]) = H1 at s0 T0
  refine at_g (σ' := [some (.int n), some (.ref L0), none, none]) rfl ?_
  refine ⟨_, rfl, nil_go ⟨_, rfl, by omega, by omega, ?_⟩⟩
  rw [show ((n : Nat) : Int).toNat = n by omega]
  refine for_it walk_range (fun k σ G => ∃ (L : Addr) (xss : List (List Int)) (us : List V) (y2 : Option V), σ = [some (.int n), some (.ref L), y2, none] ∧ Same H G ∧ H L = none ∧ TusAt K G L xss us ∧ xss ≠ [] ∧ xss.length ≤ 2 ^ k ∧ ∀ xs ∈ xss, Hgh k xs) ⟨L0, [[]], _, none, rfl, s0, nL0', T0, by simp, by decide, fun xs hx => by obtain rfl := List.mem_singleton.mp hx; exact ⟨rfl, fun z hz => by cases hz⟩⟩ (fun _ _ _ _ _ => trivial) (fun k x σ G G' hk h hy => ?_) (fun σ G h => ?_)
  · obtain ⟨L, xss, us, y2, rfl, sG, nL, T, hne, hl, hsh⟩ := h
    obtain ⟨rfl, rfl⟩ := hy
    have h16 : xss.length ≤ 8 := Nat.le_trans hl (Nat.pow_le_pow_right (by decide) (by omega : k ≤ 3))
    have ul : us.length = xss.length := T.p.1
    refine at_g (σ' := [some (.int n), some (.ref L), some (.int (0 + (k : Int))), none]) rfl ?_
    have each : ∀ (z : Int) (vs : List Nat) (Z : Hp) (Nx : Addr → Hp → Prop), Same G' Z → (∀ (D : Addr) (ys : List V) (F : Hp), Same Z F → F D = none → Z D = none → Parts (TuR K) (xss.map (· ++ [z])) ys F → Nx D (upd F D (.lst ys))) →
        ∀ J, Walk J us.length (fun H => (¬ SqT K Z L us → SqL K Z L us → SqL K H L us) ∧ (SqT K Z L us → SqT K H L us)) (YAt us) → ∀ D, Z D = none → ∃ W : Nat → Nat → Hp → Prop, (∃ m, W 0 m (upd Z D (.lst []))) ∧ ∀ i m H, W i m H →
      (J.stop i H ∧ Nx D H) ∨ (J.go i H ∧ ∃ Nx : Hp → Prop, (∀ H', Nx H' → ∃ m', m' < m ∧ W (i + 1) m' H') ∧ ∀ x H', J.yld i H x H' → gName 3 x (wipe [some (.int n), some (.ref L), some (.int (0 + (k : Int))), none] [3]) H' fun σ2 H2 => wipe σ2 [3] = wipe [some (.int n), some (.ref L), some (.int (0 + (k : Int))), none] [3] ∧ tYes σ2 H2 fun b H3 =>
        if b = true then tHide (tOp (rCatU K) (tVar 3) (tTup (tCons (tC (.int z)) tNil))) σ2 H3 fun y H4 => ∃ acc, H4 D = some (.lst acc) ∧ acc.length < sizeLine ∧ Nx (upd H4 D (.lst (acc ++ [y]))) else Nx H3) := by
      intro z vs Z Nx sZ hNx J wk
      have TZ := T.same sZ
      refine lc_map wk Same (fun a b => a.trans b) (fun i y F => ∃ xs, xss[i]? = some xs ∧ TuR K (xs ++ [z]) y F) (fun i y A B q ⟨xs, h1, h2⟩ => ⟨xs, h1, h2.same q⟩) (small1000' (by omega)) (Same.refl _) (fun F D acc sF nF => seq_stay TZ.e ((sF.trans (same_new nF)) _ _ TZ.e)) (fun i x D acc F H' hi nD sF nF hy B hB => ?_) (fun D ys F nD sF nF hyl hR => ?_)
      · obtain ⟨rfl, hx⟩ := hy
        obtain ⟨xs, hxs, t, rfl, ht⟩ := TZ.p.2 i x hx
        have hlen := (hsh xs (List.mem_iff_getElem?.mpr ⟨i, hxs⟩)).1
        refine hB _ F rfl nF fun Qt hq => ?_
        refine ⟨_, rfl, (by show 1 ≤ sizeLine; decide), fun p np => ?_⟩
        have sp := same_new np (o := .tup [.int z])
        exact ⟨t, p, _, _, rfl, rfl, Same.tup (sF.trans sp) ht, .inl (.inl upd_same), (by rw [List.length_map, hlen]; exact Nat.le_of_lt (small1000' (by simp; omega))), fun p2 H2 s2 q2 => hq _ _ (sp.trans s2) ⟨xs, hxs, p2, rfl, by rw [List.map_append]; exact q2⟩⟩
      · refine hNx D ys F sF nF nD ⟨by rw [hyl, List.length_map, ul], fun j y hj => ?_⟩
        obtain ⟨xs, h1, h2⟩ := hR j y hj
        exact ⟨xs ++ [z], by rw [List.getElem?_map, h1]; rfl, h2⟩
    refine ⟨_, rfl, L, us, rfl, .inl (SqL.of T.e), fun J wk => ?_⟩
    refine each 0 [] G' _ (Same.refl _) (fun D ys F sF nF nD hp => ?_) J wk
    have sD := sF.trans (same_new nF (o := .lst ys))
    have eD : (upd F D (.lst ys)) D = some (.lst ys) := upd_same
    replace hp := hp.mono (B := upd F D (.lst ys)) fun p y h => h.same (same_new nF)
    generalize upd F D (.lst ys) = FD at sD eD hp
    refine ⟨_, rfl, L, us, rfl, .inl (SqL.of (sD _ _ T.e)), fun J2 wk2 => each 1 [] FD _ sD (fun D2 ys2 F2 sF2 nF2 nD2 hp2 => ?_) J2 wk2⟩
    have sD2 := sF2.trans (same_new nF2 (o := .lst ys2))
    have eD2 : (upd F2 D2 (.lst ys2)) D2 = some (.lst ys2) := upd_same
    replace hp2 := hp2.mono (B := upd F2 D2 (.lst ys2)) fun p y h => h.same (same_new nF2)
    generalize upd F2 D2 (.lst ys2) = FD2 at sD2 eD2 hp2
    have l1 : ys.length = xss.length := by have := hp.1; rw [List.length_map] at this; exact this
    have l2 : ys2.length = xss.length := by have := hp2.1; rw [List.length_map] at this; exact this
    refine ⟨D, D2, ys, ys2, rfl, rfl, sD2 _ _ eD, eD2, Nat.le_of_lt (small1000' (by omega)), fun M nM => ?_⟩
    have sM := same_new nM (o := .lst (ys ++ ys2))
    refine at_g (σ' := [some (.int n), some (.ref M), some (.int (0 + (k : Int))), none]) rfl ?_
    refine ⟨M, xss.map (· ++ [0]) ++ xss.map (· ++ [1]), ys ++ ys2, _, rfl, sG.trans (sD.trans (sD2.trans sM)), (sG.trans (sD.trans sD2)).free nM, ⟨upd_same, ((hp.mono fun p y h => h.same sD2).append hp2).mono fun p y h => h.same sM⟩, fun z => ?_, ?_, fun xs hx => ?_⟩
    · have := (List.append_eq_nil_iff.mp z).1
      rw [List.map_eq_nil_iff] at this
      exact hne this
    · rw [List.length_append, List.length_map, List.length_map, Nat.pow_succ]; omega
    · rcases List.mem_append.mp hx with h | h
      · obtain ⟨y, hy, rfl⟩ := List.mem_map.mp h
        exact hgh_snoc (hsh y hy) (.inl rfl)
      · obtain ⟨y, hy, rfl⟩ := List.mem_map.mp h
        exact hgh_snoc (hsh y hy) (.inr rfl)
  · obtain ⟨L, xss, us, y2, rfl, sG, nL, T, hne, hl, hsh⟩ := h
    refine ⟨_, rfl, q L xss us _ sG nL T hne (Nat.le_trans hl (Nat.pow_le_pow_right (by decide) hn)) hsh⟩
end
end XL
namespace XL
open PySem PySem.Spec PyProof.Rows L2
abbrev sCo : Stmt := topS 39
def kyS (s : Sn) : NestedKey := .tup [.tup (s.rs.map .num), .tup (s.bs.map .num), .tup (s.ls.map .num)]
theorem datas_num : ∀ zs : List Int, NestedKey.datas (zs.map .num) = intsD zs
  | [] => rfl
  | z :: zs => by show PyData.int z :: NestedKey.datas (zs.map .num) = .int z :: intsD zs; rw [datas_num zs]
theorem depths_num : ∀ zs : List Int, NestedKey.depthAll (zs.map .num) = 0
  | [] => rfl
  | z :: zs => by show max 0 (NestedKey.depthAll (zs.map .num)) = 0; rw [depths_num zs]; rfl
theorem kyS_data (s : Sn) : (kyS s).data = snD s := by
  unfold kyS
  simp only [NestedKey.data, NestedKey.datas, datas_num]
  rfl
theorem kyS_depth (s : Sn) : (kyS s).depth ≤ 8 := by
  unfold kyS
  simp only [NestedKey.depth, NestedKey.depthAll, depths_num]
  decide
theorem ky_at {K : PySem.W.Frag} {H : Hp} {b : Addr} {s : Sn} (h : Dp K H (.ref b) (snD s)) : KyAt K H (kyS s) b := ⟨by rw [kyS_data]; exact h, kyS_depth s⟩
theorem ints_inj : ∀ {a b : List Int}, intsD a = intsD b → a = b
  | [], [], _ => rfl
  | [], y :: b, h => by cases h
  | x :: a, [], h => by cases h
  | x :: a, y :: b, h => by
    have h' : PyData.int x :: intsD a = .int y :: intsD b := h
    injection h' with h1 h2
    injection h1 with h1
    rw [h1, ints_inj h2]
theorem snD_inj {s t : Sn} (h : snD s = snD t) : s = t := by
  unfold snD at h
  injection h with h
  injection h with h1 h
  injection h with h2 h
  injection h with h3 h
  injection h1 with h1
  injection h2 with h2
  injection h3 with h3
  obtain ⟨a, b, c⟩ := s
  obtain ⟨a', b', c'⟩ := t
  have e1 : a = a' := ints_inj h1
  have e2 : b = b' := ints_inj h2
  have e3 : c = c' := ints_inj h3
  rw [e1, e2, e3]
theorem kyS_inj {s t : Sn} (h : kyS s = kyS t) : s = t := snD_inj (by rw [← kyS_data, ← kyS_data, h])
theorem dp_ref {K : PySem.W.Frag} {H : Hp} {v : V} {s : Sn} (h : Dp K H v (snD s)) : ∃ a : Addr, v = .ref a := by
  cases h with
  | tup _ _ => exact ⟨_, rfl⟩
/-- the dict's entries are these standings, so far away -/
structure FarE (K : PySem.W.Frag) (H : Hp) (es : List NE) (xs : Ds) : Prop where
  l : es.length = xs.length
  d : ∀ (i : Nat) (e : NE), es[i]? = some e → ∃ x, xs[i]? = some x ∧ e.1 = kyS x.1 ∧ Dp K H (.ref e.2.1) (snD x.1) ∧ e.2.2 = .int (x.2 : Nat)
section
variable {K : PySem.W.Frag} {H H' : Hp} {es : List NE} {xs : Ds}
theorem FarE.move (h : FarE K H es xs) (t : Tp H H') : FarE K H' es xs := ⟨h.l, fun i e he => by
  obtain ⟨x, a, b, c, d⟩ := h.d i e he
  exact ⟨x, a, b, Dp.tp t _ (noL_sn _) c, d⟩⟩
theorem FarE.ky (h : FarE K H es xs) : ∀ e ∈ es, KyAt K H e.1 e.2.1 := fun e he => by
  obtain ⟨i, hi⟩ := List.mem_iff_getElem?.mp he
  obtain ⟨x, _, b, c, _⟩ := h.d i e hi
  rw [b]; exact ky_at c
theorem FarE.snoc (h : FarE K H es xs) {b : Addr} {s : Sn} {n : Nat} (hb : Dp K H (.ref b) (snD s)) : FarE K H (es ++ [(kyS s, b, .int (n : Nat))]) (xs ++ [(s, n)]) := ⟨by rw [List.length_append, List.length_append, h.l]; rfl, fun i e he => by
  by_cases q : i < es.length
  · rw [List.getElem?_append_left q] at he
    obtain ⟨x, a, z⟩ := h.d i e he
    exact ⟨x, by rw [List.getElem?_append_left (by rw [← h.l]; exact q)]; exact a, z⟩
  · rw [List.getElem?_append_right (by omega)] at he
    have i0 : i - es.length = 0 := by
      have := (List.getElem?_eq_some_iff.mp he).1
      simp at this; omega
    rw [i0] at he
    obtain rfl := Option.some.inj he
    exact ⟨(s, n), by rw [List.getElem?_append_right (by rw [← h.l]; omega), ← h.l, i0]; rfl, rfl, hb, rfl⟩⟩
/-- what the dict tells of a standing -/
theorem atN_mem : ∀ {es : List NE} {k : NestedKey} {v : V}, atN es k = some v → ∃ e ∈ es, e.1 = k ∧ e.2.2 = v
  | [], k, v, h => by cases h
  | e :: es, k, v, h => by
    unfold atN at h
    split at h
    · exact ⟨e, List.mem_cons_self .., by assumption, Option.some.inj h⟩
    · obtain ⟨x, hx, a⟩ := atN_mem h
      exact ⟨x, List.mem_cons_of_mem _ hx, a⟩
theorem atN_none : ∀ {es : List NE} {k : NestedKey}, atN es k = none ↔ ∀ e ∈ es, e.1 ≠ k
  | [], k => ⟨fun _ e he => (by cases he), fun _ => rfl⟩
  | e :: es, k => by
    unfold atN
    by_cases q : e.1 = k
    · rw [if_pos q]
      exact ⟨fun h => (by cases h), fun h => absurd q (h e (List.mem_cons_self ..))⟩
    · rw [if_neg q, atN_none (es := es)]
      exact ⟨fun h x hx => by rcases List.mem_cons.mp hx with rfl | hx; exact q; exact h x hx, fun h x hx => h x (List.mem_cons_of_mem _ hx)⟩
theorem FarE.get (h : FarE K H es xs) (nd : (xs.map (·.1)).Nodup) {s : Sn} {n : Nat} (hm : (s, n) ∈ xs) : atN es (kyS s) = some (.int (n : Nat)) := by
  cases q : atN es (kyS s) with
  | none =>
    obtain ⟨i, hi⟩ := List.mem_iff_getElem?.mp hm
    have il := (List.getElem?_eq_some_iff.mp hi).1
    have he : es[i]? = some (es[i]'(by rw [h.l]; exact il)) := List.getElem?_eq_getElem _
    obtain ⟨x, a, b, _⟩ := h.d i _ he
    rw [hi] at a
    obtain rfl := Option.some.inj a
    exact absurd b (atN_none.mp q _ (List.mem_iff_getElem?.mpr ⟨i, he⟩))
  | some v =>
    obtain ⟨e, he, e1, e2⟩ := atN_mem q
    obtain ⟨i, hi⟩ := List.mem_iff_getElem?.mp he
    obtain ⟨x, a, b, _, d⟩ := h.d i e hi
    have xs1 : x.1 = s := kyS_inj (b.symm.trans e1)
    obtain ⟨j, hj⟩ := List.mem_iff_getElem?.mp hm
    have g1 : (xs.map (·.1))[i]? = some s := by rw [List.getElem?_map, a]; exact congrArg some xs1
    have g2 : (xs.map (·.1))[j]? = some s := by rw [List.getElem?_map, hj]; rfl
    have ij : i = j := (List.getElem?_inj (by rw [List.length_map]; exact (List.getElem?_eq_some_iff.mp a).1) nd).mp (g1.trans g2.symm)
    subst ij
    rw [hj] at a
    obtain rfl := Option.some.inj a
    rw [← e2, d]
theorem FarE.none (h : FarE K H es xs) {s : Sn} (no : ∀ n, (s, n) ∉ xs) : atN es (kyS s) = none := atN_none.mpr fun e he q => by
  obtain ⟨i, hi⟩ := List.mem_iff_getElem?.mp he
  obtain ⟨x, a, b, _⟩ := h.d i e hi
  have : x.1 = s := kyS_inj (b.symm.trans q)
  exact no x.2 (by rw [← this]; exact List.mem_iff_getElem?.mpr ⟨i, a⟩)
end
theorem far_dec (xs : Ds) (s : Sn) : (∃ n, (s, n) ∈ xs) ∨ ∀ n, (s, n) ∉ xs := by
  by_cases h : ∃ n, (s, n) ∈ xs
  · exact .inl h
  · exact .inr fun n hn => h ⟨n, hn⟩
theorem small1000'' {x : Nat} (h : x ≤ 10000) : x < sizeLine := by rw [sizeLine_eq]; omega
theorem tp_dn {P : Program} {w : World} {H : Hp} {D : Addr} {es : List NE} {o : HO} (h : H D = some (DNo P w D es)) : Tp H (upd H D o) :=
  ⟨fun a xs e => by rw [upd_ne (fun z => by rw [z, h] at e; exact HO.noConfusion (Option.some.inj e))]; exact e, fun a o xs e => by rw [upd_ne (fun z => by rw [z, h] at e; exact HO.noConfusion (Option.some.inj e))]; exact e⟩
section
variable {P : Program} {w : World} {K : PySem.W.Frag} {mg : Str → Option Value} {base : Heap}
/-! ### come_to -/
abbrev nCo : List Str := ["_law_ship_way", "_law_lying", "_law_hue", "_law_found", "_law_line", "_law_spot", "_law_here", "_law_hop", "_law_later"]
theorem scCo : FnScope nCo ["_law_ship_way", "_law_lying", "_law_hue"] (defScope sCo) := ⟨rfl, rfl, rfl, by decide +kernel, rfl, by decide +kernel, by decide +kernel⟩
def spCo (P : Program) (w : World) (K : PySem.W.Frag) : Sp := fun vs H Q _ => ∃ (v u : V) (r : Bool) (c : Cn) (s : Sn) (M : Int), vs = [v, u, .str (wS r)] ∧ Dp K H v (cnD c) ∧ Dp K H u (snD s) ∧ okCn 4 4 c ∧ Stn c r M s ∧ M ≤ 3 ∧
  ∀ (D : Addr) (es : List NE) (xs : Ds) (H' : Hp), Same H H' → H D = none → H' D = some (DNo P w D es) → FarE K H' es xs → Far c r s xs → Q (.ref D) H'
theorem ok_co {f fs fb : Addr} {fd fds fdb : FuncData} {k : Nat} (F : Fun K "_law_come_to" "_law_come_to" sCo f fd) (St : Fns P w K mg base k "_law_steps" ["_law_ship_way", "_law_lying"] (spSt K) fs fds) (Be : Fns P w K mg base k "_law_behind" ["_law_ship_way", "_law_lying", "_law_hop"] (spBe K) fb fdb) (m_len : mg "len" = none) : FnOk P w K mg base CX0 (k + 1) f fd ["_law_ship_way", "_law_lying", "_law_hue"] (spCo P w K) := by
  refine F.ok scCo (fun vs H Q E h => ?_) (fun cdv A outer s H vs Q E hr h => ?_)
  · obtain ⟨v, u, r, c, s, M, rfl, _⟩ := h
    rfl
  obtain ⟨v, u, r, c, s, M, rfl, hc, hu, okc, st, hM, q⟩ := h
  refine ⟨_, (pss_cons (ps_par3 (i := 3) (j := 4) (l := 5) rfl scCo.nd rfl rfl rfl (by decide) (by decide) (by decide) rfl rfl rfl (pa_cons (pe_ndisp (hu10 hr.units) (pps_cons (pv 1) pe_int pps_nil)) (pa_cons (pe_lst (pa_cons (pv 1) pa_nil)) (pa_cons pe_int pa_nil))) rfl)
    (pss_cons (ps_while PassesOwn.never (pt_cmpR op_lt (pv 5) (pe_callB (r := rLenA K) call_lenA rfl m_len PySem.boot_len (pa_cons (pv 4) pa_nil)) (nomark _))
    (pss_cons (ps_set (i := 6) scCo.nd rfl (.inl rfl) (pe_ix (r := rIxA K) ix_any (pv 4) (pv 5) (fun _ _ => rfl)))
    (pss_cons (ps_for PassesOwn.never rfl (pi_seq (pe_fn St hr rfl (pa_cons (pv 0) (pa_cons (pv 6) pa_nil)))) (pg_name (i := 7) scCo.nd rfl (.inl rfl))
    (pss_cons (ps_set (i := 8) scCo.nd rfl (.inl rfl) (pe_fn Be hr rfl (pa_cons (pv 0) (pa_cons (pv 6) (pa_cons (pv 7) pa_nil)))))
    (pss_one (ps_if (PW.pt (pw_and (pt_cmpR op_eq (pe_ix (r := rIxA K) ix_any (pv 7) pe_int (fun _ _ => rfl)) (pv 2) (nomark _)) (pw_and1 (pt_cmp (pc_nnotin (hu10 hr.units) (pv 8) (pv 3)) rfl)))) (pss_cons (ps_nput (hu10 hr.units) (pv 3) (pv 8) (pe_op op_add (pe_nget (hu10 hr.units) (pv 3) (pv 6) (fun _ _ => rfl)) pe_int) rfl)
    (pss_one (ps_expr (pe_bm PySem.F.plainAttrs_list PySem.F.slot_list_append PySem.F.type_list_append mt_append (pv 4) (pa_cons (pv 8) pa_nil))))) pss_nil))))
    (pss_one (ps_set (i := 5) scCo.nd rfl (.inl rfl) (pe_op op_add (pv 5) pe_int))))))
    (pss_one (ps_ret (pv 3))))), ?_⟩
  obtain ⟨u, rfl⟩ := dp_ref hu
  refine fun D nD => ⟨_, rfl, upd_same, kyS s, u, _, rfl, ky_at (Dp.same (same_new nD) _ hu), ?_⟩
  rw [upd_upd]
  have a1 := same_new nD (o := DNo P w D [(kyS s, u, .int 0)])
  have eD1 : (upd H D (DNo P w D [(kyS s, u, .int 0)])) D = some (DNo P w D [(kyS s, u, .int 0)]) := upd_same
  refine ⟨_, rfl, (by show 1 ≤ sizeLine; decide), fun Ln nLn => ⟨_, _, _, rfl, ?_⟩⟩
  have a2 := same_new nLn (o := .lst [.ref u])
  have eL1 : (upd (upd H D (DNo P w D [(kyS s, u, .int 0)])) Ln (.lst [.ref u])) Ln = some (.lst [.ref u]) := upd_same
  have hDL : D ≠ Ln := fun z => by rw [← z, upd_same] at nLn; cases nLn
  have nLn' : H Ln = none := a1.free nLn
  have s1 := a1.trans a2
  replace eD1 := a2 _ _ eD1
  refine at_s (σ' := [some v, some (.ref u), some (.str (wS r)), some (.ref D), some (.ref Ln), some (.int ((0 : Nat) : Int)), none, none, none]) rfl ?_
  refine at_h (fun G => Same H G ∧ G D = some (DNo P w D [(kyS s, u, .int 0)]) ∧ G Ln = some (.lst [.ref u])) ⟨s1, eD1, eL1⟩ fun H1 hH1 => ?_
  clear s1 eD1 eL1 a1 a2 nLn
  obtain ⟨s1, eD1, eL1⟩ := hH1
  have okc' := ok100 (show okCn 10 12 c from ⟨okc.r1, by have := okc.r2; omega, okc.b1, by have := okc.b2; omega, by have := okc.n; omega, okc.l⟩)
  have stx : ∀ {p n : Nat} {xs : Ds}, Bf c r s p n xs → ∀ e ∈ xs, Stn c r M e.1 := fun B e he => by
    obtain ⟨ms, m1, m2, _, m4⟩ := B.d e he
    rw [← m4]; exact st.run okc m1 m2
  have bnd : ∀ {p n : Nat} {xs : Ds}, Bf c r s p n xs → xs.length ≤ 4096 := fun {p n xs} B => by
    have := stns_le okc hM B.nd fun x hx => by
      obtain ⟨e, he, rfl⟩ := List.mem_map.mp hx
      exact stx B e he
    rw [List.length_map] at this
    exact this
  refine ⟨fun m σ G => ∃ (p : Nat) (es : List NE) (xs : Ds) (y6 y7 y8 : Option V), σ = [some v, some (.ref u), some (.str (wS r)), some (.ref D), some (.ref Ln), some (.int (p : Int)), y6, y7, y8] ∧ Same H G ∧ G D = some (DNo P w D es) ∧ G Ln = some (.lst (es.map fun e => V.ref e.2.1)) ∧ FarE K G es xs ∧ Bf c r s p 0 xs ∧ p ≤ xs.length ∧ m + p = 4097, ⟨4097, 0, _, [(s, 0)], none, none, none, rfl, s1, eD1, eL1, ⟨rfl, fun i e he => ?_⟩, Bf.zero, Nat.zero_le _, rfl⟩, fun m σ G h => ?_⟩
  · cases i with
    | zero => obtain rfl := Option.some.inj he; exact ⟨(s, 0), rfl, rfl, Dp.same s1 _ hu, rfl⟩
    | succ i => simp at he
  obtain ⟨p, es, xs, y6, y7, y8, rfl, sG, eD, eL, fe, B, hp, hm⟩ := h
  have hlen := bnd B
  refine ⟨_, rfl, _, rfl, Ln, _, rfl, .inl (SqL.of eL), _, _, rfl, rfl, _, rfl, ?_⟩
  rw [List.length_map, fe.l]
  by_cases hlt : p < xs.length
  · rw [decide_eq_true (show (p : Int) < (xs.length : Nat) by omega)]
    refine iteT ⟨fun σ' G' => ∃ (p' : Nat) (es : List NE) (xs : Ds) (y6 y7 y8 : Option V), σ' = [some v, some (.ref u), some (.str (wS r)), some (.ref D), some (.ref Ln), some (.int (p' : Int)), y6, y7, y8] ∧ Same H G' ∧ G' D = some (DNo P w D es) ∧ G' Ln = some (.lst (es.map fun e => V.ref e.2.1)) ∧ FarE K G' es xs ∧ Bf c r s p' 0 xs ∧ p' ≤ xs.length ∧ p' = p + 1, fun σ' G' h => ?_, ?_⟩
    · obtain ⟨p', es', xs', z6, z7, z8, a, b, c1, d, e, f, g, rfl⟩ := h
      exact ⟨m - 1, by omega, p + 1, es', xs', z6, z7, z8, a, b, c1, d, e, f, g, by omega⟩
    have hx : xs[p]? = some (xs[p]'hlt) := List.getElem?_eq_getElem hlt
    generalize xs[p]'hlt = x at hx
    have he : es[p]? = some (es[p]'(by rw [fe.l]; exact hlt)) := List.getElem?_eq_getElem _
    generalize es[p]'(by rw [fe.l]; exact hlt) = e at he
    obtain ⟨x', hx', e1, e2, e3⟩ := fe.d p e he
    rw [hx] at hx'
    obtain rfl := Option.some.inj hx'
    obtain ⟨ek, ea, ev⟩ := e
    dsimp only at e1 e2 e3
    subst e1 e3
    have stX := stx B x (List.mem_iff_getElem?.mpr ⟨p, hx⟩)
    refine ⟨_, rfl, _, rfl, Ln, _, _, _, rfl, rfl, .inl (SqL.of eL), atI_nat (by rw [List.getElem?_map, he]; rfl), ?_⟩
    refine at_g (σ' := [some v, some (.ref u), some (.str (wS r)), some (.ref D), some (.ref Ln), some (.int (p : Int)), some (.ref ea), y7, y8]) rfl ?_
    refine ⟨_, rfl, _, rfl, nil_go ⟨v, .ref ea, c, x.1, M, rfl, Dp.same sG _ hc, snAny_t e2, okc', stX.ok, fun W us G1 s2 nW MW => ⟨W, us, rfl, .inl (SqL.of MW.e), fun J wk => ?_⟩⟩⟩
    refine for_it wk (fun n σ Z => ∃ (es' : List NE) (xs' : Ds) (y7 y8 : Option V), σ = [some v, some (.ref u), some (.str (wS r)), some (.ref D), some (.ref Ln), some (.int (p : Int)), some (.ref ea), y7, y8] ∧ Same H Z ∧ Z D = some (DNo P w D es') ∧ Z Ln = some (.lst (es'.map fun e => V.ref e.2.1)) ∧ FarE K Z es' xs' ∧ Bf c r s p n xs' ∧ xs'[p]? = some x ∧ Z W = some (.lst us) ∧ Tp G1 Z) ⟨es, xs, y7, y8, rfl, sG.trans s2, s2 _ _ eD, s2 _ _ eL, fe.move (Tp.of s2), B, hx, MW.e, Tp.of (Same.refl _)⟩ (fun n σ Z hn h => ?_) (fun n x1 σ Z Z' hn h hy => ?_) (fun σ Z h => ?_)
    · obtain ⟨es', xs', z7, z8, rfl, _, _, _, _, _, _, eW, _⟩ := h
      refine ⟨fun _ _ => SqL.of eW, fun z => ?_⟩
      rcases z with (z | ⟨o, z⟩) | z
      · rw [MW.e] at z; cases z
      · rw [MW.e] at z; cases z
      · exact .inr z
    · obtain ⟨es', xs', z7, z8, rfl, sZ, eD', eL', fe', B', hx', eW, tp⟩ := h
      obtain ⟨rfl, hu1⟩ := hy
      obtain ⟨t, m, rfl, hm1, et⟩ := MW.d n x1 hu1
      obtain ⟨mi, mq⟩ := m
      have et' := tp.t _ _ et
      have mm := mem_may.mp (List.mem_iff_getElem?.mpr ⟨n, hm1⟩)
      have e2' : Dp K Z' (.ref ea) (snD x.1) := Dp.tp tp _ (noL_sn _) (Dp.same s2 _ e2)
      refine at_g (σ' := [some v, some (.ref u), some (.str (wS r)), some (.ref D), some (.ref Ln), some (.int (p : Int)), some (.ref ea), some (.ref t), z8]) rfl ?_
      refine ⟨_, rfl, _, rfl, _, rfl, nil_go ⟨v, .ref ea, t, mi, mq, c, x.1, M, rfl, Dp.same sZ _ hc, snAny_t e2', .inr (.inl (.inl et')), mm.1, okc', stX.ok, fun v2 Z2 s3 dv2 => ?_⟩⟩
      obtain ⟨b2, rfl⟩ := dp_ref dv2
      refine at_g (σ' := [some v, some (.ref u), some (.str (wS r)), some (.ref D), some (.ref Ln), some (.int (p : Int)), some (.ref ea), some (.ref t), some (.ref b2)]) rfl ?_
      have sZ2 := sZ.trans s3
      replace eD' := s3 _ _ eD'
      replace eL' := s3 _ _ eL'
      replace fe' := fe'.move (Tp.of s3)
      replace eW := s3 _ _ eW
      replace tp := tp.trans (Tp.of s3)
      replace e2' := Dp.same s3 _ e2'
      have et2 := s3 _ _ et'
      refine ⟨_, rfl, t, _, _, _, rfl, rfl, .inr (.inl (.inl et2)), rfl, _, rfl, rfl, _, rfl, ?_⟩
      by_cases hq : mq = r
      · subst hq
        rw [decide_eq_true rfl]
        have key := B'.keep hx' hm1
        rcases far_dec xs' (goneS c x.1 mi mq) with ⟨n0, hn0⟩ | hno
        · refine iteT ⟨_, rfl, _, rfl, D, some (.int (n0 : Nat)), rfl, ⟨es', kyS (goneS c x.1 mi mq), b2, .inl eD', fe'.ky, rfl, ky_at dv2, (fe'.get B'.nd hn0).symm⟩, _, rfl, iteF ?_⟩
          exact ⟨es', xs', _, _, rfl, sZ2, eD', eL', fe', key fun _ => ⟨n0, hn0⟩, hx', eW, tp⟩
        · refine iteT ⟨_, rfl, _, rfl, D, none, rfl, ⟨es', kyS (goneS c x.1 mi mq), b2, .inl eD', fe'.ky, rfl, ky_at dv2, (fe'.none hno).symm⟩, _, rfl, iteT ?_⟩
          have lb := bnd B'
          refine ⟨_, rfl, _, rfl, D, .int (x.2 : Nat), rfl, ⟨es', kyS x.1, ea, .inl eD', fe'.ky, rfl, ky_at e2', (fe'.get B'.nd (List.mem_iff_getElem?.mpr ⟨p, hx'⟩)).symm⟩, _, _, rfl, rfl, _, rfl, _, rfl, D, _, rfl, ⟨es', kyS (goneS c x.1 mi mq), b2, eD', fe'.ky, rfl, ky_at dv2, fe'.none hno, small1000'' (by rw [fe'.l]; omega), rfl⟩, ?_⟩
          have wD : W ≠ D := fun z => by rw [z, eD] at nW; cases nW
          have wL : W ≠ Ln := fun z => by rw [z, eL] at nW; cases nW
          have tD := tp_dn (o := DNo P w D (es' ++ [(kyS (goneS c x.1 mi mq), b2, .int ((x.2 + 1 : Nat) : Int))])) eD'
          obtain ⟨Pf, hPf⟩ : ∃ Pf : Hp → Prop, Pf = fun Z3 => Same H Z3 ∧ Z3 D = some (DNo P w D (es' ++ [(kyS (goneS c x.1 mi mq), b2, V.int ((x.2 + 1 : Nat) : Int))])) ∧ Z3 Ln = some (.lst (es'.map fun e => V.ref e.2.1)) ∧ FarE K Z3 (es' ++ [(kyS (goneS c x.1 mi mq), b2, V.int ((x.2 + 1 : Nat) : Int))]) (xs' ++ [(goneS c x.1 mi mq, x.2 + 1)]) ∧ Z3 W = some (.lst us) ∧ Tp G1 Z3 := ⟨_, rfl⟩
          have hN : Pf (upd Z2 D (DNo P w D (es' ++ [(kyS (goneS c x.1 mi mq), b2, V.int ((x.2 + 1 : Nat) : Int))]))) := by
            rw [hPf]
            exact ⟨fun a o ha => by rw [upd_ne (ne_of_none ha nD)]; exact sZ2 _ _ ha, upd_same, by rw [upd_ne hDL.symm]; exact eL', (fe'.move tD).snoc (Dp.tp tD _ (noL_sn _) dv2), by rw [upd_ne wD]; exact eW, tp.trans tD⟩
          refine at_h Pf hN fun Z3 h3 => ?_
          rw [hPf] at h3
          obtain ⟨sZ3, eD3, eL3, fe3, eW3, tp3⟩ := h3
          have hl3 : (es'.map fun e => V.ref e.2.1).length < sizeLine := small1000'' (by rw [List.length_map, fe'.l]; omega)
          refine ⟨_, rfl, .inl ⟨rfl, _, SqL.of eL3⟩, _, rfl, nil_go ⟨Ln, _, _, rfl, rfl, eL3, hl3, ?_⟩⟩
          have tL := tp_lst (o := .lst ((es'.map fun e => V.ref e.2.1) ++ [.ref b2])) eL3
          have fe4 := fe3.move tL
          exact ⟨_, _, _, _, rfl, fun a o ha => by rw [upd_ne (ne_of_none ha nLn')]; exact sZ3 _ _ ha, by rw [upd_ne hDL]; exact eD3, by rw [upd_same, List.map_append]; rfl, fe4, B'.add hx' hm1 rfl hno, by rw [List.getElem?_append_left (List.getElem?_eq_some_iff.mp hx').1]; exact hx', by rw [upd_ne wL]; exact eW3, tp3.trans tL⟩
      · rw [decide_eq_false (fun z => hq (by have := congrArg isRed (V.str.inj z); rw [isRed_wS, isRed_wS] at this; exact this))]
        refine iteF (iteF ?_)
        exact ⟨es', xs', _, _, rfl, sZ2, eD', eL', fe', B'.keep hx' hm1 (fun z => absurd z hq), hx', eW, tp⟩
    · obtain ⟨es', xs', z7, z8, rfl, sZ, eD', eL', fe', B', hx', eW, tp⟩ := h
      refine ⟨_, rfl, _, _, rfl, rfl, ?_⟩
      refine at_g (σ' := [some v, some (.ref u), some (.str (wS r)), some (.ref D), some (.ref Ln), some (.int ((p + 1 : Nat) : Int)), some (.ref ea), z7, z8]) rfl ?_
      exact ⟨p + 1, es', xs', _, _, _, rfl, sZ, eD', eL', fe', B'.next hx' (by rw [← MW.l]; exact Nat.le_refl _), (List.getElem?_eq_some_iff.mp hx').1, rfl⟩
  · rw [decide_eq_false (show ¬ (p : Int) < (xs.length : Nat) by omega)]
    exact iteF ⟨_, rfl, q D es xs _ sG nD eD fe (B.done (by omega))⟩
end
end XL
namespace XL
open PySem PySem.Spec PyProof.Rows L2
abbrev sOr : Stmt := topS 40
theorem diffs_snoc : ∀ (xs ys : List Int) (x y : Int), xs.length = ys.length → diffs (xs ++ [x]) (ys ++ [y]) = diffs xs ys + if x = y then 0 else 1
  | [], [], x, y, _ => by show (if x = y then 0 else 1) + diffs [] [] = diffs [] [] + _; simp [diffs]
  | [], b :: ys, x, y, h => by simp at h
  | a :: xs, [], x, y, h => by simp at h
  | a :: xs, b :: ys, x, y, h => by
    show (if a = b then 0 else 1) + diffs (xs ++ [x]) (ys ++ [y]) = (if a = b then 0 else 1) + diffs xs ys + _
    rw [diffs_snoc xs ys x y (by simpa using h)]; omega
section
variable {P : Program} {w : World} {K : PySem.W.Frag} {mg : Str → Option Value} {base : Heap}
/-! ### one_right -/
abbrev nOr : List Str := ["_law_ship_way", "_law_lying", "_law_hue", "_law_far_by", "_law_later", "_law_due", "_law_moves", "_law_unlike", "_law_high", "_law_its"]
theorem scOr : FnScope nOr ["_law_ship_way", "_law_lying", "_law_hue", "_law_far_by", "_law_later"] (defScope sOr) := ⟨rfl, rfl, rfl, by decide +kernel, rfl, by decide +kernel, by decide +kernel⟩
def spOr (P : Program) (w : World) (K : PySem.W.Frag) : Sp := fun vs H Q _ => ∃ (v u1 u2 : V) (D : Addr) (r : Bool) (c : Cn) (s s2 : Sn) (es : List NE) (xs : Ds), vs = [v, u1, .str (wS r), .ref D, u2] ∧ Dp K H v (cnD c) ∧ Dp K H u1 (snD s) ∧ Dp K H u2 (snD s2) ∧ okCn 4 4 c ∧ okSn c 3 s ∧ okSn c 3 s2 ∧ Alone s r ∧ Alone s2 r ∧ H D = some (DNo P w D es) ∧ FarE K H es xs ∧ Far c r s xs ∧
  ∀ H' : Hp, Same H H' → Q (.bl true) H'
theorem ok_or {f fl fr : Addr} {fd fdl fdr : FuncData} {k : Nat} (F : Fun K "_law_one_right" "_law_one_right" sOr f fd) (Le : Fns P w K mg base k "leads" ["canal", "one", "other", "water"] (spLe K) fl fdl) (Rw : Fns P w K mg base k "row_alone" ["canal", "one", "other", "water"] (spRw K) fr fdr) (m_zip : mg "zip" = none) (m_int : mg "int" = none) (m_len : mg "len" = none) : FnOk P w K mg base CX0 (k + 1) f fd ["_law_ship_way", "_law_lying", "_law_hue", "_law_far_by", "_law_later"] (spOr P w K) := by
  refine F.ok scOr (fun vs H Q E h => ?_) (fun cdv A outer s0 H vs Q E hr h => ?_)
  · obtain ⟨v, u1, u2, D, r, c, s, s2, es, xs, rfl, _⟩ := h
    rfl
  obtain ⟨v, u1, u2, D, r, c, s, s2, es, xs, rfl, hc, h1, h2, okc, ok1, ok2, al1, al2, eD, fe, far, q⟩ := h
  refine ⟨_, (pss_cons (ps_set (i := 5) scOr.nd rfl (.inl rfl) (pe_cmp (pc_nin (hu10 hr.units) (pv 4) (pv 3)) rfl))
    (pss_cons (ps_if (PW.pt (pw_or (pt_cmpR op_ne (pe_fn Le hr rfl (pa_cons (pv 0) (pa_cons (pv 1) (pa_cons (pv 4) (pa_cons (pv 2) pa_nil))))) (pv 5) (nomark _)) (pw_or1 (pt_cmpR op_ne (pe_fn Le hr rfl (pa_cons (pv 0) (pa_cons (pv 4) (pa_cons (pv 1) (pa_cons (pv 2) pa_nil))))) (pv 5) (nomark _))))) (pss_one (ps_ret pe_bl)) pss_nil)
    (pss_cons (ps_if (pt_cmp (pc_nnotin (hu10 hr.units) (pv 4) (pv 3)) rfl) (pss_one (ps_ret pe_bl)) pss_nil)
    (pss_cons (ps_par (i := 6) (j := 7) rfl scOr.nd rfl rfl (by decide) rfl rfl (pa_cons (pe_fn Rw hr rfl (pa_cons (pv 0) (pa_cons (pv 1) (pa_cons (pv 4) (pa_cons (pv 2) pa_nil))))) (pa_cons pe_int pa_nil)) rfl)
    (pss_cons (ps_for PassesOwn.never rfl (pi_z2 rfl m_zip (pa_cons (pe_ix (r := rIxA K) ix_any (pv 1) pe_int (fun _ _ => rfl)) (pa_cons (pe_ix (r := rIxA K) ix_any (pv 4) pe_int (fun _ _ => rfl)) pa_nil))) (pg_any rfl (pgs_cons (pg_name (i := 8) scOr.nd rfl (.inl rfl)) (pgs_cons (pg_name (i := 9) scOr.nd rfl (.inl rfl)) pgs_nil)))
    (pss_one (ps_set (i := 7) scOr.nd rfl (.inl rfl) (pe_op op_add (pv 7) (pe_callTy call_int1 rfl m_int boot_int' (pa_cons (pe_cmpR op_ne (pv 8) (pv 9) (nomark _)) pa_nil))))))
    (pss_one (ps_ret (pe_and (pe_cmpR op_ge (pe_callB (r := rLenA K) call_lenA rfl m_len PySem.boot_len (pa_cons (pv 6) pa_nil)) (pe_nget (hu10 hr.units) (pv 3) (pv 4) (fun _ _ => rfl)) (nomark _)) (pe_and (pe_cmpR op_ge (pe_callB (r := rLenA K) call_lenA rfl m_len PySem.boot_len (pa_cons (pv 6) pa_nil)) (pv 7) (nomark _)) (pe_one (pe_cmpR op_eq (pe_op op_modN (pe_op op_sub (pe_callB (r := rLenA K) call_lenA rfl m_len PySem.boot_len (pa_cons (pv 6) pa_nil)) (pv 7)) pe_int) pe_int (nomark _)))))))))))), ?_⟩
  obtain ⟨a2, rfl⟩ := dp_ref h2
  have okc0 : okCn 10 12 c := ⟨okc.r1, by have := okc.r2; omega, okc.b1, by have := okc.b2; omega, by have := okc.n; omega, okc.l⟩
  have hre : (∃ n, (s2, n) ∈ xs) ↔ Reach c r s s2 := by
    constructor
    · rintro ⟨n, hn⟩
      exact (far.d _ hn).reach
    · rintro ⟨ms, m1, m2, m3⟩
      obtain ⟨d, hd, _⟩ := far.le ms.length s2 ⟨ms, m1, m2, rfl, m3⟩
      exact ⟨d, hd⟩
  obtain ⟨o, ho⟩ : ∃ o, o = atN es (kyS s2) := ⟨_, rfl⟩
  have hob : o.isSome = rB c r s s2 := by
    rw [Bool.eq_iff_iff, rB_iff, ← hre]
    rcases far_dec xs s2 with ⟨n, hn⟩ | hno
    · rw [ho, fe.get far.nd hn]; exact ⟨fun _ => ⟨n, hn⟩, fun _ => rfl⟩
    · rw [ho, fe.none hno]; exact ⟨fun h => (by cases h), fun ⟨n, hn⟩ => absurd hn (hno n)⟩
  refine ⟨_, rfl, _, rfl, D, o, rfl, ⟨es, kyS s2, a2, .inl eD, fe.ky, rfl, ky_at h2, ho⟩, ?_⟩
  refine at_g (σ' := [some v, some u1, some (.str (wS r)), some (.ref D), some (.ref a2), some (.bl o.isSome), none, none, none, none]) rfl ?_
  refine ⟨_, rfl, _, rfl, _, rfl, _, rfl, nil_go (le_go hc h1 h2 okc0 ok1 ok2 al1 al2 fun H2 w2 => ⟨_, rfl, rfl, _, rfl, ?_⟩)⟩
  rw [← hob, decide_eq_true (rfl : V.bl o.isSome = V.bl o.isSome)]
  refine iteF ⟨_, rfl, _, rfl, _, rfl, _, rfl, nil_go (le_go (Dp.same w2 _ hc) (Dp.same w2 _ h2) (Dp.same w2 _ h1) okc0 ok2 ok1 al2 al1 fun H3 w3 => ⟨_, rfl, rfl, _, rfl, ?_⟩)⟩
  rw [← rB_symm okc0 ok1 ok2, ← hob, decide_eq_true (rfl : V.bl o.isSome = V.bl o.isSome)]
  refine iteF ?_
  have s3 := w2.trans w3
  have fe3 := fe.move (Tp.of s3)
  have eD3 := s3 _ _ eD
  have h23 := Dp.same s3 _ h2
  have h13 := Dp.same s3 _ h1
  refine ⟨_, rfl, _, rfl, D, o, rfl, ⟨es, kyS s2, a2, .inl eD3, fe3.ky, rfl, ky_at h23, ho⟩, _, rfl, ?_⟩
  cases e : o with
  | none => exact iteT (q _ s3)
  | some ov =>
    refine iteF ?_
    have hr2 : Reach c r s s2 := rB_iff.mp (by rw [← hob, e]; rfl)
    obtain ⟨n, hn⟩ := hre.mpr hr2
    have hov : ov = .int (n : Nat) := by
      have := fe.get far.nd hn
      rw [← ho, e] at this
      exact Option.some.inj this
    subst hov
    refine ⟨_, rfl, _, rfl, _, rfl, _, rfl, nil_go ⟨v, u1, .ref a2, r, c, s, s2, 3, 3, rfl, cnAny_t (Dp.same s3 _ hc), h13, h23, okc0, ok1, ok2, al1, al2, fun H4 w4 hbad => ?_, fun f p us ms H4 w4 np hb rd haw okr hw hrun hml M => ?_⟩⟩
    · exfalso
      rcases hbad with hbad | ⟨f, rd, hbad⟩
      · obtain ⟨f, rd⟩ := rd_ex (s := s) (r := r) okc0
        exact hbad ((leads_iff okc0 ok1 ok2 al1 al2 rd).mpr hr2).1
      · exact hbad ((leads_iff okc0 ok1 ok2 al1 al2 rd).mpr hr2).2
    · have s4 := s3.trans w4
      have s34 := s3.trans w4
      refine ⟨_, _, rfl, ?_⟩
      refine at_s (σ' := [some v, some u1, some (.str (wS r)), some (.ref D), some (.ref a2), some (.bl true), some (.ref p), some (.int ((0 : Nat) : Int)), none, none]) rfl ?_
      obtain ⟨b1, b1r, b1b, b1l, rfl, g0, g1, g2, g3⟩ := snT (Dp.same w4 _ h13)
      obtain ⟨b2, b2r, b2b, b2l, e2, k0, k1, k2, k3⟩ := snT (Dp.same w4 _ h23)
      obtain rfl := V.ref.inj e2
      refine ⟨_, rfl, b1, _, _, _, rfl, rfl, .inr g0, rfl, _, rfl, a2, _, _, _, rfl, rfl, .inr k0, rfl, nil_go ⟨b1l, b2l, _, _, rfl, .inr ⟨g3, k3⟩, fun J wk => for_it wk (fun i σ Z => ∃ y8 y9 : Option V, σ = [some v, some (.ref b1), some (.str (wS r)), some (.ref D), some (.ref a2), some (.bl true), some (.ref p), some (.int (diffs (s.ls.take i) (s2.ls.take i) : Nat)), y8, y9] ∧ Same H4 Z) ⟨none, none, rfl, Same.refl _⟩ (fun i σ Z _ h => ?_) (fun i x σ Z Z' hi h hy => ?_) (fun σ Z h => ?_)⟩⟩
      · obtain ⟨y8, y9, rfl, sZ⟩ := h
        exact sZ
      · obtain ⟨y8, y9, rfl, sZ⟩ := h
        obtain ⟨T, xi, xv, rfl, nT, rfl, ei, ev⟩ := hy
        obtain ⟨z1, ez1, rfl⟩ := intz_at ei
        obtain ⟨z2, ez2, rfl⟩ := intz_at ev
        have sT := sZ.trans (same_new nT (o := .tup [.int z1, .int z2]))
        refine ⟨T, _, rfl, .inr (.inl (.inl upd_same)), rfl, _, _, rfl, _, _, rfl, rfl, ?_⟩
        generalize upd Z T (.tup [.int z1, .int z2]) = Z2 at sT
        refine ⟨_, rfl, _, rfl, _, rfl, rfl, nil_go (.inr ⟨_, rfl, _, _, rfl, rfl, ?_⟩)⟩
        refine at_g (σ' := [some v, some (.ref b1), some (.str (wS r)), some (.ref D), some (.ref a2), some (.bl true), some (.ref p), some (.int (diffs (s.ls.take (i + 1)) (s2.ls.take (i + 1)) : Nat)), some (.int z1), some (.int z2)]) ?_ ⟨_, _, rfl, sT⟩
        have hd : diffs (s.ls.take (i + 1)) (s2.ls.take (i + 1)) = diffs (s.ls.take i) (s2.ls.take i) + if z1 = z2 then 0 else 1 := by
          rw [List.take_succ, List.take_succ, ez1, ez2]
          exact diffs_snoc _ _ z1 z2 (by rw [List.length_take, List.length_take, ok1.n, ok2.n])
        rw [hd]
        have hv : (((diffs (s.ls.take i) (s2.ls.take i) + if z1 = z2 then 0 else 1 : Nat)) : Int) = (diffs (s.ls.take i) (s2.ls.take i) : Nat) + if (!decide (V.int z1 = V.int z2)) = true then 1 else 0 := by
          by_cases q : z1 = z2
          · rw [if_pos q, decide_eq_true (by rw [q])]; rfl
          · rw [if_neg q, decide_eq_false (fun z => q (V.int.inj z))]; rfl
        rw [hv]
        rfl
      · obtain ⟨y8, y9, rfl, sZ⟩ := h
        have s5 := s34.trans sZ
        have MZ := M.move (sZ _ _ M.e) (Tp.of sZ)
        have fe5 := fe.move (Tp.of s5)
        have eD5 := s5 _ _ eD
        have h25 := Dp.same s5 _ h2
        rw [List.length_map, List.length_map, ok1.n, ok2.n, Nat.min_self, ← ok1.n, List.take_length, show s.ls.length = s2.ls.length by rw [ok1.n, ok2.n], List.take_length]
        obtain ⟨d1, d2⟩ := diffs_run okc ok1 ms.length ms rfl okr
        rw [hrun] at d1 d2
        obtain ⟨dd, hdd, hle⟩ := far.le ms.length s2 ⟨ms, okr, hw, rfl, hrun⟩
        have hdn : dd = n := by
          have a := fe.get far.nd hdd
          have b := fe.get far.nd hn
          rw [a] at b
          have := V.int.inj (Option.some.inj b)
          omega
        subst hdn
        have ul := MZ.l
        refine ⟨_, rfl, p, us, rfl, .inl (SqL.of MZ.e), _, rfl, _, rfl, D, .int (dd : Nat), rfl, ⟨es, kyS s2, a2, .inl eD5, fe5.ky, rfl, ky_at h25, (fe5.get far.nd hn).symm⟩, _, _, rfl, rfl, true, congrArg V.bl (decide_eq_true (by omega)), iteT ?_⟩
        refine ⟨_, rfl, p, us, rfl, .inl (SqL.of MZ.e), _, rfl, _, _, rfl, rfl, true, congrArg V.bl (decide_eq_true (by omega)), iteT ?_⟩
        refine ⟨_, rfl, p, us, rfl, .inl (SqL.of MZ.e), _, rfl, _, _, rfl, rfl, _, _, rfl, rfl, (by show (2 : Int) ≠ 0; decide), rfl, ?_⟩
        have hm : ((us.length : Int) - (diffs s.ls s2.ls : Nat)).fmod 2 = 0 := by
          rw [Int.fmod_eq_emod_of_nonneg _ (by decide)]; omega
        show Q (.bl (decide (V.int (((us.length : Int) - (diffs s.ls s2.ls : Nat)).fmod 2) = V.int 0))) Z
        rw [hm]
        exact q _ s5
end
end XL
namespace XL
open PySem PySem.Spec PyProof.Rows L2
abbrev sRight : Stmt := topS 41
def partsL (r : Bool) (x y : V) : List V := if r = true then [x, y] else [y, x]
def mkS (r : Bool) (xs zs hs : List Int) : Sn := if r = true then ⟨xs, zs, hs⟩ else ⟨zs, xs, hs⟩
theorem partsL_at (r : Bool) (x y : V) : atI (partsL r x y) (pI r) = some x := by cases r <;> rfl
theorem mkS_boats (r : Bool) (xs zs hs : List Int) : boatsW r (mkS r xs zs hs) = xs := by cases r <;> rfl
theorem mkS_other (r : Bool) (xs zs hs : List Int) : boatsW (!r) (mkS r xs zs hs) = zs := by cases r <;> rfl
theorem mkS_ls (r : Bool) (xs zs hs : List Int) : (mkS r xs zs hs).ls = hs := by cases r <;> rfl
theorem mkS_ok {c : Cn} {r : Bool} {xs zs hs : List Int} (h1 : (xs.length : Int) = basW r c) (h2 : (zs.length : Int) = basW (!r) c) (h3 : hs.length = c.ls.length) (b : ∀ x ∈ xs, 0 ≤ x ∧ x ≤ 3) (z : ∀ x ∈ zs, x = 0) (l : ∀ x ∈ hs, x = 0 ∨ x = 1) : okSn c 3 (mkS r xs zs hs) ∧ Alone (mkS r xs zs hs) r := by
  have z' : ∀ x ∈ zs, 0 ≤ x ∧ x ≤ (3 : Int) := fun x hx => by rw [z x hx]; decide
  refine ⟨?_, fun x hx => z x (by rw [mkS_other] at hx; exact hx)⟩
  cases r with
  | true => exact ⟨h1, h2, h3, b, z', l⟩
  | false => exact ⟨h2, h1, h3, z', b, l⟩
theorem rep_zeroF (n : Nat) : (List.replicate n [V.int 0]).flatten = (List.replicate n (0 : Int)).map V.int := by
  induction n with
  | zero => rfl
  | succ n ih => rw [List.replicate_succ, List.flatten_cons, ih, List.replicate_succ, List.map_cons]; rfl
theorem cons_c {v : V} {t : TA} {σ : L2.St} {H : Hp} {Q : List V → Hp → Prop} (h : t σ H fun xs H2 => Q (v :: xs) H2) : tCons (tC v) t σ H Q := h
theorem Dr.free {b x : Addr} {H H' : Hp} (d : Dr b H H') (n : x ≠ b) (h : H' x = none) : H x = none := by
  cases e : H x with
  | none => rfl
  | some o => rw [d.same x o n e] at h; cases h
theorem sn_at {K : PySem.W.Frag} {H : Hp} {u : V} {s : Sn} (h : Dp K H u (snD s)) (r : Bool) : ∃ a xs p, u = .ref a ∧ SqT K H a xs ∧ atI xs (pI r) = some (.ref p) ∧ SqT K H p ((boatsW r s).map V.int) := by
  obtain ⟨a, ar, ab, al, rfl, h0, h1, h2, h3⟩ := snT h
  cases r with
  | true => exact ⟨a, _, ar, rfl, h0, rfl, h1⟩
  | false => exact ⟨a, _, ab, rfl, h0, rfl, h2⟩
/-- how far the standings are in which a boat lies there -/
def itN (r : Bool) (xs : Ds) (i : Nat) (n : Nat) : Option Nat := match xs[n]? with
  | some e => if gt (boatsW r e.1) (i : Int) > 0 then some e.2 else none
  | none => none
theorem itN_mem {r : Bool} {xs : Ds} {i d : Nat} : d ∈ (List.range xs.length).filterMap (itN r xs i) ↔ ∃ x, (x, d) ∈ xs ∧ gt (boatsW r x) (i : Int) > 0 := by
  rw [mem_fm']
  constructor
  · rintro ⟨n, hn, e⟩
    unfold itN at e
    split at e
    · rename_i x hx
      split at e
      · obtain rfl := Option.some.inj e
        exact ⟨x.1, List.mem_iff_getElem?.mpr ⟨n, hx⟩, by assumption⟩
      · cases e
    · cases e
  · rintro ⟨x, hx, hp⟩
    obtain ⟨n, hn⟩ := List.mem_iff_getElem?.mp hx
    refine ⟨n, (List.getElem?_eq_some_iff.mp hn).1, ?_⟩
    unfold itN
    rw [hn]
    show (if gt (boatsW r x) (i : Int) > 0 then some d else none) = some d
    rw [if_pos hp]
theorem parts_nat {ns : List Nat} {ys : List V} {F : Hp} (h : Parts (fun (n : Nat) (u : V) (_ : Hp) => u = .int (n : Int)) ns ys F) : ys = (ns.map fun n : Nat => (n : Int)).map V.int := by
  refine List.ext_getElem? fun j => ?_
  rw [List.map_map, List.getElem?_map]
  cases e : ys[j]? with
  | some y =>
    obtain ⟨n, h1, h2⟩ := h.2 j y e
    rw [h1, h2]; rfl
  | none =>
    have : ns[j]? = none := by
      rw [List.getElem?_eq_none_iff] at e ⊢
      rw [← h.1]; exact e
    rw [this]; rfl
theorem ints_nil (zs : List Int) : PyData.eqv (.list (intsD zs)) (.list []) = zs.isEmpty := by
  cases zs with
  | nil => rfl
  | cons z zs => simp [intsD, PyData.eqv, PyData.eqvAll]
theorem far_stn {c : Cn} {r : Bool} {s : Sn} {M : Int} {xs : Ds} (okc : okCn 4 4 c) (st : Stn c r M s) (far : Far c r s xs) : ∀ e ∈ xs, Stn c r M e.1 := fun e he => by
  obtain ⟨ms, m1, m2, _, m4⟩ := far.d e he
  rw [← m4]; exact st.run okc m1 m2
theorem far_len {c : Cn} {r : Bool} {s : Sn} {M : Int} {xs : Ds} (okc : okCn 4 4 c) (st : Stn c r M s) (hM : M ≤ 3) (far : Far c r s xs) : xs.length ≤ 4096 := by
  have := stns_le okc hM far.nd fun x hx => by
    obtain ⟨e, he, rfl⟩ := List.mem_map.mp hx
    exact far_stn okc st far e he
  rw [List.length_map] at this
  exact this
theorem cn_bas (r : Bool) (c : Cn) (g : Addr) : atI [V.int c.r, .int c.b, .ref g] (pI r) = some (.int (basW r c)) := by cases r <;> rfl
theorem pI_ix (r : Bool) (x y : V) : ∃ j, ixN (partsL r x y).length (pI r) = some j ∧ ∀ z, (partsL r x y).set j z = partsL r z y := by
  cases r with
  | true => exact ⟨0, rfl, fun z => rfl⟩
  | false => exact ⟨1, rfl, fun z => rfl⟩
/-- a tuple of these numbers, as data -/
abbrev TuD (K : PySem.W.Frag) (xs : List Int) (u : V) (F : Hp) : Prop := Dp K F u (.tuple (intsD xs))
theorem noL_tu (xs : List Int) : noL (.tuple (intsD xs)) = true := by show noLs (intsD xs) = true; exact noLs_ints xs
theorem TuR.d {K : PySem.W.Frag} {xs : List Int} {u : V} {F : Hp} (h : TuR K xs u F) : TuD K xs u F := by
  obtain ⟨t, rfl, q⟩ := h
  exact dp_tints q
theorem dpAll_ints {K : PySem.W.Frag} {F : Hp} : ∀ {vs : List V} {zs : List Int}, DpAll K F vs (intsD zs) → vs = zs.map V.int
  | _, [], h => by cases h; rfl
  | _, z :: zs, h => by
    cases h with
    | cons h1 h2 => cases h1; rw [dpAll_ints h2]; rfl
theorem tuD_at {K : PySem.W.Frag} {xs : List Int} {u : V} {F : Hp} (h : TuD K xs u F) : ∃ t : Addr, u = .ref t ∧ SqT K F t (xs.map V.int) := by
  cases h with
  | tup hs ha => rw [dpAll_ints ha] at hs; exact ⟨_, rfl, hs⟩
theorem mkS_dp {K : PySem.W.Frag} {F : Hp} {r : Bool} {x y z : V} {xs zs hs : List Int} {t : Addr} (hx : TuD K xs x F) (hy : TuD K zs y F) (hz : TuD K hs z F) (ht : SqT K F t (partsL r x y ++ [z])) : Dp K F (.ref t) (snD (mkS r xs zs hs)) := by
  cases r with
  | true => exact .tup ht (.cons hx (.cons hy (.cons hz .nil)))
  | false => exact .tup ht (.cons hy (.cons hx (.cons hz .nil)))
theorem parts01 (r : Bool) (x y : V) : ∃ p0 p1, atI (partsL r x y) 0 = some p0 ∧ atI (partsL r x y) 1 = some p1 ∧ partsL r x y = [p0, p1] := by
  cases r with
  | true => exact ⟨x, y, rfl, rfl, rfl⟩
  | false => exact ⟨y, x, rfl, rfl, rfl⟩
section
variable {P : Program} {w : World} {K : PySem.W.Frag} {mg : Str → Option Value} {base : Heap}
abbrev nRight : List Str := ["_law_box_here", "_law_ship_way", "_law_hue", "_law_part", "_law_parts", "_law_size", "_law_lying", "_law_far_by", "_law_some", "_law_highs_here", "_law_k", "_law_near", "_law_found", "_law_later"]
theorem scRight : FnScope nRight ["_law_box_here"] (defScope sRight) := ⟨rfl, rfl, rfl, by decide +kernel, rfl, by decide +kernel, by decide +kernel⟩
def spRight : Sp := fun vs H Q _ => ∃ b : Addr, vs = [.ref b] ∧ Bx H b ∧ ∀ H' : Hp, Dr b H H' → Q (.bl true) H'
theorem ok_right {f fc fo fh fs ft fg fm fr fw fa : Addr} {fd fdc fdo fdh fds fdt fdg fdm fdr fdw fda : FuncData} {k : Nat} (F : Fun K "_law_right" "_law_right" sRight f fd)
    (C : Fns P w K mg base k "_law_canal" ["_law_box_here", "_law_wide", "_law_utmost"] (spCanal K) fc fdc) (Of : Fns P w K mg base k "_law_of" ["_law_box_here", "_law_some"] (spOf K) fo fdo) (Hu : Fns P w K mg base k "_law_hues" ["_law_hue"] spHu fh fdh)
    (Sh : Fns P w K mg base k "_law_shares" ["_law_size", "_law_many"] (spSh K) fs fds) (Ta : Fns P w K mg base k "_law_take" ["_law_box_here", "_law_size"] spTake ft fdt) (Hg : Fns P w K mg base k "_law_highs" ["_law_size"] (spHg K) fg fdg)
    (Co : Fns P w K mg base k "_law_come_to" ["_law_ship_way", "_law_lying", "_law_hue"] (spCo P w K) fm fdm) (Oz : Fns P w K mg base k "_law_one_right" ["_law_ship_way", "_law_lying", "_law_hue", "_law_far_by", "_law_later"] (spOr P w K) fr fdr)
    (Wo : Fns P w K mg base k "woken" ["canal", "standing", "water", "basin"] (spWl K) fw fdw) (As : Fns P w K mg base k "asleep" ["canal", "standing", "water"] (spAs K) fa fda)
    (m_range : mg "range" = none) (m_len : mg "len" = none) (m_sum : mg "sum" = none) (m_min : mg "min" = none) : FnOk P w K mg base CX0 (k + 1) f fd ["_law_box_here"] spRight := by
  refine F.ok scRight (fun vs H Q E h => ?_) (fun cdv A outer s H vs Q E hr h => ?_)
  · obtain ⟨b, rfl, _⟩ := h
    rfl
  obtain ⟨b, rfl, hb, q⟩ := h
  refine ⟨_, (pss_cons (ps_par (i := 1) (j := 2) rfl scRight.nd rfl rfl (by decide) rfl rfl (pa_cons (pe_fn C hr rfl (pa_cons (pv 0) (pa_cons pe_int (pa_cons pe_int pa_nil)))) (pa_cons (pe_fn Of hr rfl (pa_cons (pv 0) (pa_cons (pe_lst (pa_cons pe_str (pa_cons pe_str pa_nil))) pa_nil))) pa_nil)) rfl)
    (pss_cons (ps_asg (pe_tup (pa_cons (pe_ix (r := rIxA K) ix_any (pe_fn Hu hr rfl (pa_cons (pv 2) pa_nil)) pe_int (fun _ _ => rfl)) (pa_cons (pe_lst (pa_cons (pe_op (r := rRepU K) op_repU (pe_tup (pa_cons pe_int pa_nil)) (pe_ix (r := rIxA K) ix_any (pv 1) pe_int (fun _ _ => rfl))) (pa_cons (pe_op (r := rRepU K) op_repU (pe_tup (pa_cons pe_int pa_nil)) (pe_ix (r := rIxA K) ix_any (pv 1) pe_int (fun _ _ => rfl))) pa_nil))) pa_nil))) (pg_any rfl (pgs_cons (pg_name (i := 3) scRight.nd rfl (.inr rfl)) (pgs_cons (pg_name (i := 4) scRight.nd rfl (.inl rfl)) pgs_nil))))
    (pss_cons (ps_set (i := 5) scRight.nd rfl (.inl rfl) (pe_ix (r := rIxA K) ix_any (pv 1) (pv 3) (fun _ _ => rfl)))
    (pss_cons (ps_asg (pe_fn Of hr rfl (pa_cons (pv 0) (pa_cons (pe_fn Sh hr rfl (pa_cons (pv 5) (pa_cons (pe_fn Ta hr rfl (pa_cons (pv 0) (pa_cons pe_int pa_nil))) pa_nil))) pa_nil))) (pg_sub (pv 4) (pv 3) set_list))
    (pss_cons (ps_set (i := 6) scRight.nd rfl (.inl rfl) (pe_tup (pa_cons (pe_ix (r := rIxA K) ix_any (pv 4) pe_int (fun _ _ => rfl)) (pa_cons (pe_ix (r := rIxA K) ix_any (pv 4) pe_int (fun _ _ => rfl)) (pa_cons (pe_fn Of hr rfl (pa_cons (pv 0) (pa_cons (pe_fn Hg hr rfl (pa_cons (pe_callB (r := rLenA K) call_lenA rfl m_len PySem.boot_len (pa_cons (pe_ix (r := rIxA K) ix_any (pv 1) pe_int (fun _ _ => rfl)) pa_nil)) pa_nil)) pa_nil))) pa_nil)))))
    (pss_cons (ps_set (i := 7) scRight.nd rfl (.inr rfl) (pe_fn Co hr rfl (pa_cons (pv 1) (pa_cons (pv 6) (pa_cons (pv 2) pa_nil)))))
    (pss_cons (ps_for PassesOwn.never rfl (pi_seq (pe_fn Sh hr rfl (pa_cons (pv 5) (pa_cons (pe_callB (r := rSumT K) (cr_sumT rfl) rfl m_sum boot_sum' (pa_cons (pe_ix (r := rIxA K) ix_any (pv 4) (pv 3) (fun _ _ => rfl)) pa_nil)) pa_nil)))) (pg_name (i := 8) scRight.nd rfl (.inl rfl))
    (pss_cons (ps_asg (pv 8) (pg_sub (pv 4) (pv 3) set_list))
    (pss_one (ps_for PassesOwn.never rfl (pi_seq (pe_fn Hg hr rfl (pa_cons (pe_callB (r := rLenA K) call_lenA rfl m_len PySem.boot_len (pa_cons (pe_ix (r := rIxA K) ix_any (pv 1) pe_int (fun _ _ => rfl)) pa_nil)) pa_nil))) (pg_name (i := 9) scRight.nd rfl (.inl rfl))
    (pss_one (ps_if (pt_not (pt_val (pe_fn Oz hr rfl (pa_cons (pv 1) (pa_cons (pv 6) (pa_cons (pv 2) (pa_cons (pv 7) (pa_cons (pe_tup (pa_cons (pe_ix (r := rIxA K) ix_any (pv 4) pe_int (fun _ _ => rfl)) (pa_cons (pe_ix (r := rIxA K) ix_any (pv 4) pe_int (fun _ _ => rfl)) (pa_cons (pv 9) pa_nil)))) pa_nil)))))))) (pss_one (ps_ret pe_bl)) pss_nil))))))
    (pss_cons (ps_for PassesOwn.never rfl (pi_range1 rfl m_range (pa_cons (pv 5) pa_nil)) (pg_name (i := 10) scRight.nd rfl (.inr rfl))
    (pss_cons (ps_lock (ps_setLc (i := 11) (own := [("_law_later", 13)]) (g := gName 13) rfl scRight.nd rfl rfl (sw_true rfl rfl rfl (by decide +kernel)) (pi_nkeys (pv 7)) (blkOk_by (own := [("_law_later", 13)]) (N := nRight) (sc := defScope sRight) (by decide +kernel)) (fun _ _ _ _ _ => (pg_name (i := 13) scRight.nd rfl (.inl rfl))) (fun _ _ _ _ _ => (pts_one (pt_cmpR op_gt (pe_ix (r := rIxA K) ix_any (pe_ix (r := rIxA K) ix_any (pv 13) (pv 3) (fun _ _ => rfl)) (pv 10) (fun _ _ => rfl)) pe_int (nomark _)))) (fun _ _ _ _ _ => pe_hide (pe_ngetK (P := P) (w := w) (K := K) rfl rfl rfl (hu10 hr.units) (pv 7) (pv 13) (fun _ _ => rfl)))))
    (pss_cons (ps_set (i := 12) scRight.nd rfl (.inl rfl) (pe_fn Wo hr rfl (pa_cons (pv 1) (pa_cons (pv 6) (pa_cons (pv 2) (pa_cons (pv 10) pa_nil))))))
    (pss_cons (ps_if (PW.pt (pw_or (pt_cmpR op_ne (pe_cmpR op_in_seq (pv 10) (pe_fn As hr rfl (pa_cons (pv 1) (pa_cons (pv 6) (pa_cons (pv 2) pa_nil)))) (by rfl)) (pe_cmpR (op_eqD hr.units) (pv 11) (pe_lst pa_nil) (nomark _)) (nomark _)) (pw_or1 (pt_cmpR op_ne (pe_cmpR op_isN (pv 12) pe_non (nomark _)) (pe_cmpR (op_eqD hr.units) (pv 11) (pe_lst pa_nil) (nomark _)) (nomark _))))) (pss_one (ps_ret pe_bl)) pss_nil)
    (pss_one (ps_if (PW.pt (pw_and (pt_cmpR (op_neD hr.units) (pv 11) (pe_lst pa_nil) (nomark _)) (pw_and1 (pt_cmpR op_ne (pe_callB (r := rLenA K) call_lenA rfl m_len PySem.boot_len (pa_cons (pv 12) pa_nil)) (pe_callB (r := rMin K) (cr_min rfl) rfl m_min boot_min' (pa_cons (pv 11) pa_nil)) (nomark _))))) (pss_one (ps_ret pe_bl)) pss_nil))))))
    (pss_one (ps_ret pe_bl)))))))))), ?_⟩
  refine ⟨_, rfl, b, 4, 4, rfl, hb, by decide, by decide, by decide, fun c v H1 okc d1 hc1 => ?_⟩
  have okc0 : okCn 10 12 c := ⟨okc.r1, by have := okc.r2; omega, okc.b1, by have := okc.b2; omega, by have := okc.n; omega, okc.l⟩
  refine ⟨_, rfl, (by show 2 ≤ sizeLine; decide), fun p np => ?_⟩
  have d2 := Dr.new d1.box np (o := .lst [.str "red", .str "blue"])
  have e2 : (upd H1 p (.lst [.str "red", .str "blue"])) p = some (.lst [.str "red", .str "blue"]) := upd_same
  have npb := d1.box.ne np
  generalize upd H1 p (.lst [.str "red", .str "blue"]) = H2 at d2 e2
  refine nil_go ⟨b, p, _, rfl, d2.box, npb, SqL.of e2, (fun z => by cases z), (by show 2 < 1000; decide), fun j x H3 hx d3 => ?_⟩
  obtain ⟨r, rfl⟩ : ∃ r, x = .str (wS r) := by
    match j, hx with
    | 0, hx => exact ⟨true, (Option.some.inj hx).symm⟩
    | 1, hx => exact ⟨false, (Option.some.inj hx).symm⟩
    | j + 2, hx => simp at hx
  have d23 := d2.trans d3
  have d03 := d1.trans d23
  have hc3 := Dp.tp (d23.tp d1.box) _ (noL_cn c) hc1
  clear hc1 e2 npb
  obtain ⟨a, g, gs, rfl, ha, hg, hgs⟩ := cn_of hc3
  refine nil_go ⟨_, _, rfl, ?_⟩
  refine at_g (σ' := [some (.ref b), some (.ref a), some (.str (wS r)), none, none, none, none, none, none, none, none, none, none, none]) rfl ?_
  have hnB : ∀ q : Bool, 1 ≤ basW q c ∧ basW q c ≤ 4 := fun q => by
    cases q with
    | true => exact ⟨okc.r1, okc.r2⟩
    | false => exact ⟨okc.b1, okc.b2⟩
  obtain ⟨nb, enb⟩ : ∃ nb : Nat, basW r c = (nb : Int) := ⟨(basW r c).toNat, by have := hnB r; omega⟩
  have hnb := hnB r
  refine ⟨_, rfl, nil_go ⟨r, rfl, fun p5 np5 => ⟨p5, _, _, _, rfl, rfl, .inr (.inl (.inl upd_same)), rfl, (by show 1 ≤ sizeLine; decide), fun t1 nt1 => ?_⟩⟩⟩
  have s5 := same_new np5 (o := .tup [.int (pI r), .int (pI (!r))])
  have s51 := s5.trans (same_new nt1 (o := .tup [.int 0]))
  have e51 : (upd (upd H3 p5 (.tup [.int (pI r), .int (pI (!r))])) t1 (.tup [.int 0])) t1 = some (.tup [.int 0]) := upd_same
  generalize upd (upd H3 p5 (.tup [.int (pI r), .int (pI (!r))])) t1 (.tup [.int 0]) = H5 at s51 e51
  have zr := hnB true
  have zb := hnB false
  refine ⟨_, rfl, a, _, _, _, rfl, rfl, .inr (Same.tup s51 ha), rfl, t1, c.r, [.int 0], rfl, rfl, .inl (.inl e51), (fun z => by cases z), (by have : 1 ≤ c.r := okc.r1; omega), (by have : c.r ≤ 4 := okc.r2; omega), (by decide), fun z1 H6 s6 q1 => ?_⟩
  refine ⟨(by show 1 ≤ sizeLine; decide), fun t2 nt2 => ?_⟩
  have s62 := s6.trans (same_new nt2 (o := .tup [.int 0]))
  have e62 : (upd H6 t2 (.tup [.int 0])) t2 = some (.tup [.int 0]) := upd_same
  have q1' := Same.tup (same_new nt2 (o := .tup [.int 0])) q1
  generalize upd H6 t2 (.tup [.int 0]) = H7 at s62 e62 q1'
  refine ⟨_, rfl, a, _, _, _, rfl, rfl, .inr (Same.tup (s51.trans s62) ha), rfl, t2, c.b, [.int 0], rfl, rfl, .inl (.inl e62), (fun z => by cases z), (by have : 1 ≤ c.b := okc.b1; omega), (by have : c.b ≤ 4 := okc.b2; omega), (by decide), fun z2 H8 s8 q2 => ?_⟩
  rw [rep_zeroF] at q1' q2
  refine ⟨(by show 2 ≤ sizeLine; decide), fun PL nPL => ⟨(by show 2 ≤ sizeLine; decide), fun tt ntt => ?_⟩⟩
  have s38 := s51.trans (s62.trans s8)
  have s9a := same_new nPL (o := .lst [.ref z1, .ref z2])
  have ePL : (upd H8 PL (.lst [.ref z1, .ref z2])) PL = some (.lst [.ref z1, .ref z2]) := upd_same
  have s9b := same_new ntt (o := .tup [.int (pI r), .ref PL])
  have ett : (upd (upd H8 PL (.lst [.ref z1, .ref z2])) tt (.tup [.int (pI r), .ref PL])) tt = some (.tup [.int (pI r), .ref PL]) := upd_same
  replace ePL := s9b _ _ ePL
  have s39 := s38.trans (s9a.trans s9b)
  have nPL3 : H3 PL = none := s38.free nPL
  have z1d : TuD K (List.replicate c.r.toNat 0) (.ref z1) H8 := dp_tints (Same.tup s8 q1')
  have z2d : TuD K (List.replicate c.b.toNat 0) (.ref z2) H8 := dp_tints q2
  replace z1d := Dp.same (s9a.trans s9b) _ z1d
  replace z2d := Dp.same (s9a.trans s9b) _ z2d
  generalize upd (upd H8 PL (.lst [.ref z1, .ref z2])) tt (.tup [.int (pI r), .ref PL]) = H9 at s9b ett ePL s39 z1d z2d
  refine ⟨tt, _, rfl, .inr (.inl (.inl ett)), rfl, _, _, rfl, _, _, rfl, rfl, ?_⟩
  refine at_g (σ' := [some (.ref b), some (.ref a), some (.str (wS r)), some (.int (pI r)), some (.ref PL), none, none, none, none, none, none, none, none, none]) rfl ?_
  have d09 := d03.trans (Dr.of d03.box s39)
  have hc9 := Dp.same s39 _ hc3
  have ha9 := Same.tup s39 ha
  have hg9 := Same.tup s39 hg
  have nPLb : PL ≠ b := d03.box.ne nPL3
  -- the other water's noughts
  obtain ⟨x0, y0, zs, hpl, hy0, hzl, hz0⟩ : ∃ (x0 y0 : V) (zs : List Int), [V.ref z1, .ref z2] = partsL r x0 y0 ∧ TuD K zs y0 H9 ∧ (zs.length : Int) = basW (!r) c ∧ ∀ z ∈ zs, z = 0 := by
    have rep0 : ∀ n : Nat, ∀ z ∈ List.replicate n (0 : Int), z = 0 := fun n z hz => (List.mem_replicate.mp hz).2
    cases r with
    | true => exact ⟨.ref z1, .ref z2, _, rfl, z2d, by rw [List.length_replicate]; show ((c.b.toNat : Nat) : Int) = c.b; have : 1 ≤ c.b := okc.b1; omega, rep0 _⟩
    | false => exact ⟨.ref z2, .ref z1, _, rfl, z1d, by rw [List.length_replicate]; show ((c.r.toNat : Nat) : Int) = c.r; have : 1 ≤ c.r := okc.r1; omega, rep0 _⟩
  rw [hpl] at ePL
  clear z1d z2d q1 q1' q2 e51 e62 ett hc3 ha hg nPL ntt np5 nt1 nt2
  refine ⟨_, rfl, _, rfl, a, _, _, _, rfl, rfl, .inr ha9, cn_bas r c g, ?_⟩
  rw [enb]
  refine at_g (σ' := [some (.ref b), some (.ref a), some (.str (wS r)), some (.int (pI r)), some (.ref PL), some (.int (nb : Nat)), none, none, none, none, none, none, none, none]) rfl ?_
  refine ⟨_, rfl, _, rfl, _, rfl, cons_c (nil_go ⟨b, 4, rfl, d09.box, by decide, by decide, fun m' H10 m0 m4 d10 => ?_⟩)⟩
  obtain ⟨m, rfl⟩ : ∃ m : Nat, m' = (m : Int) := ⟨m'.toNat, by omega⟩
  have d010 := d09.trans d10
  refine nil_go ⟨nb, m, rfl, by omega, by omega, fun SL xss us H11 s11 nSL TS hne hl hsh => ?_⟩
  have d011 := d010.trans (Dr.of d010.box s11)
  have ul : us.length = xss.length := TS.p.1
  refine nil_go ⟨b, SL, us, rfl, d011.box, d010.box.ne nSL, SqL.of TS.e, (fun z => hne (List.length_eq_zero_iff.mp (by rw [← ul, z]; rfl))), by omega, fun j1 x1 H12 hx1 d12 => ?_⟩
  obtain ⟨sh, hsh1, hx1t⟩ := TS.p.2 j1 x1 hx1
  have hshr := hsh sh (List.mem_iff_getElem?.mpr ⟨j1, hsh1⟩)
  have d912 := (d10.trans (Dr.of d010.box s11)).trans d12
  have tp912 := d912.tp d09.box
  have ePL12 := d912.same _ _ nPLb ePL
  have d012 := d09.trans d912
  have x1d : TuD K sh x1 H12 := Dp.tp (d12.tp d011.box) _ (noL_tu _) hx1t.d
  have y0d := Dp.tp tp912 _ (noL_tu _) hy0
  have hc12 := Dp.tp tp912 _ (noL_cn c) hc9
  obtain ⟨jj, hix, hset⟩ := pI_ix r x0 y0
  refine ⟨_, rfl, _, rfl, PL, _, _, jj, rfl, rfl, ePL12, hix, ?_⟩
  rw [hset]
  have t13 := tp_lst (o := .lst (partsL r x1 y0)) ePL12
  have e13 : (upd H12 PL (.lst (partsL r x1 y0))) PL = some (.lst (partsL r x1 y0)) := upd_same
  have d13 : Dr b H (upd H12 PL (.lst (partsL r x1 y0))) := by
    refine ⟨?_, fun x o n e => ?_⟩
    · obtain ⟨i1, i2, i3, eb⟩ := d012.box
      exact ⟨i1, i2, i3, by rw [upd_ne nPLb.symm]; exact eb⟩
    · rw [upd_ne (fun z => by rw [z, d03.free nPLb nPL3] at e; cases e)]
      exact d012.same _ _ n e
  have x1e := Dp.tp t13 _ (noL_tu _) x1d
  have y0e := Dp.tp t13 _ (noL_tu _) y0d
  have hc13 := Dp.tp t13 _ (noL_cn c) hc12
  generalize upd H12 PL (.lst (partsL r x1 y0)) = H13 at t13 e13 d13 x1e y0e hc13
  clear x1d y0d hc12 ePL12 tp912 d912 d12 hx1t hx1 TS s11 nSL d011 d010 d10 d09 hy0 hc9 ha9 hg9 hgs
  obtain ⟨a', g', gs, ea, ha13, hg13, hgs⟩ := cn_of hc13
  obtain rfl := V.ref.inj ea
  have hgl : gs.length = c.ls.length := by rw [DpAll.length hgs, List.length_map]
  obtain ⟨p0, p1, at0, at1, hpp⟩ := parts01 r x1 y0
  refine ⟨_, rfl, PL, _, _, _, rfl, rfl, .inl (SqL.of e13), at0, _, rfl, PL, _, _, _, rfl, rfl, .inl (SqL.of e13), at1, _, rfl, _, rfl, a, _, _, _, rfl, rfl, .inr ha13, rfl, nil_go ⟨g', gs, rfl, .inr hg13, nil_go ⟨c.ls.length, by rw [hgl]; rfl, okc.n, fun HL hss hus H14 s14 nHL TH hne2 hl2 hhg => ?_⟩⟩⟩
  have hul : hus.length = hss.length := TH.p.1
  have d014 := d13.trans (Dr.of d13.box s14)
  refine nil_go ⟨b, HL, hus, rfl, d014.box, d13.box.ne nHL, SqL.of TH.e, (fun z => hne2 (List.length_eq_zero_iff.mp (by rw [← hul, z]; rfl))), by omega, fun j2 x2 H15 hx2 d15 => ?_⟩
  obtain ⟨hs, hhs, hx2t⟩ := TH.p.2 j2 x2 hx2
  have hhgh := hhg hs (List.mem_iff_getElem?.mpr ⟨j2, hhs⟩)
  have d015 := d014.trans d15
  have dA := (Dr.of d13.box s14).trans d15
  have tpA := dA.tp d13.box
  have x2d : TuD K hs x2 H15 := Dp.tp (d15.tp d014.box) _ (noL_tu _) hx2t.d
  have x1f := Dp.tp tpA _ (noL_tu _) x1e
  have y0f := Dp.tp tpA _ (noL_tu _) y0e
  have hc15 := Dp.tp tpA _ (noL_cn c) hc13
  have e15 := dA.same _ _ nPLb e13
  refine ⟨(by show 3 ≤ sizeLine; decide), fun LT nLT => ?_⟩
  have s16 := same_new nLT (o := .tup [p0, p1, x2])
  have hLT : Dp K (upd H15 LT (.tup [p0, p1, x2])) (.ref LT) (snD (mkS r sh zs hs)) := mkS_dp (Dp.same s16 _ x1f) (Dp.same s16 _ y0f) (Dp.same s16 _ x2d) (by rw [hpp]; exact .inl (.inl upd_same))
  replace hc15 := Dp.same s16 _ hc15
  replace e15 := s16 _ _ e15
  replace x1f := Dp.same s16 _ x1f
  replace y0f := Dp.same s16 _ y0f
  have d016 := d015.trans (Dr.of d015.box s16)
  generalize upd H15 LT (.tup [p0, p1, x2]) = H16 at s16 hLT hc15 e15 x1f y0f d016
  refine at_g (σ' := [some (.ref b), some (.ref a), some (.str (wS r)), some (.int (pI r)), some (.ref PL), some (.int (nb : Nat)), some (.ref LT), none, none, none, none, none, none, none]) rfl ?_
  obtain ⟨hshl, hsh0, hshs⟩ := hshr
  have hle := le_sum hsh0
  have okal := mkS_ok (c := c) (r := r) (xs := sh) (zs := zs) (hs := hs) (by rw [enb, hshl]) hzl hhgh.1 (fun z hz => ⟨hsh0 z hz, by have := hle.2 z hz; omega⟩) hz0 hhgh.2
  obtain ⟨sL, hsL⟩ : ∃ s, s = mkS r sh zs hs := ⟨_, rfl⟩
  have hsum : (boatsW r sL).sum = sh.sum := by rw [hsL, mkS_boats]
  rw [← hsL] at hLT okal
  have stn := stn_of okal.1 okal.2
  rw [hsum] at stn
  refine ⟨_, rfl, _, rfl, _, rfl, nil_go ⟨.ref a, .ref LT, r, c, sL, sh.sum, rfl, hc15, hLT, okc, stn, by omega, fun D es xs H17 s17 nD eD fe far => ?_⟩⟩
  refine at_g (σ' := [some (.ref b), some (.ref a), some (.str (wS r)), some (.int (pI r)), some (.ref PL), some (.int (nb : Nat)), some (.ref LT), some (.ref D), none, none, none, none, none, none]) rfl ?_
  have hcM := Dp.same s17 _ hc15
  have hLM := Dp.same s17 _ hLT
  have eM := s17 _ _ e15
  have x1M := Dp.same s17 _ x1f
  have y0M := Dp.same s17 _ y0f
  have dM := d016.trans (Dr.of d016.box s17)
  have hDP : D ≠ PL := fun z => by rw [z, e15] at nD; cases nD
  clear hc15 hLT e15 x1f y0f d016 s17 s16 d015 d014 d15 dA tpA x2d hx2t hx2 TH s14 nHL x1e y0e hc13 d13 t13 e13 ha13 hg13 hgs nLT
  obtain ⟨t1, ex1, hx1T⟩ := tuD_at x1M
  dsimp only
  refine seq1 (fun σ G => ∃ y8 y9 : Option V, σ = [some (.ref b), some (.ref a), some (.str (wS r)), some (.int (pI r)), some (.ref PL), some (.int (nb : Nat)), some (.ref LT), some (.ref D), y8, y9, none, none, none, none] ∧ Dr b H G ∧ Dp K G (.ref a) (cnD c) ∧ Dp K G (.ref LT) (snD sL) ∧ G D = some (DNo P w D es) ∧ FarE K G es xs) (fun N hN => ?_) (fun σ G h => ?_)
  · refine ⟨_, rfl, _, rfl, _, rfl, PL, _, _, _, rfl, rfl, .inl (SqL.of eM), partsL_at r x1 y0, nil_go ⟨t1, sh, by rw [ex1], hx1T, nil_go ⟨nb, sh.sum.toNat, by rw [show ((sh.sum.toNat : Nat) : Int) = sh.sum by omega]; rfl, by omega, by omega, fun SL2 xss2 us2 H18 s18 nSL2 TS2 hne3 hl3 hsh3 => ⟨SL2, us2, rfl, .inl (SqL.of TS2.e), fun J wk => ?_⟩⟩⟩⟩
    have hcN := Dp.same s18 _ hcM
    have hLN := Dp.same s18 _ hLM
    have eN := s18 _ _ eM
    have eDN := s18 _ _ eD
    have feN := fe.move (Tp.of s18)
    have y0N := Dp.same s18 _ y0M
    have dN := dM.trans (Dr.of dM.box s18)
    have hSP : SL2 ≠ PL := fun z => by rw [z, eM] at nSL2; cases nSL2
    have hPH : H PL = none := d03.free nPLb nPL3
    refine for_it wk (fun i σ G => ∃ (y8 y9 : Option V) (xa : V), σ = [some (.ref b), some (.ref a), some (.str (wS r)), some (.int (pI r)), some (.ref PL), some (.int (nb : Nat)), some (.ref LT), some (.ref D), y8, y9, none, none, none, none] ∧ (∀ x o, x ≠ PL → H18 x = some o → G x = some o) ∧ Tp H18 G ∧ G PL = some (.lst (partsL r xa y0))) ⟨none, none, x1, rfl, fun _ _ _ e => e, Tp.of (Same.refl _), eN⟩ (fun i σ G hi h => ?_) (fun i x σ G G' hi h hy => ?_) (fun σ G h => ?_)
    · obtain ⟨_, _, _, rfl, kp, _, _⟩ := h
      refine ⟨fun _ _ => SqL.of (kp _ _ hSP TS2.e), fun z => ?_⟩
      rcases z with (z | ⟨o, z⟩) | z
      · rw [TS2.e] at z; cases z
      · rw [TS2.e] at z; cases z
      · exact .inr z
    · obtain ⟨y8, y9, xa, rfl, kp, tp, eP⟩ := h
      obtain ⟨rfl, hx⟩ := hy
      obtain ⟨sa, hsa, hxr⟩ := TS2.p.2 i x hx
      obtain ⟨sa1, sa2, sa3⟩ := hsh3 sa (List.mem_iff_getElem?.mpr ⟨i, hsa⟩)
      have xd : TuD K sa x G' := Dp.tp tp _ (noL_tu _) hxr.d
      refine at_g (σ' := [some (.ref b), some (.ref a), some (.str (wS r)), some (.int (pI r)), some (.ref PL), some (.int (nb : Nat)), some (.ref LT), some (.ref D), some x, y9, none, none, none, none]) rfl ?_
      obtain ⟨jj, hix, hset⟩ := pI_ix r xa y0
      refine ⟨_, rfl, _, rfl, _, rfl, PL, _, _, jj, rfl, rfl, eP, hix, ?_⟩
      rw [hset]
      have t2 := tp_lst (o := .lst (partsL r x y0)) eP
      have kp2 : ∀ z o, z ≠ PL → H18 z = some o → (upd G' PL (.lst (partsL r x y0))) z = some o := fun z o n e => by rw [upd_ne n]; exact kp z o n e
      have tp2 := tp.trans t2
      have eP2 : (upd G' PL (.lst (partsL r x y0))) PL = some (.lst (partsL r x y0)) := upd_same
      have xd2 := Dp.tp t2 _ (noL_tu _) xd
      generalize upd G' PL (.lst (partsL r x y0)) = G2 at kp2 tp2 eP2 xd2 t2
      have hc2 := Dp.tp tp2 _ (noL_cn c) hcN
      have hL2 := Dp.tp tp2 _ (noL_sn _) hLN
      have y02 := Dp.tp tp2 _ (noL_tu _) y0N
      have fe2 := feN.move tp2
      have eD2 := kp2 _ _ hDP eDN
      obtain ⟨a', g', gs, ea, haZ, hgZ, hgs⟩ := cn_of hc2
      obtain rfl := V.ref.inj ea
      have hgl : gs.length = c.ls.length := by rw [DpAll.length hgs, List.length_map]
      obtain ⟨q0, q1, bt0, bt1, bpp⟩ := parts01 r x y0
      refine ⟨_, rfl, a, _, _, _, rfl, rfl, .inr haZ, rfl, nil_go ⟨g', gs, rfl, .inr hgZ, nil_go ⟨c.ls.length, by rw [hgl]; rfl, okc.n, fun HL2 hss2 hus2 G3 s3 nHL2 TH2 hne4 hl4 hhg2 => ⟨HL2, hus2, rfl, .inl (SqL.of TH2.e), fun J wk => for_it wk (fun n σ Z => ∃ y9 : Option V, σ = [some (.ref b), some (.ref a), some (.str (wS r)), some (.int (pI r)), some (.ref PL), some (.int (nb : Nat)), some (.ref LT), some (.ref D), some x, y9, none, none, none, none] ∧ Same G3 Z) ⟨y9, rfl, Same.refl _⟩ (fun n σ Z hn h => ?_) (fun n x3 σ Z Z' hn h hy => ?_) (fun σ Z h => ?_)⟩⟩⟩⟩
      · obtain ⟨_, rfl, sZ⟩ := h
        exact seq_stay TH2.e (sZ _ _ TH2.e)
      · obtain ⟨y9, rfl, sZ⟩ := h
        obtain ⟨rfl, hx3⟩ := hy
        obtain ⟨hsa', hhs', hxr3⟩ := TH2.p.2 n x3 hx3
        have hh3 := hhg2 hsa' (List.mem_iff_getElem?.mpr ⟨n, hhs'⟩)
        have s3Z := s3.trans sZ
        refine at_g (σ' := [some (.ref b), some (.ref a), some (.str (wS r)), some (.int (pI r)), some (.ref PL), some (.int (nb : Nat)), some (.ref LT), some (.ref D), some x, some x3, none, none, none, none]) rfl ?_
        have ePZ := s3Z _ _ eP2
        refine ⟨_, rfl, _, rfl, _, rfl, _, rfl, _, rfl, PL, _, _, _, rfl, rfl, .inl (SqL.of ePZ), bt0, _, rfl, PL, _, _, _, rfl, rfl, .inl (SqL.of ePZ), bt1, _, rfl, (by show 3 ≤ sizeLine; decide), fun T4 nT4 => ?_⟩
        have s4 := same_new nT4 (o := .tup [q0, q1, x3])
        have s34 := s3Z.trans s4
        have le2 := le_sum sa2
        have oka := mkS_ok (c := c) (r := r) (xs := sa) (zs := zs) (hs := hsa') (by rw [enb, sa1]) hzl hh3.1 (fun z hz => ⟨sa2 z hz, by have := le2.2 z hz; omega⟩) hz0 hh3.2
        refine nil_go ⟨.ref a, .ref LT, .ref T4, D, r, c, sL, mkS r sa zs hsa', es, xs, rfl, Dp.same s34 _ hc2, Dp.same s34 _ hL2, mkS_dp (Dp.same s34 _ xd2) (Dp.same s34 _ y02) (Dp.same s4 _ (hxr3.same sZ).d) (by rw [bpp]; exact .inl (.inl upd_same)), okc, okal.1, oka.1, okal.2, oka.2, s34 _ _ eD2, fe2.move (Tp.of s34), far, fun Z2 s5 => ⟨_, rfl, iteF ⟨_, rfl, sZ.trans (s4.trans s5)⟩⟩⟩
      · obtain ⟨y9, rfl, sZ⟩ := h
        have s3Z := s3.trans sZ
        exact ⟨_, _, x, rfl, fun z o n e => s3Z _ _ (kp2 z o n e), tp2.trans (Tp.of s3Z), s3Z _ _ eP2⟩
    · obtain ⟨y8, y9, xa, rfl, kp, tp, eP⟩ := h
      refine hN _ _ ⟨_, _, rfl, ⟨?_, fun x o n e => kp x o (fun z => by rw [z, hPH] at e; cases e) (dN.same x o n e)⟩, Dp.tp tp _ (noL_cn c) hcN, Dp.tp tp _ (noL_sn _) hLN, kp _ _ hDP eDN, feN.move tp⟩
      obtain ⟨i1, i2, i3, eb⟩ := dN.box
      exact ⟨i1, i2, i3, kp _ _ nPLb.symm eb⟩
  · obtain ⟨y8, y9, rfl, dG, hcG, hLG, eDG, feG⟩ := h
    clear hcM hLM eM x1M y0M dM eD fe hx1T ex1
    refine ⟨_, rfl, nil_go ⟨_, rfl, by omega, by omega, ?_⟩⟩
    rw [show ((nb : Nat) : Int).toNat = nb by omega]
    refine for_it walk_range (fun i σ Z => ∃ y10 y11 y12 : Option V, σ = [some (.ref b), some (.ref a), some (.str (wS r)), some (.int (pI r)), some (.ref PL), some (.int (nb : Nat)), some (.ref LT), some (.ref D), y8, y9, y10, y11, y12, none] ∧ Same G Z) ⟨none, none, none, rfl, Same.refl _⟩ (fun _ _ _ _ _ => trivial) (fun i x σ Z Z' hi h hy => ?_) (fun σ Z h => ?_)
    · obtain ⟨y10, y11, y12, rfl, sZ⟩ := h
      obtain ⟨rfl, rfl⟩ := hy
      have hi' : i < nb := hi
      refine at_g (σ' := [some (.ref b), some (.ref a), some (.str (wS r)), some (.int (pI r)), some (.ref PL), some (.int (nb : Nat)), some (.ref LT), some (.ref D), y8, y9, some (.int (i : Int)), y11, y12, none]) (by show [some (V.ref b), some (.ref a), some (.str (wS r)), some (.int (pI r)), some (.ref PL), some (.int (nb : Nat)), some (.ref LT), some (.ref D), y8, y9, some (.int (0 + (i : Int))), y11, y12, none] = _; rw [Int.zero_add]) ?_
      have eDZ := sZ _ _ eDG
      have feZ := feG.move (Tp.of sZ)
      refine ⟨D, DNo P w D es, eDZ, True.intro, fun od => ⟨_, rfl, D, od, es, rfl, upd_same, ?_⟩⟩
      have hib : inB r c (i : Int) := ⟨by omega, by omega⟩
      have tdn := tp_dn (o := .frz od (DNo P w D es)) eDZ
      have feF := feZ.move tdn
      have eF : (upd Z' D (.frz od (DNo P w D es))) D = some (.frz od (DNo P w D es)) := upd_same
      have back : ∀ F : Hp, Same (upd Z' D (.frz od (DNo P w D es))) F → Same Z' (upd F D (DNo P w D es)) := fun F sF x o e => by
        by_cases q : x = D
        · rw [q, eDZ] at e
          rw [q, upd_same]; exact e
        · rw [upd_ne q]; exact sF _ _ (by rw [upd_ne q]; exact e)
      generalize upd Z' D (.frz od (DNo P w D es)) = H20 at feF eF back
      refine lc_filt walk_n Same (fun a b => a.trans b) (itN r xs i) (fun n u _ => u = .int (n : Nat)) (fun _ _ _ _ _ q => q) (small1000'' (by rw [feF.l]; exact Nat.le_trans (far_len okc stn (by omega) far) (by decide))) Same.refl (fun F D' acc sF nF => (sF.trans (same_new nF)) _ _ eF) (fun n x D' acc F H' hn nD' sF nF hl hy Nx hno hyes => ?_) (fun D' ys F nD' sF nF hp => ?_)
      · obtain ⟨rfl, e, he, rfl⟩ := hy
        obtain ⟨x', hx', e1, e2, e3⟩ := feF.d n e he
        have s2 := sF.trans (same_new nF (o := .lst acc))
        have stx := far_stn okc stn far x' (List.mem_iff_getElem?.mpr ⟨n, hx'⟩)
        have hbl := boats_len stx.ok r
        obtain ⟨sa, sxs, pb, sea, hsa, hat, hpb⟩ := sn_at (Dp.same s2 _ e2) r
        rw [V.ref.inj sea]
        refine ⟨rfl, _, rfl, _, rfl, sa, _, _, _, rfl, rfl, .inr hsa, hat, _, rfl, pb, _, _, _, rfl, rfl, .inr hpb, gt_at (by omega) (by omega), _, _, rfl, rfl, _, rfl, ?_⟩
        have ei : itN r xs i n = if gt (boatsW r x'.1) (i : Int) > 0 then some x'.2 else none := by unfold itN; rw [hx']
        by_cases hp : 0 < gt (boatsW r x'.1) (i : Int)
        · rw [decide_eq_true hp]
          refine iteT (hide_put nF hl fun Q hQ => ?_)
          have feH := feF.move (Tp.of sF)
          have hk : Dp K F (.ref sa) (snD x'.1) := by rw [← V.ref.inj sea]; exact Dp.same sF _ e2
          refine ⟨_, rfl, _, rfl, D, .int (x'.2 : Nat), rfl, ⟨es, kyS x'.1, sa, .inr ⟨od, sF _ _ eF⟩, feH.ky, rfl, ky_at hk, (feH.get far.nd (List.mem_iff_getElem?.mpr ⟨n, hx'⟩)).symm⟩, ?_⟩
          exact hQ _ _ (hyes x'.2 (by rw [ei, if_pos hp]) _ _ (Same.refl _) rfl)
        · rw [decide_eq_false hp]
          exact iteF (hno (by rw [ei, if_neg hp]) _ (Same.refl _) nF)
      · have e1 := parts_nat hp
        have l1 := hp.1
        have hnear : ∀ d : Nat, d ∈ (List.range es.length).filterMap (itN r xs i) ↔ ∃ x, (x, d) ∈ xs ∧ gt (boatsW r x) (i : Int) > 0 := fun d => by rw [feF.l]; exact itN_mem
        generalize (List.range es.length).filterMap (itN r xs i) = nl at e1 hnear l1
        subst e1
        have sD := sF.trans (same_new nF (o := .lst ((nl.map fun n : Nat => (n : Int)).map V.int)))
        refine at_g (σ' := [some (.ref b), some (.ref a), some (.str (wS r)), some (.int (pI r)), some (.ref PL), some (.int (nb : Nat)), some (.ref LT), some (.ref D), y8, y9, some (.int (i : Int)), some (.ref D'), y12, none]) rfl ?_
        refine ⟨sD _ _ eF, ?_⟩
        have hDD : D' ≠ D := fun z => by rw [z, eF] at nD'; cases nD'
        have sB := back _ sD
        have eN : (upd (upd F D' (.lst ((nl.map fun n : Nat => (n : Int)).map V.int))) D (DNo P w D es)) D' = some (.lst ((nl.map fun n : Nat => (n : Int)).map V.int)) := by rw [upd_ne hDD, upd_same]
        generalize upd (upd F D' (.lst ((nl.map fun n : Nat => (n : Int)).map V.int))) D (DNo P w D es) = Z1 at sB eN
        have hcZ := Dp.same (sZ.trans sB) _ hcG
        have hLZ := Dp.same (sZ.trans sB) _ hLG
        obtain ⟨f, R⟩ := rl_ex (c := c) (s := sL) (r := r) okc0
        refine ⟨_, rfl, _, rfl, _, rfl, _, rfl, nil_go ⟨.ref a, .ref LT, r, (i : Int), c, sL, 3, rfl, cnAny_t hcZ, hLZ, okc0, okal.1, okal.2, fun f1 Z2 s2 R1 => ?_⟩⟩
        obtain rfl := R.uniq R1
        -- what is near, and the road
        have nz : f (i : Int) = none → nl = [] := fun e => by
          cases nl with
          | nil => rfl
          | cons d t =>
            obtain ⟨x, hx, hpx⟩ := (hnear d).mp (List.mem_cons_self ..)
            obtain ⟨ks, k1, _⟩ := (far_road okc okal.1 R.rd d x (far.d _ hx)).1 (i : Int) hib hpx
            rw [e] at k1; cases k1
        have ns : ∀ ks, f (i : Int) = some ks → (∃ d ∈ nl, d ≤ ks.length) ∧ ∀ d ∈ nl, ks.length ≤ d := fun ks e => by
          refine ⟨?_, fun d hd => ?_⟩
          · obtain ⟨r1, r2, _, _⟩ := R.rd.gone okc okal.1 ks.length (i : Int) ks rfl e
            obtain ⟨d, hd, dl⟩ := far.le ks.length _ ⟨rowOf r ks, r1, (fun m hm => by obtain ⟨z, _, rfl⟩ := List.mem_map.mp hm; rfl), by unfold rowOf; rw [List.length_map], rfl⟩
            exact ⟨d, (hnear d).mpr ⟨_, hd, r2⟩, dl⟩
          · obtain ⟨x, hx, hpx⟩ := (hnear d).mp hd
            obtain ⟨ks', k1, k2⟩ := (far_road okc okal.1 R.rd d x (far.d _ hx)).1 (i : Int) hib hpx
            rw [e] at k1
            rw [Option.some.inj k1]; exact k2
        have sE : ∀ {Z3 : Hp}, Same Z1 Z3 → Dp K Z3 (.ref D') (.list (intsD (nl.map fun n : Nat => (n : Int)))) := fun {Z3} q => .lst (SqL.of (q _ _ eN)) (dp_ints' _)
        refine ⟨fun hn => ?_, fun fa us ks hk Mv1 => ?_⟩
        · obtain rfl := nz hn
          refine at_g (σ' := [some (.ref b), some (.ref a), some (.str (wS r)), some (.int (pI r)), some (.ref PL), some (.int (nb : Nat)), some (.ref LT), some (.ref D), y8, y9, some (.int (i : Int)), some (.ref D'), some .non, none]) rfl ?_
          have hcY := Dp.same s2 _ hcZ
          have hLY := Dp.same s2 _ hLZ
          refine ⟨_, rfl, _, rfl, _, rfl, _, rfl, nil_go ⟨.ref a, .ref LT, r, c, sL, 3, rfl, cnAny_t hcY, hLY, okc0, okal.1, okal.2, fun SL3 g Z3 s3 nS3 rg eS3 => ⟨SL3, _, rfl, .inl (SqL.of eS3), rfl, flat_ints _, _, rfl, (by show 0 ≤ sizeLine; decide), fun em nem => ?_⟩⟩⟩
          have s4 := same_new nem (o := .lst [])
          refine ⟨_, .list [], sE (s2.trans (s3.trans s4)), .lst (SqL.of upd_same) .nil, lints_shaped _, rfl, rfl, _, rfl, ?_⟩
          have hg : g (i : Int) = none ↔ f (i : Int) = none := dom_eq (ms := []) okc okal.1 trivial (fun m hm => by cases hm) rg R.rd _
          rw [in_ints, decide_eq_true (p := (i : Int) ∈ natI (slp c r g)) ((slp_mem hib.2).mpr (hg.mpr hn)), ints_nil]
          refine iteF ?_
          generalize upd Z3 em (.lst []) = Z4 at s4
          refine ⟨_, rfl, rfl, _, rfl, (by show 0 ≤ sizeLine; decide), fun em2 nem2 => ?_⟩
          have s5 := same_new nem2 (o := .lst [])
          refine ⟨_, .list [], sE (s2.trans (s3.trans (s4.trans s5))), .lst (SqL.of upd_same) .nil, lints_shaped _, rfl, rfl, _, rfl, ?_⟩
          rw [ints_nil]
          refine iteF ?_
          generalize upd Z4 em2 (.lst []) = Z5 at s5
          refine ⟨_, rfl, (by show 0 ≤ sizeLine; decide), fun em3 nem3 => ?_⟩
          have s6 := same_new nem3 (o := .lst [])
          refine ⟨_, .list [], sE (s2.trans (s3.trans (s4.trans (s5.trans s6)))), .lst (SqL.of upd_same) .nil, lints_shaped _, rfl, _, rfl, ?_⟩
          rw [ints_nil]
          exact iteF (iteF ⟨_, _, _, rfl, sZ.trans (sB.trans (s2.trans (s3.trans (s4.trans (s5.trans s6)))))⟩)
        · obtain ⟨⟨d0, hd0, hd0l⟩, hmin⟩ := ns ks hk
          have hne0 : (nl.map fun n : Nat => (n : Int)).isEmpty = false := by cases nl with
            | nil => cases hd0
            | cons d t => rfl
          refine at_g (σ' := [some (.ref b), some (.ref a), some (.str (wS r)), some (.int (pI r)), some (.ref PL), some (.int (nb : Nat)), some (.ref LT), some (.ref D), y8, y9, some (.int (i : Int)), some (.ref D'), some (.ref fa), none]) rfl ?_
          have hcY := Dp.same s2 _ hcZ
          have hLY := Dp.same s2 _ hLZ
          refine ⟨_, rfl, _, rfl, _, rfl, _, rfl, nil_go ⟨.ref a, .ref LT, r, c, sL, 3, rfl, cnAny_t hcY, hLY, okc0, okal.1, okal.2, fun SL3 g Z3 s3 nS3 rg eS3 => ⟨SL3, _, rfl, .inl (SqL.of eS3), rfl, flat_ints _, _, rfl, (by show 0 ≤ sizeLine; decide), fun em nem => ?_⟩⟩⟩
          have s4 := same_new nem (o := .lst [])
          refine ⟨_, .list [], sE (s2.trans (s3.trans s4)), .lst (SqL.of upd_same) .nil, lints_shaped _, rfl, rfl, _, rfl, ?_⟩
          have hg : g (i : Int) = none ↔ f (i : Int) = none := dom_eq (ms := []) okc okal.1 trivial (fun m hm => by cases hm) rg R.rd _
          rw [in_ints, decide_eq_false (p := (i : Int) ∈ natI (slp c r g)) (fun z => by have := hg.mp ((slp_mem hib.2).mp z); rw [hk] at this; cases this), ints_nil, hne0]
          refine iteF ?_
          generalize upd Z3 em (.lst []) = Z4 at s4
          refine ⟨_, rfl, rfl, _, rfl, (by show 0 ≤ sizeLine; decide), fun em2 nem2 => ?_⟩
          have s5 := same_new nem2 (o := .lst [])
          refine ⟨_, .list [], sE (s2.trans (s3.trans (s4.trans s5))), .lst (SqL.of upd_same) .nil, lints_shaped _, rfl, rfl, _, rfl, ?_⟩
          rw [ints_nil, hne0]
          refine iteF ?_
          generalize upd Z4 em2 (.lst []) = Z5 at s5
          refine ⟨_, rfl, (by show 0 ≤ sizeLine; decide), fun em3 nem3 => ?_⟩
          have s6 := same_new nem3 (o := .lst [])
          refine ⟨_, .list [], sE (s2.trans (s3.trans (s4.trans (s5.trans s6)))), .lst (SqL.of upd_same) .nil, lints_shaped _, rfl, _, rfl, ?_⟩
          rw [ints_nil, hne0]
          have s26 := s3.trans (s4.trans (s5.trans s6))
          refine iteT ⟨_, rfl, fa, us, rfl, .inl (SqL.of (s26 _ _ Mv1.e)), _, rfl, D', _, rfl, SqL.of ((s2.trans s26) _ _ eN), (by rw [List.length_map]; exact List.length_pos_of_mem hd0), fun mn hmn hle => ⟨rfl, _, rfl, ?_⟩⟩
          have hmn' : mn = (us.length : Int) := by
            obtain ⟨d1, hd1, rfl⟩ := List.mem_map.mp hmn
            have a1 := hmin d1 hd1
            have a2 := hle (d0 : Int) (List.mem_map.mpr ⟨d0, hd0, rfl⟩)
            have l := Mv1.l
            unfold rowOf at l
            rw [List.length_map] at l
            omega
          rw [hmn', decide_eq_true rfl]
          exact iteF ⟨_, _, _, rfl, sZ.trans (sB.trans (s2.trans s26))⟩
    · obtain ⟨y10, y11, y12, rfl, sZ⟩ := h
      exact q _ (dG.trans (Dr.of dG.box sZ))
end
end XL
namespace XL
open PySem PySem.Spec PyProof.Rows L2
abbrev sLaw : Stmt := topS 42
section
variable {P : Program} {w : World} {K : PySem.W.Frag} {mg : Str → Option Value} {base : Heap}
abbrev nLaw : List Str := ["_law_script", "_law_cells_here", "_law_k"]
theorem scLaw : FnScope nLaw ["_law_script"] (defScope sLaw) := ⟨rfl, rfl, rfl, by decide +kernel, rfl, by decide +kernel, by decide +kernel⟩
def spLaw (K : PySem.W.Frag) : Sp := fun vs H Q _ => ∃ (a : Addr) (ns : List Int), vs = [.ref a] ∧ SqL K H a (ns.map V.int) ∧ ns.length ≤ 63 ∧ ∀ H', Q (.bl true) H'
theorem ok_law {f fc fx fr : Addr} {fd fdc fdx fdr : FuncData} (F : Fun K "law" "law" sLaw f fd)
    (C : Fns P w K mg base 14 "_law_cells" ["_law_script", "_law_utmost"] (spCells K) fc fdc) (B : Fns P w K mg base 14 "_law_box" ["_law_cells_here", "_law_k"] (spBox K) fx fdx)
    (R : FnG P w K mg base 14 fr fdr ["_law_box_here"] spRight) (gR : mg "_law_right" = some (.ref fr)) (kR : PySem.W.keepIn K (.ref fr) = true) (bR : Binds K fdr ["_law_box_here"] []) (me : mg "len" = none) (ma : mg "all" = none) (mr : mg "range" = none) :
    FnG P w K mg base 15 f fd ["_law_script"] (spLaw K) := by
  refine okG F scLaw (fun vs H Q E h => ?_) (fun cdv A outer s H vs Q E hG hr h => ?_)
  · obtain ⟨a, ns, rfl, _⟩ := h
    rfl
  obtain ⟨a, ns, rfl, ha, hn, q⟩ := h
  refine ⟨_, pss_cons (ps_set (i := 1) scLaw.nd rfl (.inr rfl) (pe_fn C hr rfl (pa_cons (pv 0) (pa_cons pe_int pa_nil))))
    (pss_one (ps_ret (pe_callB (cr_all rfl) rfl ma boot_all (pa_cons (pe_lc (own := [("_law_k", 2)]) (g := gName 2) (tt := tYes) rfl scLaw.nd (pi_range1 rfl mr (pa_cons (pe_callB call_len_seq rfl me PySem.boot_len (pa_cons (pv 1) pa_nil)) pa_nil)) (blkOk_by (own := [("_law_k", 2)]) (N := nLaw) (sc := defScope sLaw) (by decide +kernel))
        (fun _ _ _ _ _ => pg_name (i := 2) scLaw.nd rfl (Or.inl rfl)) (fun _ _ _ _ _ => pts_nil) (fun _ _ _ _ _ => pe_hide (pe_callG hG R hr rfl gR kR bR (pa_cons (pe_fn B hr rfl (pa_cons (pv 1) (pa_cons (pv 2) pa_nil))) pa_nil)))) pa_nil)))), ?_⟩
  refine ⟨_, rfl, a, ns, 2, rfl, ha, hn, by decide, by decide, fun p zs H1 s1 np ep z1 z2 => ?_⟩
  refine at_g (σ' := [some (.ref a), some (.ref p), none]) rfl ?_
  refine ⟨_, rfl, p, _, rfl, .inl (SqL.of ep), _, rfl, by rw [List.length_map]; omega, by rw [List.length_map]; omega, lc_map walk_range Same (fun a b => a.trans b) (fun i y F => y = .bl true) (fun i y A B _ p => p) (by rw [List.length_map]; exact Nat.lt_of_le_of_lt z2 (by decide)) (Same.refl _) (fun _ _ _ _ _ => trivial) (fun j x D acc F H' hj nD sF nF hy B hB => ?_) (fun D ys F nD sF nF hl hR => ?_)⟩
  · obtain ⟨rfl, rfl⟩ := hy
    have hj' : j < zs.length := by rw [List.length_map] at hj; omega
    refine hB _ F rfl nF fun Qt hq => ?_
    refine ⟨_, rfl, _, rfl, p, zs, j, by show [V.ref p, V.int (0 + (j : Int))] = _; rw [Int.zero_add], SqL.of (sF _ _ ep), hj', fun b x y nb => ?_⟩
    refine ⟨b, rfl, ⟨x, y, 0, upd_same⟩, fun F' d => hq _ _ (fun c o e => ?_) rfl⟩
    have hc : c ≠ b := ne_of_none e nb
    exact d.same c o hc (by rw [upd_ne hc]; exact e)
  · refine ⟨D, List.replicate ys.length true, rfl, ?_, ?_⟩
    · rw [← eq_true_map ys hR]; exact SqL.of upd_same
    · rw [all_true]
      exact q _
end

set_option maxHeartbeats 4000000 in
theorem all_mk {l : PySem.W.OpenLaw} {w : World} {K : PySem.W.Frag} {h : Heap} {mg : Str → Option Value} {fa f1 f2 f3 f4 f5 f6 f7 f8 f9 f10 f11 f12 f13 f14 f15 f16 f17 f18 f19 f20 f21 f22 f23 f24 f25 f26 f27 f28 f29 f30 f31 f32 f33 : Addr} (X : K.In h) (G : h.Ns mainGlobals mg) (hfa : mg "law" = some (.ref fa))
    {od1 an1 : Option Addr} {sl1 : Array (Option Value)} {oc1 kV1 dc1 pm1 cd1 ct1 : Value}
    {od2 an2 : Option Addr} {sl2 : Array (Option Value)} {oc2 kV2 dc2 pm2 cd2 ct2 : Value}
    {od3 an3 : Option Addr} {sl3 : Array (Option Value)} {oc3 kV3 dc3 pm3 cd3 ct3 : Value}
    {od4 an4 : Option Addr} {sl4 : Array (Option Value)} {oc4 kV4 dc4 pm4 cd4 ct4 : Value}
    {od5 an5 : Option Addr} {sl5 : Array (Option Value)} {oc5 kV5 dc5 pm5 cd5 ct5 : Value}
    {od6 an6 : Option Addr} {sl6 : Array (Option Value)} {oc6 kV6 dc6 pm6 cd6 ct6 : Value}
    {od7 an7 : Option Addr} {sl7 : Array (Option Value)} {oc7 kV7 dc7 pm7 cd7 ct7 : Value}
    {od8 an8 : Option Addr} {sl8 : Array (Option Value)} {oc8 kV8 dc8 pm8 cd8 ct8 : Value}
    {od9 an9 : Option Addr} {sl9 : Array (Option Value)} {oc9 kV9 dc9 pm9 cd9 ct9 : Value}
    {od10 an10 : Option Addr} {sl10 : Array (Option Value)} {oc10 kV10 dc10 pm10 cd10 ct10 : Value}
    {od11 an11 : Option Addr} {sl11 : Array (Option Value)} {oc11 kV11 dc11 pm11 cd11 ct11 : Value}
    {od12 an12 : Option Addr} {sl12 : Array (Option Value)} {oc12 kV12 dc12 pm12 cd12 ct12 : Value}
    {od13 an13 : Option Addr} {sl13 : Array (Option Value)} {oc13 kV13 dc13 pm13 cd13 ct13 : Value}
    {od14 an14 : Option Addr} {sl14 : Array (Option Value)} {oc14 kV14 dc14 pm14 cd14 ct14 : Value}
    {od15 an15 : Option Addr} {sl15 : Array (Option Value)} {oc15 kV15 dc15 pm15 cd15 ct15 : Value}
    {od16 an16 : Option Addr} {sl16 : Array (Option Value)} {oc16 kV16 dc16 pm16 cd16 ct16 : Value}
    {od17 an17 : Option Addr} {sl17 : Array (Option Value)} {oc17 kV17 dc17 pm17 cd17 ct17 : Value}
    {od18 an18 : Option Addr} {sl18 : Array (Option Value)} {oc18 kV18 dc18 pm18 cd18 ct18 : Value}
    {od19 an19 : Option Addr} {sl19 : Array (Option Value)} {oc19 kV19 dc19 pm19 cd19 ct19 : Value}
    {od20 an20 : Option Addr} {sl20 : Array (Option Value)} {oc20 kV20 dc20 pm20 cd20 ct20 : Value}
    {od21 an21 : Option Addr} {sl21 : Array (Option Value)} {oc21 kV21 dc21 pm21 cd21 ct21 : Value}
    {od22 an22 : Option Addr} {sl22 : Array (Option Value)} {oc22 kV22 dc22 pm22 cd22 ct22 : Value}
    {od23 an23 : Option Addr} {sl23 : Array (Option Value)} {oc23 kV23 dc23 pm23 cd23 ct23 : Value}
    {od24 an24 : Option Addr} {sl24 : Array (Option Value)} {oc24 kV24 dc24 pm24 cd24 ct24 : Value}
    {od25 an25 : Option Addr} {sl25 : Array (Option Value)} {oc25 kV25 dc25 pm25 cd25 ct25 : Value}
    {od26 an26 : Option Addr} {sl26 : Array (Option Value)} {oc26 kV26 dc26 pm26 cd26 ct26 : Value}
    {od27 an27 : Option Addr} {sl27 : Array (Option Value)} {oc27 kV27 dc27 pm27 cd27 ct27 : Value}
    {od28 an28 : Option Addr} {sl28 : Array (Option Value)} {oc28 kV28 dc28 pm28 cd28 ct28 : Value}
    {od29 an29 : Option Addr} {sl29 : Array (Option Value)} {oc29 kV29 dc29 pm29 cd29 ct29 : Value}
    {od30 an30 : Option Addr} {sl30 : Array (Option Value)} {oc30 kV30 dc30 pm30 cd30 ct30 : Value}
    {od31 an31 : Option Addr} {sl31 : Array (Option Value)} {oc31 kV31 dc31 pm31 cd31 ct31 : Value}
    {od32 an32 : Option Addr} {sl32 : Array (Option Value)} {oc32 kV32 dc32 pm32 cd32 ct32 : Value}
    {od33 an33 : Option Addr} {sl33 : Array (Option Value)} {oc33 kV33 dc33 pm33 cd33 ct33 : Value}
    {t_RED t_BLUE : Tok}
    {cB eB : Addr} {xodB xanB : Option Addr} {xslB : Array (Option Value)} {xocB xkVB xdcB xpmB xcdB xctB : Value} {nmB qB : Str} {NB : Addr} {bbB : List Value} {snB : List Str} {subB : List Value} {abB : Bool} {colB : Option Bool} {ddB : Option Addr} {maB mbB mcB mdB meB : Option Value}
    (a1 : PySem.W.nsIn K mainGlobals "tupled" = some (some (.ref f1)))
    (l1 : K.lookup f1 = some ⟨oc1, od1, .func (PySem.W.fnOf "tupled" "tupled" (defArgs sTupled) (defBody sTupled) (defScope sTupled) .none kV1 dc1 pm1 an1 cd1 ct1), sl1⟩)
    (d1 : PySem.W.codeIn K cd1 "tupled" = true)
    (k1 : PySem.W.keepIn K (.ref f1) = true)
    (a2 : PySem.W.nsIn K mainGlobals "basins_of" = some (some (.ref f2)))
    (l2 : K.lookup f2 = some ⟨oc2, od2, .func (PySem.W.fnOf "basins_of" "basins_of" (defArgs sBas) (defBody sBas) (defScope sBas) .none kV2 dc2 pm2 an2 cd2 ct2), sl2⟩)
    (d2 : PySem.W.codeIn K cd2 "basins_of" = true)
    (k2 : PySem.W.keepIn K (.ref f2) = true)
    (a3 : PySem.W.nsIn K mainGlobals "ends_of" = some (some (.ref f3)))
    (l3 : K.lookup f3 = some ⟨oc3, od3, .func (PySem.W.fnOf "ends_of" "ends_of" (defArgs sEnds) (defBody sEnds) (defScope sEnds) .none kV3 dc3 pm3 an3 cd3 ct3), sl3⟩)
    (d3 : PySem.W.codeIn K cd3 "ends_of" = true)
    (k3 : PySem.W.keepIn K (.ref f3) = true)
    (a4 : PySem.W.nsIn K mainGlobals "from_and_to" = some (some (.ref f4)))
    (l4 : K.lookup f4 = some ⟨oc4, od4, .func (PySem.W.fnOf "from_and_to" "from_and_to" (defArgs sFT) (defBody sFT) (defScope sFT) .none kV4 dc4 pm4 an4 cd4 ct4), sl4⟩)
    (d4 : PySem.W.codeIn K cd4 "from_and_to" = true)
    (k4 : PySem.W.keepIn K (.ref f4) = true)
    (a5 : PySem.W.nsIn K mainGlobals "has_boat" = some (some (.ref f5)))
    (l5 : K.lookup f5 = some ⟨oc5, od5, .func (PySem.W.fnOf "has_boat" "has_boat" (defArgs sHas) (defBody sHas) (defScope sHas) .none kV5 dc5 pm5 an5 cd5 ct5), sl5⟩)
    (d5 : PySem.W.codeIn K cd5 "has_boat" = true)
    (k5 : PySem.W.keepIn K (.ref f5) = true)
    (a6 : PySem.W.nsIn K mainGlobals "gone" = some (some (.ref f6)))
    (l6 : K.lookup f6 = some ⟨oc6, od6, .func (PySem.W.fnOf "gone" "gone" (defArgs sGone) (defBody sGone) (defScope sGone) .none kV6 dc6 pm6 an6 cd6 ct6), sl6⟩)
    (d6 : PySem.W.codeIn K cd6 "gone" = true)
    (k6 : PySem.W.keepIn K (.ref f6) = true)
    (a7 : PySem.W.nsIn K mainGlobals "gone_all" = some (some (.ref f7)))
    (l7 : K.lookup f7 = some ⟨oc7, od7, .func (PySem.W.fnOf "gone_all" "gone_all" (defArgs sGA) (defBody sGA) (defScope sGA) .none kV7 dc7 pm7 an7 cd7 ct7), sl7⟩)
    (d7 : PySem.W.codeIn K cd7 "gone_all" = true)
    (k7 : PySem.W.keepIn K (.ref f7) = true)
    (a8 : PySem.W.nsIn K mainGlobals "boats_of" = some (some (.ref f8)))
    (l8 : K.lookup f8 = some ⟨oc8, od8, .func (PySem.W.fnOf "boats_of" "boats_of" (defArgs sBoO) (defBody sBoO) (defScope sBoO) .none kV8 dc8 pm8 an8 cd8 ct8), sl8⟩)
    (d8 : PySem.W.codeIn K cd8 "boats_of" = true)
    (k8 : PySem.W.keepIn K (.ref f8) = true)
    (a9 : PySem.W.nsIn K mainGlobals "be_alone" = some (some (.ref f9)))
    (l9 : K.lookup f9 = some ⟨oc9, od9, .func (PySem.W.fnOf "be_alone" "be_alone" (defArgs sAl) (defBody sAl) (defScope sAl) .none kV9 dc9 pm9 an9 cd9 ct9), sl9⟩)
    (d9 : PySem.W.codeIn K cd9 "be_alone" = true)
    (k9 : PySem.W.keepIn K (.ref f9) = true)
    (a10 : PySem.W.nsIn K mainGlobals "roads" = some (some (.ref f10)))
    (l10 : K.lookup f10 = some ⟨oc10, od10, .func (PySem.W.fnOf "roads" "roads" (defArgs sRo) (defBody sRo) (defScope sRo) .none kV10 dc10 pm10 an10 cd10 ct10), sl10⟩)
    (d10 : PySem.W.codeIn K cd10 "roads" = true)
    (k10 : PySem.W.keepIn K (.ref f10) = true)
    (a11 : PySem.W.nsIn K mainGlobals "asleep" = some (some (.ref f11)))
    (l11 : K.lookup f11 = some ⟨oc11, od11, .func (PySem.W.fnOf "asleep" "asleep" (defArgs sAs) (defBody sAs) (defScope sAs) .none kV11 dc11 pm11 an11 cd11 ct11), sl11⟩)
    (d11 : PySem.W.codeIn K cd11 "asleep" = true)
    (k11 : PySem.W.keepIn K (.ref f11) = true)
    (a12 : PySem.W.nsIn K mainGlobals "unlike_locks" = some (some (.ref f12)))
    (l12 : K.lookup f12 = some ⟨oc12, od12, .func (PySem.W.fnOf "unlike_locks" "unlike_locks" (defArgs sUl) (defBody sUl) (defScope sUl) .none kV12 dc12 pm12 an12 cd12 ct12), sl12⟩)
    (d12 : PySem.W.codeIn K cd12 "unlike_locks" = true)
    (k12 : PySem.W.keepIn K (.ref f12) = true)
    (a13 : PySem.W.nsIn K mainGlobals "boats_behind" = some (some (.ref f13)))
    (l13 : K.lookup f13 = some ⟨oc13, od13, .func (PySem.W.fnOf "boats_behind" "boats_behind" (defArgs sBb) (defBody sBb) (defScope sBb) .none kV13 dc13 pm13 an13 cd13 ct13), sl13⟩)
    (d13 : PySem.W.codeIn K cd13 "boats_behind" = true)
    (k13 : PySem.W.keepIn K (.ref f13) = true)
    (a14 : PySem.W.nsIn K mainGlobals "leads" = some (some (.ref f14)))
    (l14 : K.lookup f14 = some ⟨oc14, od14, .func (PySem.W.fnOf "leads" "leads" (defArgs sLe) (defBody sLe) (defScope sLe) .none kV14 dc14 pm14 an14 cd14 ct14), sl14⟩)
    (d14 : PySem.W.codeIn K cd14 "leads" = true)
    (k14 : PySem.W.keepIn K (.ref f14) = true)
    (a15 : PySem.W.nsIn K mainGlobals "first_ready" = some (some (.ref f15)))
    (l15 : K.lookup f15 = some ⟨oc15, od15, .func (PySem.W.fnOf "first_ready" "first_ready" (defArgs sFr) (defBody sFr) (defScope sFr) .none kV15 dc15 pm15 an15 cd15 ct15), sl15⟩)
    (d15 : PySem.W.codeIn K cd15 "first_ready" = true)
    (k15 : PySem.W.keepIn K (.ref f15) = true)
    (a16 : PySem.W.nsIn K mainGlobals "nearest_road" = some (some (.ref f16)))
    (l16 : K.lookup f16 = some ⟨oc16, od16, .func (PySem.W.fnOf "nearest_road" "nearest_road" (defArgs sNr) (defBody sNr) (defScope sNr) .none kV16 dc16 pm16 an16 cd16 ct16), sl16⟩)
    (d16 : PySem.W.codeIn K cd16 "nearest_road" = true)
    (k16 : PySem.W.keepIn K (.ref f16) = true)
    (a17 : PySem.W.nsIn K mainGlobals "row_alone" = some (some (.ref f17)))
    (l17 : K.lookup f17 = some ⟨oc17, od17, .func (PySem.W.fnOf "row_alone" "row_alone" (defArgs sRw) (defBody sRw) (defScope sRw) .none kV17 dc17 pm17 an17 cd17 ct17), sl17⟩)
    (d17 : PySem.W.codeIn K cd17 "row_alone" = true)
    (k17 : PySem.W.keepIn K (.ref f17) = true)
    (a18 : PySem.W.nsIn K mainGlobals "woken" = some (some (.ref f18)))
    (l18 : K.lookup f18 = some ⟨oc18, od18, .func (PySem.W.fnOf "woken" "woken" (defArgs sWo) (defBody sWo) (defScope sWo) .none kV18 dc18 pm18 an18 cd18 ct18), sl18⟩)
    (d18 : PySem.W.codeIn K cd18 "woken" = true)
    (k18 : PySem.W.keepIn K (.ref f18) = true)
    (a19 : PySem.W.nsIn K mainGlobals "_law_box" = some (some (.ref f19)))
    (l19 : K.lookup f19 = some ⟨oc19, od19, .func (PySem.W.fnOf "_law_box" "_law_box" (defArgs sBox) (defBody sBox) (defScope sBox) .none kV19 dc19 pm19 an19 cd19 ct19), sl19⟩)
    (d19 : PySem.W.codeIn K cd19 "_law_box" = true)
    (k19 : PySem.W.keepIn K (.ref f19) = true)
    (a20 : PySem.W.nsIn K mainGlobals "_law_take" = some (some (.ref f20)))
    (l20 : K.lookup f20 = some ⟨oc20, od20, .func (PySem.W.fnOf "_law_take" "_law_take" (defArgs sTake) (defBody sTake) (defScope sTake) .none kV20 dc20 pm20 an20 cd20 ct20), sl20⟩)
    (d20 : PySem.W.codeIn K cd20 "_law_take" = true)
    (k20 : PySem.W.keepIn K (.ref f20) = true)
    (a21 : PySem.W.nsIn K mainGlobals "_law_cells" = some (some (.ref f21)))
    (l21 : K.lookup f21 = some ⟨oc21, od21, .func (PySem.W.fnOf "_law_cells" "_law_cells" (defArgs sCells) (defBody sCells) (defScope sCells) .none kV21 dc21 pm21 an21 cd21 ct21), sl21⟩)
    (d21 : PySem.W.codeIn K cd21 "_law_cells" = true)
    (k21 : PySem.W.keepIn K (.ref f21) = true)
    (a22 : PySem.W.nsIn K mainGlobals "_law_of" = some (some (.ref f22)))
    (l22 : K.lookup f22 = some ⟨oc22, od22, .func (PySem.W.fnOf "_law_of" "_law_of" (defArgs sOf) (defBody sOf) (defScope sOf) .none kV22 dc22 pm22 an22 cd22 ct22), sl22⟩)
    (d22 : PySem.W.codeIn K cd22 "_law_of" = true)
    (k22 : PySem.W.keepIn K (.ref f22) = true)
    (a23 : PySem.W.nsIn K mainGlobals "_law_canal" = some (some (.ref f23)))
    (l23 : K.lookup f23 = some ⟨oc23, od23, .func (PySem.W.fnOf "_law_canal" "_law_canal" (defArgs sCanal) (defBody sCanal) (defScope sCanal) .none kV23 dc23 pm23 an23 cd23 ct23), sl23⟩)
    (d23 : PySem.W.codeIn K cd23 "_law_canal" = true)
    (k23 : PySem.W.keepIn K (.ref f23) = true)
    (a24 : PySem.W.nsIn K mainGlobals "_law_from_to" = some (some (.ref f24)))
    (l24 : K.lookup f24 = some ⟨oc24, od24, .func (PySem.W.fnOf "_law_from_to" "_law_from_to" (defArgs sLF) (defBody sLF) (defScope sLF) .none kV24 dc24 pm24 an24 cd24 ct24), sl24⟩)
    (d24 : PySem.W.codeIn K cd24 "_law_from_to" = true)
    (k24 : PySem.W.keepIn K (.ref f24) = true)
    (a25 : PySem.W.nsIn K mainGlobals "_law_steps" = some (some (.ref f25)))
    (l25 : K.lookup f25 = some ⟨oc25, od25, .func (PySem.W.fnOf "_law_steps" "_law_steps" (defArgs sSt) (defBody sSt) (defScope sSt) .none kV25 dc25 pm25 an25 cd25 ct25), sl25⟩)
    (d25 : PySem.W.codeIn K cd25 "_law_steps" = true)
    (k25 : PySem.W.keepIn K (.ref f25) = true)
    (a26 : PySem.W.nsIn K mainGlobals "_law_behind" = some (some (.ref f26)))
    (l26 : K.lookup f26 = some ⟨oc26, od26, .func (PySem.W.fnOf "_law_behind" "_law_behind" (defArgs sBe) (defBody sBe) (defScope sBe) .none kV26 dc26 pm26 an26 cd26 ct26), sl26⟩)
    (d26 : PySem.W.codeIn K cd26 "_law_behind" = true)
    (k26 : PySem.W.keepIn K (.ref f26) = true)
    (a27 : PySem.W.nsIn K mainGlobals "_law_hues" = some (some (.ref f27)))
    (l27 : K.lookup f27 = some ⟨oc27, od27, .func (PySem.W.fnOf "_law_hues" "_law_hues" (defArgs sHu) (defBody sHu) (defScope sHu) .none kV27 dc27 pm27 an27 cd27 ct27), sl27⟩)
    (d27 : PySem.W.codeIn K cd27 "_law_hues" = true)
    (k27 : PySem.W.keepIn K (.ref f27) = true)
    (a28 : PySem.W.nsIn K mainGlobals "_law_shares" = some (some (.ref f28)))
    (l28 : K.lookup f28 = some ⟨oc28, od28, .func (PySem.W.fnOf "_law_shares" "_law_shares" (defArgs sSh) (defBody sSh) (defScope sSh) .none kV28 dc28 pm28 an28 cd28 ct28), sl28⟩)
    (d28 : PySem.W.codeIn K cd28 "_law_shares" = true)
    (k28 : PySem.W.keepIn K (.ref f28) = true)
    (a29 : PySem.W.nsIn K mainGlobals "_law_highs" = some (some (.ref f29)))
    (l29 : K.lookup f29 = some ⟨oc29, od29, .func (PySem.W.fnOf "_law_highs" "_law_highs" (defArgs sHg) (defBody sHg) (defScope sHg) .none kV29 dc29 pm29 an29 cd29 ct29), sl29⟩)
    (d29 : PySem.W.codeIn K cd29 "_law_highs" = true)
    (k29 : PySem.W.keepIn K (.ref f29) = true)
    (a30 : PySem.W.nsIn K mainGlobals "_law_come_to" = some (some (.ref f30)))
    (l30 : K.lookup f30 = some ⟨oc30, od30, .func (PySem.W.fnOf "_law_come_to" "_law_come_to" (defArgs sCo) (defBody sCo) (defScope sCo) .none kV30 dc30 pm30 an30 cd30 ct30), sl30⟩)
    (d30 : PySem.W.codeIn K cd30 "_law_come_to" = true)
    (k30 : PySem.W.keepIn K (.ref f30) = true)
    (a31 : PySem.W.nsIn K mainGlobals "_law_one_right" = some (some (.ref f31)))
    (l31 : K.lookup f31 = some ⟨oc31, od31, .func (PySem.W.fnOf "_law_one_right" "_law_one_right" (defArgs sOr) (defBody sOr) (defScope sOr) .none kV31 dc31 pm31 an31 cd31 ct31), sl31⟩)
    (d31 : PySem.W.codeIn K cd31 "_law_one_right" = true)
    (k31 : PySem.W.keepIn K (.ref f31) = true)
    (a32 : PySem.W.nsIn K mainGlobals "_law_right" = some (some (.ref f32)))
    (l32 : K.lookup f32 = some ⟨oc32, od32, .func (PySem.W.fnOf "_law_right" "_law_right" (defArgs sRight) (defBody sRight) (defScope sRight) .none kV32 dc32 pm32 an32 cd32 ct32), sl32⟩)
    (d32 : PySem.W.codeIn K cd32 "_law_right" = true)
    (k32 : PySem.W.keepIn K (.ref f32) = true)
    (a33 : PySem.W.nsIn K mainGlobals "law" = some (some (.ref f33)))
    (l33 : K.lookup f33 = some ⟨oc33, od33, .func (PySem.W.fnOf "law" "law" (defArgs sLaw) (defBody sLaw) (defScope sLaw) .none kV33 dc33 pm33 an33 cd33 ct33), sl33⟩)
    (d33 : PySem.W.codeIn K cd33 "law" = true)
    (k33 : PySem.W.keepIn K (.ref f33) = true)
    (z_isinstance : PySem.W.nsIn K mainGlobals "isinstance" = some none)
    (z_list : PySem.W.nsIn K mainGlobals "list" = some none)
    (z_tuple : PySem.W.nsIn K mainGlobals "tuple" = some none)
    (z_zip : PySem.W.nsIn K mainGlobals "zip" = some none)
    (z_len : PySem.W.nsIn K mainGlobals "len" = some none)
    (z_all : PySem.W.nsIn K mainGlobals "all" = some none)
    (z_any : PySem.W.nsIn K mainGlobals "any" = some none)
    (z_int : PySem.W.nsIn K mainGlobals "int" = some none)
    (z_range : PySem.W.nsIn K mainGlobals "range" = some none)
    (z_enumerate : PySem.W.nsIn K mainGlobals "enumerate" = some none)
    (z_abs : PySem.W.nsIn K mainGlobals "abs" = some none)
    (z_min : PySem.W.nsIn K mainGlobals "min" = some none)
    (z_sum : PySem.W.nsIn K mainGlobals "sum" = some none)
    (z_RuntimeError : PySem.W.nsIn K mainGlobals "RuntimeError" = some none)
    (v_RED : PySem.W.nsIn K mainGlobals "RED" = some (some (.str "red" t_RED)))
    (v_BLUE : PySem.W.nsIn K mainGlobals "BLUE" = some (some (.str "blue" t_BLUE)))
    (caB : PySem.W.nsIn K mainGlobals "NoBoat" = some (some (.ref cB)))
    (clB : K.lookup cB = some (excClassObj nmB qB cB NB bbB [.type "RuntimeError", .type "Exception", .type "BaseException", .type "object"] true snB subB abB colB ddB maB mbB mcB mdB meB "RuntimeError.__new__"))
    (csB : PySem.W.findIn K (.ref cB) "__setattr__" = some (some (.builtin "object.__setattr__")))
    (cgB : PySem.W.findIn K (.ref cB) "__getattribute__" = some (some (.builtin "BaseException.__getattribute__")))
    (ctB_ : PySem.W.findIn K (.ref cB) "__getattr__" = some none)
    (ckB : PySem.W.keepIn K (.ref cB) = true)
    (ccB : PySem.W.findIn K (.ref cB) "__class__" = some (some (.builtin "object.__class__")))
    (ciB : PySem.W.findIn K (.ref cB) "__init__" = some (some (.ref eB)))
    (cfB : PySem.W.typeIn K (.ref eB) = some (.type "function"))
    (cyB : PySem.W.typeIn K (.ref cB) = some (.type "type"))
    (chB : PySem.W.hasDictIn K cB = true)
    (cnB : PySem.W.findIn K (.ref cB) "going" = some none)
    (elB : K.lookup eB = some ⟨xocB, xodB, .func (PySem.W.fnOf "__init__" "NoBoat.__init__" (defArgs sIB) (defBody sIB) (defScope sIB) .none xkVB xdcB xpmB xanB xcdB xctB), xslB⟩)
    (edB : PySem.W.codeIn K xcdB "NoBoat.__init__" = true)
    (ekB : PySem.W.keepIn K (.ref eB) = true)
    (sg : PySem.W.specialIn K (.builtin "object.__class__") "__get__" = some (some (.builtin "getset_descriptor.__get__")))
    (st : PySem.W.takesIn K (.builtin "object.__class__") = some true)
    (xs1 : PySem.W.subIn K (.ref cB) (.ref cB) = some true)
    : ∃ fd : FuncData, (∀ (s : Shared) (v : Value), BindsTo s fd ⟨[v], []⟩ [("_law_script", v)]) ∧ ∀ base : Heap, K.In base → base.Ns mainGlobals mg → FnG l.prog w K mg base 15 fa fd ["_law_script"] (spLaw K) := by
  have e := hfa.symm.trans (PySem.W.mg_of X G a33)
  cases e
  have F1 := fun_mk (st := sTupled) l1 d1 k1
  have b1 := F1.binds (ps := ["thing"]) fun _ _ _ _ _ _ us hl => match us, hl with | [_], _ => rfl
  have g1 := PySem.W.mg_of X G a1
  have F2 := fun_mk (st := sBas) l2 d2 k2
  have b2 := F2.binds (ps := ["canal", "water"]) fun _ _ _ _ _ _ us hl => match us, hl with | [_, _], _ => rfl
  have g2 := PySem.W.mg_of X G a2
  have F3 := fun_mk (st := sEnds) l3 d3 k3
  have b3 := F3.binds (ps := ["lock", "water"]) fun _ _ _ _ _ _ us hl => match us, hl with | [_, _], _ => rfl
  have g3 := PySem.W.mg_of X G a3
  have F4 := fun_mk (st := sFT) l4 d4 k4
  have b4 := F4.binds (ps := ["canal", "standing", "lock", "water"]) fun _ _ _ _ _ _ us hl => match us, hl with | [_, _, _, _], _ => rfl
  have g4 := PySem.W.mg_of X G a4
  have F5 := fun_mk (st := sHas) l5 d5 k5
  have b5 := F5.binds (ps := ["canal", "standing", "lock", "water"]) fun _ _ _ _ _ _ us hl => match us, hl with | [_, _, _, _], _ => rfl
  have g5 := PySem.W.mg_of X G a5
  have F6 := fun_mk (st := sGone) l6 d6 k6
  have b6 := F6.binds (ps := ["canal", "standing", "going"]) fun _ _ _ _ _ _ us hl => match us, hl with | [_, _, _], _ => rfl
  have g6 := PySem.W.mg_of X G a6
  have F7 := fun_mk (st := sGA) l7 d7 k7
  have b7 := F7.binds (ps := ["canal", "standing", "row"]) fun _ _ _ _ _ _ us hl => match us, hl with | [_, _, _], _ => rfl
  have g7 := PySem.W.mg_of X G a7
  have F8 := fun_mk (st := sBoO) l8 d8 k8
  have b8 := F8.binds (ps := ["standing", "water"]) fun _ _ _ _ _ _ us hl => match us, hl with | [_, _], _ => rfl
  have g8 := PySem.W.mg_of X G a8
  have F9 := fun_mk (st := sAl) l9 d9 k9
  have b9 := F9.binds (ps := ["standing", "water"]) fun _ _ _ _ _ _ us hl => match us, hl with | [_, _], _ => rfl
  have g9 := PySem.W.mg_of X G a9
  have F10 := fun_mk (st := sRo) l10 d10 k10
  have b10 := F10.binds (ps := ["canal", "standing", "water"]) fun _ _ _ _ _ _ us hl => match us, hl with | [_, _, _], _ => rfl
  have g10 := PySem.W.mg_of X G a10
  have F11 := fun_mk (st := sAs) l11 d11 k11
  have b11 := F11.binds (ps := ["canal", "standing", "water"]) fun _ _ _ _ _ _ us hl => match us, hl with | [_, _, _], _ => rfl
  have g11 := PySem.W.mg_of X G a11
  have F12 := fun_mk (st := sUl) l12 d12 k12
  have b12 := F12.binds (ps := ["one", "other"]) fun _ _ _ _ _ _ us hl => match us, hl with | [_, _], _ => rfl
  have g12 := PySem.W.mg_of X G a12
  have F13 := fun_mk (st := sBb) l13 d13 k13
  have b13 := F13.binds (ps := ["canal", "one", "other", "water"]) fun _ _ _ _ _ _ us hl => match us, hl with | [_, _, _, _], _ => rfl
  have g13 := PySem.W.mg_of X G a13
  have F14 := fun_mk (st := sLe) l14 d14 k14
  have b14 := F14.binds (ps := ["canal", "one", "other", "water"]) fun _ _ _ _ _ _ us hl => match us, hl with | [_, _, _, _], _ => rfl
  have g14 := PySem.W.mg_of X G a14
  have F15 := fun_mk (st := sFr) l15 d15 k15
  have b15 := F15.binds (ps := ["canal", "standing", "water", "locks"]) fun _ _ _ _ _ _ us hl => match us, hl with | [_, _, _, _], _ => rfl
  have g15 := PySem.W.mg_of X G a15
  have F16 := fun_mk (st := sNr) l16 d16 k16
  have b16 := F16.binds (ps := ["canal", "standing", "water", "locks"]) fun _ _ _ _ _ _ us hl => match us, hl with | [_, _, _, _], _ => rfl
  have g16 := PySem.W.mg_of X G a16
  have F17 := fun_mk (st := sRw) l17 d17 k17
  have b17 := F17.binds (ps := ["canal", "one", "other", "water"]) fun _ _ _ _ _ _ us hl => match us, hl with | [_, _, _, _], _ => rfl
  have g17 := PySem.W.mg_of X G a17
  have F18 := fun_mk (st := sWo) l18 d18 k18
  have b18 := F18.binds (ps := ["canal", "standing", "water", "basin"]) fun _ _ _ _ _ _ us hl => match us, hl with | [_, _, _, _], _ => rfl
  have g18 := PySem.W.mg_of X G a18
  have F19 := fun_mk (st := sBox) l19 d19 k19
  have b19 := F19.binds (ps := ["_law_cells_here", "_law_k"]) fun _ _ _ _ _ _ us hl => match us, hl with | [_, _], _ => rfl
  have g19 := PySem.W.mg_of X G a19
  have F20 := fun_mk (st := sTake) l20 d20 k20
  have b20 := F20.binds (ps := ["_law_box_here", "_law_size"]) fun _ _ _ _ _ _ us hl => match us, hl with | [_, _], _ => rfl
  have g20 := PySem.W.mg_of X G a20
  have F21 := fun_mk (st := sCells) l21 d21 k21
  have b21 := F21.binds (ps := ["_law_script", "_law_utmost"]) fun _ _ _ _ _ _ us hl => match us, hl with | [_, _], _ => rfl
  have g21 := PySem.W.mg_of X G a21
  have F22 := fun_mk (st := sOf) l22 d22 k22
  have b22 := F22.binds (ps := ["_law_box_here", "_law_some"]) fun _ _ _ _ _ _ us hl => match us, hl with | [_, _], _ => rfl
  have g22 := PySem.W.mg_of X G a22
  have F23 := fun_mk (st := sCanal) l23 d23 k23
  have b23 := F23.binds (ps := ["_law_box_here", "_law_wide", "_law_utmost"]) fun _ _ _ _ _ _ us hl => match us, hl with | [_, _, _], _ => rfl
  have g23 := PySem.W.mg_of X G a23
  have F24 := fun_mk (st := sLF) l24 d24 k24
  have b24 := F24.binds (ps := ["_law_ship_way", "_law_lying", "_law_hop"]) fun _ _ _ _ _ _ us hl => match us, hl with | [_, _, _], _ => rfl
  have g24 := PySem.W.mg_of X G a24
  have F25 := fun_mk (st := sSt) l25 d25 k25
  have b25 := F25.binds (ps := ["_law_ship_way", "_law_lying"]) fun _ _ _ _ _ _ us hl => match us, hl with | [_, _], _ => rfl
  have g25 := PySem.W.mg_of X G a25
  have F26 := fun_mk (st := sBe) l26 d26 k26
  have b26 := F26.binds (ps := ["_law_ship_way", "_law_lying", "_law_hop"]) fun _ _ _ _ _ _ us hl => match us, hl with | [_, _, _], _ => rfl
  have g26 := PySem.W.mg_of X G a26
  have F27 := fun_mk (st := sHu) l27 d27 k27
  have b27 := F27.binds (ps := ["_law_hue"]) fun _ _ _ _ _ _ us hl => match us, hl with | [_], _ => rfl
  have g27 := PySem.W.mg_of X G a27
  have F28 := fun_mk (st := sSh) l28 d28 k28
  have b28 := F28.binds (ps := ["_law_size", "_law_many"]) fun _ _ _ _ _ _ us hl => match us, hl with | [_, _], _ => rfl
  have g28 := PySem.W.mg_of X G a28
  have F29 := fun_mk (st := sHg) l29 d29 k29
  have b29 := F29.binds (ps := ["_law_size"]) fun _ _ _ _ _ _ us hl => match us, hl with | [_], _ => rfl
  have g29 := PySem.W.mg_of X G a29
  have F30 := fun_mk (st := sCo) l30 d30 k30
  have b30 := F30.binds (ps := ["_law_ship_way", "_law_lying", "_law_hue"]) fun _ _ _ _ _ _ us hl => match us, hl with | [_, _, _], _ => rfl
  have g30 := PySem.W.mg_of X G a30
  have F31 := fun_mk (st := sOr) l31 d31 k31
  have b31 := F31.binds (ps := ["_law_ship_way", "_law_lying", "_law_hue", "_law_far_by", "_law_later"]) fun _ _ _ _ _ _ us hl => match us, hl with | [_, _, _, _, _], _ => rfl
  have g31 := PySem.W.mg_of X G a31
  have F32 := fun_mk (st := sRight) l32 d32 k32
  have b32 := F32.binds (ps := ["_law_box_here"]) fun _ _ _ _ _ _ us hl => match us, hl with | [_], _ => rfl
  have g32 := PySem.W.mg_of X G a32
  have F33 := fun_mk (st := sLaw) l33 d33 k33
  have m_isinstance := PySem.W.mg_none_of X G z_isinstance
  have m_list := PySem.W.mg_none_of X G z_list
  have m_tuple := PySem.W.mg_none_of X G z_tuple
  have m_zip := PySem.W.mg_none_of X G z_zip
  have m_len := PySem.W.mg_none_of X G z_len
  have m_all := PySem.W.mg_none_of X G z_all
  have m_any := PySem.W.mg_none_of X G z_any
  have m_int := PySem.W.mg_none_of X G z_int
  have m_range := PySem.W.mg_none_of X G z_range
  have m_enumerate := PySem.W.mg_none_of X G z_enumerate
  have m_abs := PySem.W.mg_none_of X G z_abs
  have m_min := PySem.W.mg_none_of X G z_min
  have m_sum := PySem.W.mg_none_of X G z_sum
  have m_RuntimeError := PySem.W.mg_none_of X G z_RuntimeError
  have c_RED := PySem.W.mg_of X G v_RED
  have c_BLUE := PySem.W.mg_of X G v_BLUE
  refine ⟨PySem.W.fnOf "law" "law" (defArgs sLaw) (defBody sLaw) (defScope sLaw) .none kV33 dc33 pm33 an33 cd33 ct33, fun s v => .of_eq rfl, fun base _ _ => ?_⟩
  have xxB : ExK K cB 2 := exk_mk F.excBase_RuntimeError F.store_RuntimeError.passes (by decide +kernel) (by decide +kernel) clB csB cgB ctB_ ckB ccB chB sg st
  have yyB := fun_mk (st := sIB) elB edB ekB
  have ybB := yyB.binds (ps := ["self", "going"]) fun _ _ _ _ _ _ us hl => match us, hl with | [_, _], _ => rfl
  have TB : Er l.prog w K mg base "NoBoat" 2 cB eB _ ["self", "going"] (spI cB "going") := ⟨xxB, cyB, ciB, cfB, PySem.W.mg_of X G caB, ok_IB yyB xxB cnB m_RuntimeError, ybB⟩
  have v0_law_canal_spCanal_13 : Fns l.prog w K mg base 13 "_law_canal" ["_law_box_here", "_law_wide", "_law_utmost"] (spCanal K) f23 _ := ⟨ok_canal (k := 10) F23 F20 b20 g20 F22 b22 g22 m_len m_list m_tuple m_range, g23, k23, b23⟩
  have v1_law_of_spOf_13 : Fns l.prog w K mg base 13 "_law_of" ["_law_box_here", "_law_some"] (spOf K) f22 _ := ⟨ok_of (k := 11) F22 F20 b20 g20 m_len, g22, k22, b22⟩
  have v2_law_hues_spHu_13 : Fns l.prog w K mg base 13 "_law_hues" ["_law_hue"] (spHu) f27 _ := ⟨ok_hu (k := 12) F27, g27, k27, b27⟩
  have v3_law_shares_spSh_13 : Fns l.prog w K mg base 13 "_law_shares" ["_law_size", "_law_many"] (spSh K) f28 _ := ⟨ok_sh (k := 12) F28 m_range m_sum, g28, k28, b28⟩
  have v4_law_take_spTake_13 : Fns l.prog w K mg base 13 "_law_take" ["_law_box_here", "_law_size"] (spTake) f20 _ := ⟨ok_take (k := 12) F20, g20, k20, b20⟩
  have v5_law_highs_spHg_13 : Fns l.prog w K mg base 13 "_law_highs" ["_law_size"] (spHg K) f29 _ := ⟨ok_hg (k := 12) F29 m_range, g29, k29, b29⟩
  have v8_law_from_to_spLF_11 : Fns l.prog w K mg base 11 "_law_from_to" ["_law_ship_way", "_law_lying", "_law_hop"] (spLF K) f24 _ := ⟨ok_lf (k := 10) F24, g24, k24, b24⟩
  have v7_law_steps_spSt_12 : Fns l.prog w K mg base 12 "_law_steps" ["_law_ship_way", "_law_lying"] (spSt K) f25 _ := ⟨ok_st (k := 11) F25 v8_law_from_to_spLF_11 m_range m_len m_enumerate, g25, k25, b25⟩
  have v9_law_behind_spBe_12 : Fns l.prog w K mg base 12 "_law_behind" ["_law_ship_way", "_law_lying", "_law_hop"] (spBe K) f26 _ := ⟨ok_be (k := 11) F26 v8_law_from_to_spLF_11 m_list m_int m_tuple, g26, k26, b26⟩
  have v6_law_come_to_spCo_13 : Fns l.prog w K mg base 13 "_law_come_to" ["_law_ship_way", "_law_lying", "_law_hue"] (spCo l.prog w K) f30 _ := ⟨ok_co (k := 12) F30 v7_law_steps_spSt_12 v9_law_behind_spBe_12 m_len, g30, k30, b30⟩
  have v13_boats_of_spBoT_10 : Fns l.prog w K mg base 10 "boats_of" ["standing", "water"] (spBoT K) f8 _ := ⟨ok_bo (k := 9) F8 c_RED, g8, k8, b8⟩
  have v12_be_alone_spAl_11 : Fns l.prog w K mg base 11 "be_alone" ["standing", "water"] (spAl K) f9 _ := ⟨ok_al (k := 10) F9 v13_boats_of_spBoT_10 c_RED c_BLUE m_enumerate, g9, k9, b9⟩
  have v15_unlike_locks_spUl_10 : Fns l.prog w K mg base 10 "unlike_locks" ["one", "other"] (spUl K) f12 _ := ⟨ok_ul (k := 9) F12 m_enumerate m_zip, g12, k12, b12⟩
  have v17_ends_of_spEnds_9 : Fns l.prog w K mg base 9 "ends_of" ["lock", "water"] (spEnds K) f3 _ := ⟨ok_ends (k := 8) F3 c_RED, g3, k3, b3⟩
  have v16_from_and_to_spFT_10 : Fns l.prog w K mg base 10 "from_and_to" ["canal", "standing", "lock", "water"] (spFT K) f4 _ := ⟨ok_ft (k := 9) F4 v17_ends_of_spEnds_9, g4, k4, b4⟩
  have v14_boats_behind_spBb_11 : Fns l.prog w K mg base 11 "boats_behind" ["canal", "one", "other", "water"] (spBb K) f13 _ := ⟨ok_bb (k := 10) F13 v13_boats_of_spBoT_10 v15_unlike_locks_spUl_10 v16_from_and_to_spFT_10 m_list, g13, k13, b13⟩
  have v18_boats_of_spBoT_11 : Fns l.prog w K mg base 11 "boats_of" ["standing", "water"] (spBoT K) f8 _ := ⟨ok_bo (k := 10) F8 c_RED, g8, k8, b8⟩
  have v21_boats_of_spBoT_9 : Fns l.prog w K mg base 9 "boats_of" ["standing", "water"] (spBoT K) f8 _ := ⟨ok_bo (k := 8) F8 c_RED, g8, k8, b8⟩
  have v20_be_alone_spAl_10 : Fns l.prog w K mg base 10 "be_alone" ["standing", "water"] (spAl K) f9 _ := ⟨ok_al (k := 9) F9 v21_boats_of_spBoT_9 c_RED c_BLUE m_enumerate, g9, k9, b9⟩
  have v24_ends_of_spEnds_8 : Fns l.prog w K mg base 8 "ends_of" ["lock", "water"] (spEnds K) f3 _ := ⟨ok_ends (k := 7) F3 c_RED, g3, k3, b3⟩
  have v23_from_and_to_spFT_9 : Fns l.prog w K mg base 9 "from_and_to" ["canal", "standing", "lock", "water"] (spFT K) f4 _ := ⟨ok_ft (k := 8) F4 v24_ends_of_spEnds_8, g4, k4, b4⟩
  have v22_roads_spRo_10 : Fns l.prog w K mg base 10 "roads" ["canal", "standing", "water"] (spRo K) f10 _ := ⟨ok_ro (k := 9) F10 v21_boats_of_spBoT_9 v23_from_and_to_spFT_9 m_enumerate m_range m_len m_min, g10, k10, b10⟩
  have v25_basins_of_spBas_10 : Fns l.prog w K mg base 10 "basins_of" ["canal", "water"] (spBas K) f2 _ := ⟨ok_bas (k := 9) F2 c_RED, g2, k2, b2⟩
  have v19_asleep_spAs_11 : Fns l.prog w K mg base 11 "asleep" ["canal", "standing", "water"] (spAs K) f11 _ := ⟨ok_as (k := 10) F11 v20_be_alone_spAl_10 v22_roads_spRo_10 v25_basins_of_spBas_10 m_range, g11, k11, b11⟩
  have v26_unlike_locks_spUl_11 : Fns l.prog w K mg base 11 "unlike_locks" ["one", "other"] (spUl K) f12 _ := ⟨ok_ul (k := 10) F12 m_enumerate m_zip, g12, k12, b12⟩
  have v27_ends_of_spEnds_11 : Fns l.prog w K mg base 11 "ends_of" ["lock", "water"] (spEnds K) f3 _ := ⟨ok_ends (k := 10) F3 c_RED, g3, k3, b3⟩
  have v11_leads_spLe_12 : Fns l.prog w K mg base 12 "leads" ["canal", "one", "other", "water"] (spLe K) f14 _ := ⟨ok_le (k := 11) F14 v12_be_alone_spAl_11 v14_boats_behind_spBb_11 v18_boats_of_spBoT_11 v19_asleep_spAs_11 v26_unlike_locks_spUl_11 v27_ends_of_spEnds_11 m_list m_any, g14, k14, b14⟩
  have v31_unlike_locks_spUl_9 : Fns l.prog w K mg base 9 "unlike_locks" ["one", "other"] (spUl K) f12 _ := ⟨ok_ul (k := 8) F12 m_enumerate m_zip, g12, k12, b12⟩
  have v30_boats_behind_spBb_10 : Fns l.prog w K mg base 10 "boats_behind" ["canal", "one", "other", "water"] (spBb K) f13 _ := ⟨ok_bb (k := 9) F13 v21_boats_of_spBoT_9 v31_unlike_locks_spUl_9 v23_from_and_to_spFT_9 m_list, g13, k13, b13⟩
  have v34_boats_of_spBoT_8 : Fns l.prog w K mg base 8 "boats_of" ["standing", "water"] (spBoT K) f8 _ := ⟨ok_bo (k := 7) F8 c_RED, g8, k8, b8⟩
  have v33_be_alone_spAl_9 : Fns l.prog w K mg base 9 "be_alone" ["standing", "water"] (spAl K) f9 _ := ⟨ok_al (k := 8) F9 v34_boats_of_spBoT_8 c_RED c_BLUE m_enumerate, g9, k9, b9⟩
  have v37_ends_of_spEnds_7 : Fns l.prog w K mg base 7 "ends_of" ["lock", "water"] (spEnds K) f3 _ := ⟨ok_ends (k := 6) F3 c_RED, g3, k3, b3⟩
  have v36_from_and_to_spFT_8 : Fns l.prog w K mg base 8 "from_and_to" ["canal", "standing", "lock", "water"] (spFT K) f4 _ := ⟨ok_ft (k := 7) F4 v37_ends_of_spEnds_7, g4, k4, b4⟩
  have v35_roads_spRo_9 : Fns l.prog w K mg base 9 "roads" ["canal", "standing", "water"] (spRo K) f10 _ := ⟨ok_ro (k := 8) F10 v34_boats_of_spBoT_8 v36_from_and_to_spFT_8 m_enumerate m_range m_len m_min, g10, k10, b10⟩
  have v38_basins_of_spBas_9 : Fns l.prog w K mg base 9 "basins_of" ["canal", "water"] (spBas K) f2 _ := ⟨ok_bas (k := 8) F2 c_RED, g2, k2, b2⟩
  have v32_asleep_spAs_10 : Fns l.prog w K mg base 10 "asleep" ["canal", "standing", "water"] (spAs K) f11 _ := ⟨ok_as (k := 9) F11 v33_be_alone_spAl_9 v35_roads_spRo_9 v38_basins_of_spBas_9 m_range, g11, k11, b11⟩
  have v39_ends_of_spEnds_10 : Fns l.prog w K mg base 10 "ends_of" ["lock", "water"] (spEnds K) f3 _ := ⟨ok_ends (k := 9) F3 c_RED, g3, k3, b3⟩
  have v29_leads_spLe_11 : Fns l.prog w K mg base 11 "leads" ["canal", "one", "other", "water"] (spLe K) f14 _ := ⟨ok_le (k := 10) F14 v20_be_alone_spAl_10 v30_boats_behind_spBb_10 v13_boats_of_spBoT_10 v32_asleep_spAs_10 v15_unlike_locks_spUl_10 v39_ends_of_spEnds_10 m_list m_any, g14, k14, b14⟩
  have v41_has_boat_spHas_10 : Fns l.prog w K mg base 10 "has_boat" ["canal", "standing", "lock", "water"] (spHas K) f5 _ := ⟨ok_has (k := 9) F5 v23_from_and_to_spFT_9 c_RED, g5, k5, b5⟩
  have v40_first_ready_spFr_11 : Fns l.prog w K mg base 11 "first_ready" ["canal", "standing", "water", "locks"] (spFr K) f15 _ := ⟨ok_fr (k := 10) F15 v41_has_boat_spHas_10, g15, k15, b15⟩
  have v42_nearest_road_spNr_11 : Fns l.prog w K mg base 11 "nearest_road" ["canal", "standing", "water", "locks"] (spNr K) f16 _ := ⟨ok_nr (k := 10) F16 v16_from_and_to_spFT_10 v22_roads_spRo_10 m_min m_len, g16, k16, b16⟩
  have v47_ends_of_spEnds_6 : Fns l.prog w K mg base 6 "ends_of" ["lock", "water"] (spEnds K) f3 _ := ⟨ok_ends (k := 5) F3 c_RED, g3, k3, b3⟩
  have v46_from_and_to_spFT_7 : Fns l.prog w K mg base 7 "from_and_to" ["canal", "standing", "lock", "water"] (spFT K) f4 _ := ⟨ok_ft (k := 6) F4 v47_ends_of_spEnds_6, g4, k4, b4⟩
  have v45_has_boat_spHas_8 : Fns l.prog w K mg base 8 "has_boat" ["canal", "standing", "lock", "water"] (spHas K) f5 _ := ⟨ok_has (k := 7) F5 v46_from_and_to_spFT_7 c_RED, g5, k5, b5⟩
  have v44_gone_spGone_10 : FnX l.prog w K mg base 10 "gone" ["canal", "standing", "going"] (spGone K cB) f6 _ := ⟨ok_gone (k := 7) F6 v45_has_boat_spHas_8 v36_from_and_to_spFT_8 TB c_RED m_list m_tuple, g6, k6, b6⟩
  have v48_tupled_spTupled_4 : Fns l.prog w K mg base 4 "tupled" ["thing"] (spTupled K 4) f1 _ := ⟨ok_tupled F1 b1 g1 m_isinstance m_list m_tuple 4, g1, k1, b1⟩
  have v43_gone_all_spGA_11 : FnX l.prog w K mg base 11 "gone_all" ["canal", "standing", "row"] (spGA K cB) f7 _ := ⟨ok_ga (k := 6) F7 v44_gone_spGone_10 v48_tupled_spTupled_4, g7, k7, b7⟩
  have v28_row_alone_spRw_12 : Fns l.prog w K mg base 12 "row_alone" ["canal", "one", "other", "water"] (spRw K) f17 _ := ⟨ok_rw (k := 11) F17 v29_leads_spLe_11 v26_unlike_locks_spUl_11 v40_first_ready_spFr_11 v42_nearest_road_spNr_11 v43_gone_all_spGA_11, g17, k17, b17⟩
  have v10_law_one_right_spOr_13 : Fns l.prog w K mg base 13 "_law_one_right" ["_law_ship_way", "_law_lying", "_law_hue", "_law_far_by", "_law_later"] (spOr l.prog w K) f31 _ := ⟨ok_or (k := 12) F31 v11_leads_spLe_12 v28_row_alone_spRw_12 m_zip m_int m_len, g31, k31, b31⟩
  have v50_be_alone_spAl_12 : Fns l.prog w K mg base 12 "be_alone" ["standing", "water"] (spAl K) f9 _ := ⟨ok_al (k := 11) F9 v18_boats_of_spBoT_11 c_RED c_BLUE m_enumerate, g9, k9, b9⟩
  have v52_from_and_to_spFT_11 : Fns l.prog w K mg base 11 "from_and_to" ["canal", "standing", "lock", "water"] (spFT K) f4 _ := ⟨ok_ft (k := 10) F4 v39_ends_of_spEnds_10, g4, k4, b4⟩
  have v51_roads_spRl_12 : Fns l.prog w K mg base 12 "roads" ["canal", "standing", "water"] (spRl K) f10 _ := ⟨ok_rl (k := 11) F10 v18_boats_of_spBoT_11 v52_from_and_to_spFT_11 m_enumerate m_range m_len m_min, g10, k10, b10⟩
  have v49_woken_spWl_13 : Fns l.prog w K mg base 13 "woken" ["canal", "standing", "water", "basin"] (spWl K) f18 _ := ⟨ok_wl (k := 12) F18 v50_be_alone_spAl_12 v51_roads_spRl_12, g18, k18, b18⟩
  have v54_roads_spRo_12 : Fns l.prog w K mg base 12 "roads" ["canal", "standing", "water"] (spRo K) f10 _ := ⟨ok_ro (k := 11) F10 v18_boats_of_spBoT_11 v52_from_and_to_spFT_11 m_enumerate m_range m_len m_min, g10, k10, b10⟩
  have v55_basins_of_spBas_12 : Fns l.prog w K mg base 12 "basins_of" ["canal", "water"] (spBas K) f2 _ := ⟨ok_bas (k := 11) F2 c_RED, g2, k2, b2⟩
  have v53_asleep_spAs_13 : Fns l.prog w K mg base 13 "asleep" ["canal", "standing", "water"] (spAs K) f11 _ := ⟨ok_as (k := 12) F11 v50_be_alone_spAl_12 v54_roads_spRo_12 v55_basins_of_spBas_12 m_range, g11, k11, b11⟩
  have Ce : Fns l.prog w K mg base 14 "_law_cells" ["_law_script", "_law_utmost"] (spCells K) f21 _ := ⟨ok_cells (k := 13) F21 m_list m_enumerate, g21, k21, b21⟩
  have Bx : Fns l.prog w K mg base 14 "_law_box" ["_law_cells_here", "_law_k"] (spBox K) f19 _ := ⟨ok_box (k := 13) F19 m_abs m_int, g19, k19, b19⟩
  have R := FnG.of (ok_right (k := 13) F32 v0_law_canal_spCanal_13 v1_law_of_spOf_13 v2_law_hues_spHu_13 v3_law_shares_spSh_13 v4_law_take_spTake_13 v5_law_highs_spHg_13 v6_law_come_to_spCo_13 v10_law_one_right_spOr_13 v49_woken_spWl_13 v53_asleep_spAs_13 m_range m_len m_sum m_min)
  exact ok_law F33 Ce Bx R g32 k32 b32 m_len m_all m_range
end XL
open PySem PySem.W PyProof.Rows
set_option maxRecDepth 100000 in
set_option maxHeartbeats 0 in
theorem PySem.Challenge.cw_crosslocks_k86_whole_one_water_gone_thro_holds : PySem.Challenge.rw_crosslocks_k86_whole_one_water_gone_thro.Holds := by
  w_on; o_law; k_head; (case hw => w_witness2)
  k_fill
  refine XL.walkG (l := PySem.Challenge.rw_crosslocks_k86_whole_one_water_gone_thro) (n := 63) (k := 15) (x := "_law_script") (sp := XL.spLaw) rfl (by decide) rfl ⟨rfl, by decide, by decide⟩ (fun w h Y => PySem.W.kIn_of Y) ?F (fun K H a ns hl _ hS => ⟨a, ns, rfl, hS, hl, fun _ => rfl⟩)
  case F =>
    intro w mg fa h KX G hmg
    refine' XL.all_mk KX G hmg ?a1 ?l1 ?d1 ?k1 ?a2 ?l2 ?d2 ?k2 ?a3 ?l3 ?d3 ?k3 ?a4 ?l4 ?d4 ?k4 ?a5 ?l5 ?d5 ?k5 ?a6 ?l6 ?d6 ?k6 ?a7 ?l7 ?d7 ?k7 ?a8 ?l8 ?d8 ?k8 ?a9 ?l9 ?d9 ?k9 ?a10 ?l10 ?d10 ?k10 ?a11 ?l11 ?d11 ?k11 ?a12 ?l12 ?d12 ?k12 ?a13 ?l13 ?d13 ?k13 ?a14 ?l14 ?d14 ?k14 ?a15 ?l15 ?d15 ?k15 ?a16 ?l16 ?d16 ?k16 ?a17 ?l17 ?d17 ?k17 ?a18 ?l18 ?d18 ?k18 ?a19 ?l19 ?d19 ?k19 ?a20 ?l20 ?d20 ?k20 ?a21 ?l21 ?d21 ?k21 ?a22 ?l22 ?d22 ?k22 ?a23 ?l23 ?d23 ?k23 ?a24 ?l24 ?d24 ?k24 ?a25 ?l25 ?d25 ?k25 ?a26 ?l26 ?d26 ?k26 ?a27 ?l27 ?d27 ?k27 ?a28 ?l28 ?d28 ?k28 ?a29 ?l29 ?d29 ?k29 ?a30 ?l30 ?d30 ?k30 ?a31 ?l31 ?d31 ?k31 ?a32 ?l32 ?d32 ?k32 ?a33 ?l33 ?d33 ?k33 ?z_isinstance ?z_list ?z_tuple ?z_zip ?z_len ?z_all ?z_any ?z_int ?z_range ?z_enumerate ?z_abs ?z_min ?z_sum ?z_RuntimeError ?v_RED ?v_BLUE ?caB ?clB ?csB ?cgB ?ctB_ ?ckB ?ccB ?ciB ?cfB ?cyB ?chB ?cnB ?elB ?edB ?ekB ?sg ?st ?xs1
    (case a1 => k_is)
    (case l1 => k_is)
    (case d1 => k_is)
    (case k1 => k_is)
    (case a2 => k_is)
    (case l2 => k_is)
    (case d2 => k_is)
    (case k2 => k_is)
    (case a3 => k_is)
    (case l3 => k_is)
    (case d3 => k_is)
    (case k3 => k_is)
    (case a4 => k_is)
    (case l4 => k_is)
    (case d4 => k_is)
    (case k4 => k_is)
    (case a5 => k_is)
    (case l5 => k_is)
    (case d5 => k_is)
    (case k5 => k_is)
    (case a6 => k_is)
    (case l6 => k_is)
    (case d6 => k_is)
    (case k6 => k_is)
    (case a7 => k_is)
    (case l7 => k_is)
    (case d7 => k_is)
    (case k7 => k_is)
    (case a8 => k_is)
    (case l8 => k_is)
    (case d8 => k_is)
    (case k8 => k_is)
    (case a9 => k_is)
    (case l9 => k_is)
    (case d9 => k_is)
    (case k9 => k_is)
    (case a10 => k_is)
    (case l10 => k_is)
    (case d10 => k_is)
    (case k10 => k_is)
    (case a11 => k_is)
    (case l11 => k_is)
    (case d11 => k_is)
    (case k11 => k_is)
    (case a12 => k_is)
    (case l12 => k_is)
    (case d12 => k_is)
    (case k12 => k_is)
    (case a13 => k_is)
    (case l13 => k_is)
    (case d13 => k_is)
    (case k13 => k_is)
    (case a14 => k_is)
    (case l14 => k_is)
    (case d14 => k_is)
    (case k14 => k_is)
    (case a15 => k_is)
    (case l15 => k_is)
    (case d15 => k_is)
    (case k15 => k_is)
    (case a16 => k_is)
    (case l16 => k_is)
    (case d16 => k_is)
    (case k16 => k_is)
    (case a17 => k_is)
    (case l17 => k_is)
    (case d17 => k_is)
    (case k17 => k_is)
    (case a18 => k_is)
    (case l18 => k_is)
    (case d18 => k_is)
    (case k18 => k_is)
    (case a19 => k_is)
    (case l19 => k_is)
    (case d19 => k_is)
    (case k19 => k_is)
    (case a20 => k_is)
    (case l20 => k_is)
    (case d20 => k_is)
    (case k20 => k_is)
    (case a21 => k_is)
    (case l21 => k_is)
    (case d21 => k_is)
    (case k21 => k_is)
    (case a22 => k_is)
    (case l22 => k_is)
    (case d22 => k_is)
    (case k22 => k_is)
    (case a23 => k_is)
    (case l23 => k_is)
    (case d23 => k_is)
    (case k23 => k_is)
    (case a24 => k_is)
    (case l24 => k_is)
    (case d24 => k_is)
    (case k24 => k_is)
    (case a25 => k_is)
    (case l25 => k_is)
    (case d25 => k_is)
    (case k25 => k_is)
    (case a26 => k_is)
    (case l26 => k_is)
    (case d26 => k_is)
    (case k26 => k_is)
    (case a27 => k_is)
    (case l27 => k_is)
    (case d27 => k_is)
    (case k27 => k_is)
    (case a28 => k_is)
    (case l28 => k_is)
    (case d28 => k_is)
    (case k28 => k_is)
    (case a29 => k_is)
    (case l29 => k_is)
    (case d29 => k_is)
    (case k29 => k_is)
    (case a30 => k_is)
    (case l30 => k_is)
    (case d30 => k_is)
    (case k30 => k_is)
    (case a31 => k_is)
    (case l31 => k_is)
    (case d31 => k_is)
    (case k31 => k_is)
    (case a32 => k_is)
    (case l32 => k_is)
    (case d32 => k_is)
    (case k32 => k_is)
    (case a33 => k_is)
    (case l33 => k_is)
    (case d33 => k_is)
    (case k33 => k_is)
    (case z_isinstance => k_is)
    (case z_list => k_is)
    (case z_tuple => k_is)
    (case z_zip => k_is)
    (case z_len => k_is)
    (case z_all => k_is)
    (case z_any => k_is)
    (case z_int => k_is)
    (case z_range => k_is)
    (case z_enumerate => k_is)
    (case z_abs => k_is)
    (case z_min => k_is)
    (case z_sum => k_is)
    (case z_RuntimeError => k_is)
    (case v_RED => k_is)
    (case v_BLUE => k_is)
    (case caB => k_is)
    (case clB => k_is)
    (case csB => k_is)
    (case cgB => k_is)
    (case ctB_ => k_is)
    (case ckB => k_is)
    (case ccB => k_is)
    (case ciB => k_is)
    (case cfB => k_is)
    (case cyB => k_is)
    (case chB => k_is)
    (case cnB => k_is)
    (case elB => k_is)
    (case edB => k_is)
    (case ekB => k_is)
    (case sg => k_is)
    (case st => k_is)
    (case xs1 => k_is)

import PyProof.Rows.All
import Wide.All
import OpenK.AllK
import Wide.FinOn
import KE.GoesMore
import KE.KDictZip
import PyProof.ListNew
import PyProof.SeqWrite
import KE.GoesEnum
import HandS.ForMost
import HandS.Zip
import PyProof.ReprRoads
import HandS.IsInst
import HandS.TupAny
import HandS.NoneIn
import HandS.Flow
import HandS.Conv
import HandS.Walk
import HandS.ExcValue
import HandS.Style
import HandS.ExcInit
import HandS.ExcField
import KE.KExcIs
import KE.KExcInit
import KE.KExcSuper
import HandS.ExcIs
import KE.KTryMore
import HandS.TupMul
import KE.KTupSum
import HandS.ExcOwn
import HandS.Finally
import HandS.Defaults
import HandS.OwnEq
import OpenK.KOps
import HandS.SlotsOwn
import KE.KFmtOwn
import PyProof.InstNe
import HandS.SetFor
import HandS.List
import PyProof.Rows.SeqMore
import HandS.FStr
import PyProof.ReprLen
import HandS.Wide
import HandS.WordsExc
import KE.DataEq
import HandS.Deep
import PySem.Challenge.RW_crosslocks_k53_keeps_beside_books
set_option Elab.async false
set_option linter.all false
set_option maxRecDepth 100000
namespace XL
open PySem PyProof.Rows
section
variable {prog : Program} {w : World} {A : Around} {E : Value → Shared → Prop} {s : Shared} {z TI TO T i1 i2 : Addr}
variable {fp1 fp2 : List Addr} {n1 n2 i : Nat} {P1 P2 : Nat → Value → Prop} {St1 St2 : Nat → Heap → Prop} {a1 a2 : Value} {f : Bool} {oT : Obj}

/-- one more pair while the one given out before is held -/
theorem held_item {Q : Value → Shared → Prop} (S : ZipSep2 z TI TO i1 i2 fp1 fp2)
    (D1 : Draws prog w A i1 fp1 n1 P1 St1) (D2 : Draws prog w A i2 fp2 n2 P2 St2)
    (hz : IsZipHeld s.heap z TI TO T f) (hT : s.heap.get? T = some oT) (hTI : IsTupOf2 s.heap TI (.ref i1) (.ref i2))
    (st1 : St1 i s.heap) (st2 : St2 i s.heap) (l1 : i < n1) (l2 : i < n2)
    (hQ : ∀ x1 x2 h' tk, P1 i x1 → P2 i x2 → IsZipHeld h' z TI TO T true → St1 (i + 1) h' → St2 (i + 1) h' →
      IsTupOf2 h' s.heap.objs.size x1 x2 → h'.objs.size = s.heap.objs.size + 1 →
      (∀ c o, c ≠ z → c ≠ i1 → c ≠ i2 → s.heap.get? c = some o → h'.get? c = some o) →
      Q (.ref s.heap.objs.size) { s with heap := h', toks := tk }) :
    wpAny (model prog w) A (Builtin.«zip.__next__» ⟨[.ref z], []⟩) (fun fin s' => ∃ v, fin = .done (.ret v) ∧ Q v s') E s := by
  obtain ⟨hp, g, d, tk0, os⟩ := s
  show wpAny _ _ (field (.ref z) 2 >>= _) _ _ _
  refine wpAny_bind (wpAny_field hz rfl (x := .bool false) rfl ?_); show wpAny _ _ (field (.ref z) 3 >>= _) _ _ _
  refine wpAny_bind (wpAny_field hz rfl (x := .ref TI) rfl ?_); refine wpAny_bind (wpAny_seqItems hTI rfl ?_)
  show wpAny _ _ (Builtin.SmallTypes.ownedTupleIsFree (.ref z) >>= _) _ _ _
  refine wpAny_bind (wpAny_tupleHeld_zip hz hT fun g0 hz0 hs0 => ?_); simp only [Bool.false_eq_true, if_false]; refine wpAny_bind ?_
  replace hs0 : Heap.SameBut z hp g0 := hs0
  rw [← Array.forIn_toList]; simp only [List.forIn_cons, List.forIn_nil]
  refine wpAny_bind (wpAny_bind (wpAny_holding ?_)); show wpAny _ _ (Builtin.SmallTypes.nextOf (.ref i1) >>= _) _ _ ⟨g0, g, d, tk0, os⟩
  refine wpAny_bind (D1.item i _ _ _ l1 (D1.over st1 hs0 S.zf1) fun x1 p1 tk1 hx1 sn1 hp1 => wpAny_pure ?_)
  replace hp1 : Heap.SameBut i1 g0 p1 := hp1
  refine wpAny_pure ?_
  refine wpAny_bind (wpAny_bind (wpAny_holding ?_)); show wpAny _ _ (Builtin.SmallTypes.nextOf (.ref i2) >>= _) _ _ ⟨p1, g, d, tk1, os⟩
  refine wpAny_bind (D2.item i _ _ _ l2 (D2.over (D2.over st2 hs0 S.zf2) hp1 S.sep1_2) fun x2 p2 tk2 hx2 sn2 hp2 => wpAny_pure ?_)
  replace hp2 : Heap.SameBut i2 p1 p2 := hp2
  refine wpAny_pure (wpAny_pure ?_); show wpAny _ _ (newTuple [x1, x2] >>= _) _ _ _
  refine wpAny_bind (wpAny_newTuple ?_)
  have hsz : p2.objs.size = hp.objs.size := by rw [hp2.1, hp1.1, hs0.1]
  have hz2 : IsZipHeld p2 z TI TO T true := hp2.extBut _ _ S.zi2 (hp1.extBut _ _ S.zi1 hz0)
  have hk : ∀ c o, c ≠ z → c ≠ i1 → c ≠ i2 → hp.get? c = some o → p2.get? c = some o := fun c o c0 c1 c2 e =>
    hp2.extBut _ _ c2 (hp1.extBut _ _ c1 (hs0.extBut _ _ c0 e))
  have j1 : St1 (i + 1) p2 := D1.over sn1 hp2 S.sep2_1
  refine wpAny_pure ⟨_, rfl, ?_⟩; show Q (.ref p2.objs.size) _
  have hpr : IsTupOf2 (p2.push { cls := .type "tuple", data := .seq #[x1, x2] }) p2.objs.size x1 x2 := Heap.get?_push_size _ rfl
  have hz4 : (p2.push { cls := .type "tuple", data := .seq #[x1, x2] }).objs.size = p2.objs.size + 1 := Heap.size_push ..
  rw [hsz] at hpr hz4 ⊢
  exact hQ x1 x2 _ tk2 hx1 hx2 (Heap.get?_push_of_some _ hz2) (D1.frame _ _ _ j1 fun b _ o e => Heap.get?_push_of_some _ e)
    (D2.frame _ _ _ sn2 fun b _ o e => Heap.get?_push_of_some _ e) hpr hz4 fun c o c0 c1 c2 e => Heap.get?_push_of_some _ (hk c o c0 c1 c2 e)

/-- the end while the last pair is held -/
theorem held_end {Q : Fin → Shared → Prop} (S : ZipSep2 z TI TO i1 i2 fp1 fp2)
    (D1 : Draws prog w A i1 fp1 n1 P1 St1) (D2 : Draws prog w A i2 fp2 n2 P2 St2)
    (hz : IsZipHeld s.heap z TI TO T f) (hT : s.heap.get? T = some oT) (hTI : IsTupOf2 s.heap TI (.ref i1) (.ref i2))
    (st1 : St1 i s.heap) (st2 : St2 i s.heap) (e1 : i ≤ n1) (e2 : i ≤ n2) (hend : i = n1 ∨ i = n2)
    (hE : ∀ h' tk e, (∀ c o, c ≠ z → c ≠ i1 → c ≠ i2 → s.heap.get? c = some o → h'.get? c = some o) →
      (∃ o, h'.get? e = some o ∧ o.cls = .type "StopIteration") → E (.ref e) { s with heap := h', toks := tk }) :
    wpAny (model prog w) A (Builtin.«zip.__next__» ⟨[.ref z], []⟩) Q E s := by
  obtain ⟨hp, g, d, tk0, os⟩ := s
  show wpAny _ _ (field (.ref z) 2 >>= _) _ _ _
  refine wpAny_bind (wpAny_field hz rfl (x := .bool false) rfl ?_); show wpAny _ _ (field (.ref z) 3 >>= _) _ _ _
  refine wpAny_bind (wpAny_field hz rfl (x := .ref TI) rfl ?_); refine wpAny_bind (wpAny_seqItems hTI rfl ?_)
  show wpAny _ _ (Builtin.SmallTypes.ownedTupleIsFree (.ref z) >>= _) _ _ _
  refine wpAny_bind (wpAny_tupleHeld_zip hz hT fun g0 hz0 hs0 => ?_); simp only [Bool.false_eq_true, if_false]; refine wpAny_bind ?_
  replace hs0 : Heap.SameBut z hp g0 := hs0
  rw [← Array.forIn_toList]; simp only [List.forIn_cons, List.forIn_nil]
  refine wpAny_bind (wpAny_bind (wpAny_holding ?_)); show wpAny _ _ (Builtin.SmallTypes.nextOf (.ref i1) >>= _) _ _ ⟨g0, g, d, tk0, os⟩
  by_cases l1 : i < n1
  · refine wpAny_bind (D1.item i _ _ _ l1 (D1.over st1 hs0 S.zf1) fun x1 p1 tk1 hx1 sn1 hp1 => wpAny_pure ?_)
    replace hp1 : Heap.SameBut i1 g0 p1 := hp1
    have hi2 : i = n2 := by omega
    refine wpAny_pure ?_
    refine wpAny_bind (wpAny_bind (wpAny_holding ?_)); show wpAny _ _ (Builtin.SmallTypes.nextOf (.ref i2) >>= _) _ _ ⟨p1, g, d, tk1, os⟩
    refine wpAny_bind (D2.done ⟨p1, g, d, tk1, os⟩ _ _ (by rw [← hi2]; exact D2.over (D2.over st2 hs0 S.zf2) hp1 S.sep1_2) fun q e hq he => ?_)
    exact hE q tk1 e (fun c o c0 c1 c2 x => hq _ _ c2 (hp1.extBut _ _ c1 (hs0.extBut _ _ c0 x))) he
  · have hi1 : i = n1 := by omega
    refine wpAny_bind (D1.done ⟨g0, g, d, tk0, os⟩ _ _ (by rw [← hi1]; exact D1.over st1 hs0 S.zf1) fun q e hq he => ?_)
    exact hE q tk0 e (fun c o c0 c1 c2 x => hq _ _ c1 (hs0.extBut _ _ c0 x)) he
end
end XL
namespace XL
open PySem PyProof.Rows
/-- the zip between two nexts: nothing given out yet, or the last pair is held -/
def ZNow (h : Heap) (z TI TO L : Addr) : Prop :=
  (IsZip h z TI TO .none ∧ ∃ a1 a2, IsTupOf2 h TO a1 a2) ∨ ∃ T f oT, IsZipHeld h z TI TO T f ∧ h.get? T = some oT ∧ T ≠ z ∧ T ≠ L
theorem ZNow.typ {s : Shared} {z TI TO L : Addr} (h : ZNow s.heap z TI TO L) : s.TypeIs (.ref z) "zip" := by
  rcases h with ⟨h, _⟩ | ⟨T, f, oT, h, _⟩
  · exact ⟨_, h, rfl⟩
  · exact ⟨_, h, rfl⟩
theorem ZNow.lt {h : Heap} {z TI TO L : Addr} (q : ZNow h z TI TO L) : z < h.objs.size := by
  rcases q with ⟨h, _⟩ | ⟨T, f, oT, h, _⟩
  · exact Heap.lt_size h
  · exact Heap.lt_size h
section
variable {prog : Program} {w : World} {A : Around} {E : Value → Shared → Prop} {s : Shared} {z TI TO L i1 i2 : Addr}
variable {fp1 fp2 : List Addr} {n1 n2 i : Nat} {P1 P2 : Nat → Value → Prop} {St1 St2 : Nat → Heap → Prop}
theorem next_item {Q : Option Value → Shared → Prop} (S : ZipSep2 z TI TO i1 i2 fp1 fp2)
    (D1 : Draws prog w A.in1 i1 fp1 n1 P1 St1) (D2 : Draws prog w A.in1 i2 fp2 n2 P2 St2)
    (hz : ZNow s.heap z TI TO L) (hTI : IsTupOf2 s.heap TI (.ref i1) (.ref i2)) (hL : L < s.heap.objs.size)
    (st1 : St1 i s.heap) (st2 : St2 i s.heap) (l1 : i < n1) (l2 : i < n2)
    (hQ : ∀ x1 x2 h' tk, P1 i x1 → P2 i x2 → ZNow h' z TI TO L → St1 (i + 1) h' → St2 (i + 1) h' →
      IsTupOf2 h' s.heap.objs.size x1 x2 → h'.objs.size = s.heap.objs.size + 1 →
      (∀ c o, c ≠ z → c ≠ TO → c ≠ i1 → c ≠ i2 → s.heap.get? c = some o → h'.get? c = some o) →
      Q (some (.ref s.heap.objs.size)) { s with heap := h', toks := tk }) :
    wpAny (model prog w) A (pyNext (.ref z)) Q E s := by
  have hTy := hz.typ
  have zl : z < s.heap.objs.size := hz.lt
  have zne : s.heap.objs.size ≠ z := Nat.ne_of_gt zl
  have lne : s.heap.objs.size ≠ L := Nat.ne_of_gt hL
  rcases hz with ⟨hz, a1, a2, hTO⟩ | ⟨T, f, oT, hz, hT, hTz, hTL⟩
  · refine wpAny_pyNext_zipD2_item S D1 D2 hz hTI hTO st1 st2 l1 l2 fun x1 x2 h' tk y1 y2 b1 b2 d1 d2 b5 b6 b7 => ?_
    exact hQ x1 x2 h' tk y1 y2 (.inr ⟨s.heap.objs.size, false, _, b1, b5, zne, lne⟩) d1 d2 b5 b6 b7
  · unfold pyNext
    refine wpAny_bind (wpAny_attempt (wpAny_callSpecial?_slot (name := Str.ofString "__next__") hTy F.slot_zip_next
      (wpAny_call_entry F.slot_zip_next hTy F.entry_zip_next (held_item S D1 D2 hz hT hTI st1 st2 l1 l2
        fun x1 x2 h' tk y1 y2 b1 d1 d2 b5 b6 b7 => wpAny_pure ?_) (F.args_zip_next_1 _))))
    have hT' : ∃ o, h'.get? T = some o := by
      by_cases c1 : T = i1
      · rw [c1]; exact D1.live _ _ d1
      · by_cases c2 : T = i2
        · rw [c2]; exact D2.live _ _ d2
        · exact ⟨_, b7 T oT hTz c1 c2 hT⟩
    obtain ⟨o', hT'⟩ := hT'
    exact hQ x1 x2 h' tk y1 y2 (.inr ⟨T, true, o', b1, hT', hTz, hTL⟩) d1 d2 b5 b6 fun c o c0 _ c1 c2 e => b7 c o c0 c1 c2 e
theorem next_end {Q : Option Value → Shared → Prop} (S : ZipSep2 z TI TO i1 i2 fp1 fp2)
    (D1 : Draws prog w A.in1 i1 fp1 n1 P1 St1) (D2 : Draws prog w A.in1 i2 fp2 n2 P2 St2)
    (hz : ZNow s.heap z TI TO L) (hTI : IsTupOf2 s.heap TI (.ref i1) (.ref i2))
    (st1 : St1 i s.heap) (st2 : St2 i s.heap) (e1 : i ≤ n1) (e2 : i ≤ n2) (hend : i = n1 ∨ i = n2)
    (hQ : ∀ h' tk, (∀ c o, c ≠ z → c ≠ TO → c ≠ i1 → c ≠ i2 → s.heap.get? c = some o → h'.get? c = some o) →
      Q none { s with heap := h', toks := tk }) :
    wpAny (model prog w) A (pyNext (.ref z)) Q E s := by
  have hTy := hz.typ
  rcases hz with ⟨hz, a1, a2, hTO⟩ | ⟨T, f, oT, hz, hT, hTz, hTL⟩
  · exact wpAny_pyNext_zipD2_end S D1 D2 hz hTI hTO st1 st2 e1 e2 hend hQ
  · unfold pyNext
    refine wpAny_bind (wpAny_attempt (wpAny_callSpecial?_slot (name := Str.ofString "__next__") hTy F.slot_zip_next
      (wpAny_call_entry F.slot_zip_next hTy F.entry_zip_next (held_end S D1 D2 hz hT hTI st1 st2 e1 e2 hend fun h' tk e hk he => ?_) (F.args_zip_next_1 _))))
    obtain ⟨o, ho, hc⟩ := he
    refine wpAny_bind (wpAny_isInstance (T := "StopIteration") (b := true) ⟨o, ho, hc⟩ isSubtype_stop ?_)
    exact wpAny_pure (hQ _ _ fun c o c0 _ c1 c2 e => hk c o c0 c1 c2 e)
end

/-- the pairs laid so far: at Ts, new, apart from the zip's own cells and the list -/
structure Laid (N L : Nat) (P1 P2 : Nat → Value → Prop) (cells : List Addr) (h : Heap) (Ts : List Addr) : Prop where
  nd : Ts.Nodup
  at_ : ∀ j T, Ts[j]? = some T → N ≤ T ∧ T < h.objs.size ∧ T ≠ L ∧ T ∉ cells ∧ ∃ x y, P1 j x ∧ P2 j y ∧ IsTupOf2 h T x y
theorem Laid.nil {N L : Nat} {P1 P2 : Nat → Value → Prop} {cells : List Addr} {h : Heap} : Laid N L P1 P2 cells h [] := ⟨List.nodup_nil, fun j T e => by simp at e⟩
theorem Laid.over {N L : Nat} {P1 P2 : Nat → Value → Prop} {cells : List Addr} {h h' : Heap} {Ts : List Addr} (q : Laid N L P1 P2 cells h Ts)
    (hs : h.objs.size ≤ h'.objs.size) (hk : ∀ c o, c ∉ cells → c ≠ L → h.get? c = some o → h'.get? c = some o) : Laid N L P1 P2 cells h' Ts :=
  ⟨q.nd, fun j T e => by
    obtain ⟨a, b, c, d, x, y, px, py, t⟩ := q.at_ j T e
    exact ⟨a, Nat.lt_of_lt_of_le b hs, c, d, x, y, px, py, hk _ _ d c t⟩⟩
theorem Laid.push {N L : Nat} {P1 P2 : Nat → Value → Prop} {cells : List Addr} {h h' : Heap} {Ts : List Addr} {x y : Value} (q : Laid N L P1 P2 cells h Ts)
    (hs : h'.objs.size = h.objs.size + 1) (hk : ∀ c o, c ∉ cells → c ≠ L → h.get? c = some o → h'.get? c = some o)
    (hN : N ≤ h.objs.size) (hL : L < h.objs.size) (hc : ∀ c ∈ cells, c < h.objs.size) (px : P1 Ts.length x) (py : P2 Ts.length y) (t : IsTupOf2 h' h.objs.size x y) :
    Laid N L P1 P2 cells h' (Ts ++ [h.objs.size]) := by
  have q' := q.over (h' := h') (by omega) hk
  refine ⟨?_, fun j T e => ?_⟩
  · rw [List.nodup_append]
    refine ⟨q.nd, by simp, fun a ha b hb e => ?_⟩
    simp at hb
    obtain ⟨j, hj⟩ := List.getElem?_of_mem ha
    have := (q.at_ j a hj).2.1
    rw [e, hb] at this
    exact Nat.lt_irrefl _ this
  · by_cases hj : j < Ts.length
    · rw [List.getElem?_append_left hj] at e
      exact q'.at_ j T e
    · rw [List.getElem?_append_right (by omega)] at e
      have hj0 : j - Ts.length = 0 := by
        rcases Nat.eq_zero_or_pos (j - Ts.length) with z | z
        · exact z
        · rw [List.getElem?_eq_none (by simp; omega)] at e
          cases e
      rw [hj0] at e
      have e' : h.objs.size = T := by simpa using e
      subst e'
      have ej : j = Ts.length := by omega
      refine ⟨hN, by rw [hs]; exact Nat.lt_succ_self _, Nat.ne_of_gt hL, fun hm => Nat.lt_irrefl _ (hc _ hm), x, y, ?_, ?_, t⟩
      · rw [ej]; exact px
      · rw [ej]; exact py
section
variable {prog : Program} {w : World} {A : Around} {R : Result → Shared → Prop} {z TI TO i1 i2 : Addr} {N L : Nat}
variable {fp1 fp2 : List Addr} {n1 n2 n : Nat} {P1 P2 : Nat → Value → Prop} {St1 St2 : Nat → Heap → Prop}
theorem loop_zip (S : ZipSep2 z TI TO i1 i2 fp1 fp2) (D1 : Draws prog w A.in1.in1 i1 fp1 n1 P1 St1) (D2 : Draws prog w A.in1.in1 i2 fp2 n2 P2 St2)
    (hn : n = min n1 n2) (hsz : n ≤ sizeLine) (res : Value) (hL1 : L ∉ fp1) (hL2 : L ∉ fp2) (hLz : L ≠ z) (hLTI : L ≠ TI) (hLTO : L ≠ TO) (hNz : N ≤ z) (hNT : N ≤ TO) (hN1 : N ≤ i1) (hN2 : N ≤ i2) (hNL : N ≤ L) :
    ∀ (k : Nat) (s : Shared) (Ts : List Addr) (c : Nat), n - Ts.length = k → Ts.length ≤ n → ZNow s.heap z TI TO L → IsTupOf2 s.heap TI (.ref i1) (.ref i2) → TO < s.heap.objs.size →
      St1 Ts.length s.heap → St2 Ts.length s.heap → N ≤ s.heap.objs.size → s.heap.get? L = some { cls := .type "list", dict := none, data := .seq (Ts.map Value.ref).toArray c, slots := #[] } →
      Laid N L P1 P2 [z, TO, i1, i2] s.heap Ts →
      (∀ h' tk Ts' c', Ts'.length = n → (∀ b o, b < N → s.heap.get? b = some o → h'.get? b = some o) →
        h'.get? L = some { cls := .type "list", dict := none, data := .seq (Ts'.map Value.ref).toArray c', slots := #[] } → Laid N L P1 P2 [z, TO, i1, i2] h' Ts' →
        R (.ok (.ret res)) { s with heap := h', toks := tk }) →
      codeAny (model prog w) A (.builtin "list.extend.loop" ⟨[.ref L, .ref z, res], []⟩) R s := by
  intro k
  have S' := S
  induction k with
  | zero =>
    intro s Ts c hk hle hz hTI hTO st1 st2 hN hLs hld hR
    have hin : Ts.length = n := by omega
    refine codeAny_builtin F.entry_extend_loop ?_
    rw [Around.under_plainId F.plain_extend_loop _]
    show wpAny _ A.in1 (pyNext (.ref z) >>= _) _ _ s
    have hend : Ts.length = n1 ∨ Ts.length = n2 := by omega
    refine wpAny_bind (next_end S D1 D2 hz hTI st1 st2 (by omega) (by omega) hend fun h' tk hk' => ?_)
    have ne : ∀ c, c ∉ [z, TO, i1, i2] → c ≠ z ∧ c ≠ TO ∧ c ≠ i1 ∧ c ≠ i2 := fun c hc => by simpa using hc
    have Li : L ≠ i1 ∧ L ≠ i2 := ⟨fun e => hL1 (e ▸ S.mem1), fun e => hL2 (e ▸ S.mem2)⟩
    refine wpAny_pure (hR h' tk Ts c hin (fun b o hb e => ?_) (hk' L _ hLz hLTO Li.1 Li.2 hLs) ?_)
    · exact hk' b o (Nat.ne_of_lt (Nat.lt_of_lt_of_le hb hNz)) (Nat.ne_of_lt (Nat.lt_of_lt_of_le hb hNT)) (Nat.ne_of_lt (Nat.lt_of_lt_of_le hb hN1)) (Nat.ne_of_lt (Nat.lt_of_lt_of_le hb hN2)) e
    · refine ⟨hld.nd, fun j T e => ?_⟩
      obtain ⟨a, b, c, d, x, y, px, py, t⟩ := hld.at_ j T e
      have t' : IsTupOf2 h' T x y := hk' _ _ (ne T d).1 (ne T d).2.1 (ne T d).2.2.1 (ne T d).2.2.2 t
      exact ⟨a, Heap.lt_size t', c, d, x, y, px, py, t'⟩
  | succ k ih =>
    intro s Ts c hk hle hz hTI hTO st1 st2 hN hLs hld hR
    have hlt1 : Ts.length < n1 := by omega
    have hlt2 : Ts.length < n2 := by omega
    refine codeAny_builtin F.entry_extend_loop ?_
    rw [Around.under_plainId F.plain_extend_loop _]
    show wpAny _ A.in1 (pyNext (.ref z) >>= _) _ _ s
    have hLlt : L < s.heap.objs.size := Heap.lt_size hLs
    refine wpAny_bind (next_item S D1 D2 hz hTI hLlt st1 st2 hlt1 hlt2 fun x1 x2 h' tk px py hz' d1 d2 ht hsz' hk' => ?_)
    have ne : ∀ c, c ∉ [z, TO, i1, i2] → c ≠ z ∧ c ≠ TO ∧ c ≠ i1 ∧ c ≠ i2 := fun c hc => by simpa using hc
    have Li : L ≠ i1 ∧ L ≠ i2 := ⟨fun e => hL1 (e ▸ S.mem1), fun e => hL2 (e ▸ S.mem2)⟩
    have hL' := hk' L _ hLz hLTO Li.1 Li.2 hLs
    have hTI' : IsTupOf2 h' TI (.ref i1) (.ref i2) := hk' TI _ S.TIz S.TITO S.TIi1 S.TIi2 hTI
    have hcells : ∀ b ∈ [z, TO, i1, i2], b < s.heap.objs.size := fun b hb => by
      have hb' : b = z ∨ b = TO ∨ b = i1 ∨ b = i2 := by simpa using hb
      rcases hb' with e | e | e | e
      · rw [e]; exact hz.lt
      · rw [e]; exact hTO
      · rw [e]; obtain ⟨o, q⟩ := D1.live _ _ st1; exact Heap.lt_size q
      · rw [e]; obtain ⟨o, q⟩ := D2.live _ _ st2; exact Heap.lt_size q
    have hld' : Laid N L P1 P2 [z, TO, i1, i2] h' (Ts ++ [s.heap.objs.size]) :=
      hld.push hsz' (fun c o hc _ e => hk' c o (ne c hc).1 (ne c hc).2.1 (ne c hc).2.2.1 (ne c hc).2.2.2 e) hN hLlt hcells px py ht
    show wpAny _ A.in1 (updateSeq L (·.push (Value.ref s.heap.objs.size)) >>= _) _ _ _
    refine wpAny_bind ?_
    have hlen : (Ts ++ [s.heap.objs.size]).length = Ts.length + 1 := by simp
    have hzs : ((Ts.map Value.ref).toArray : Array Value).size = Ts.length := by simp
    refine wpAny_updateSeq hL' rfl (wpAny_pure ⟨plainId_quiet F.plain_extend_loop _, ?_⟩) (by rw [hzs]; omega)
      (by show ((Ts.map Value.ref).toArray.push (Value.ref s.heap.objs.size)).size ≤ sizeLine + 1; rw [Array.size_push, hzs]; omega)
    have hself := Heap.get?_update_self (Obj.mapSeq (·.push (Value.ref s.heap.objs.size))) hL' rfl
    have hoth : ∀ b o, b ≠ L → h'.get? b = some o → (h'.update L (Obj.mapSeq (·.push (Value.ref s.heap.objs.size)))).get? b = some o :=
      fun b o hb e => (Heap.get?_update_other _ _ (Ne.symm hb)).trans e
    have hus : (h'.update L (Obj.mapSeq (·.push (Value.ref s.heap.objs.size)))).objs.size = h'.objs.size := (Heap.SameBut.update ..).1
    obtain ⟨c3, hc3⟩ : ∃ c3, (h'.update L (Obj.mapSeq (·.push (Value.ref s.heap.objs.size)))).get? L = some { cls := .type "list", dict := none, data := .seq ((Ts ++ [s.heap.objs.size]).map Value.ref).toArray c3, slots := #[] } := by
      have eA : ((Ts ++ [s.heap.objs.size]).map Value.ref).toArray = (Ts.map Value.ref).toArray.push (Value.ref s.heap.objs.size) := by simp
      rw [eA, hself]; exact ⟨_, rfl⟩
    refine ih { s with heap := h'.update L (Obj.mapSeq (·.push (Value.ref s.heap.objs.size))), toks := tk } (Ts ++ [s.heap.objs.size]) c3 (by rw [hlen]; omega) (by rw [hlen]; omega) ?_ (hoth TI _ (Ne.symm hLTI) hTI') ?_ ?_ ?_ ?_ ?_ ?_ fun h2 tk2 Ts2 c2 hl2 hk2 hL2' hld2 => ?_
    · rcases hz' with ⟨q, a1, a2, q2⟩ | ⟨T, f, oT, q, q2, q3, q4⟩
      · exact .inl ⟨hoth z _ (Ne.symm hLz) q, a1, a2, hoth TO _ (Ne.symm hLTO) q2⟩
      · exact .inr ⟨T, f, oT, hoth z _ (Ne.symm hLz) q, hoth T _ q4 q2, q3, q4⟩
    · show TO < (h'.update L _).objs.size
      rw [hus, hsz']; exact Nat.lt_succ_of_lt hTO
    · rw [hlen]; exact D1.frame _ _ _ d1 fun b hb o e => hoth b o (fun q => hL1 (q ▸ hb)) e
    · rw [hlen]; exact D2.frame _ _ _ d2 fun b hb o e => hoth b o (fun q => hL2 (q ▸ hb)) e
    · show N ≤ (h'.update L _).objs.size
      rw [hus, hsz']; exact Nat.le_succ_of_le hN
    · exact hc3
    · exact hld'.over (by rw [hus]; exact Nat.le_refl _) fun b o _ hb e => hoth b o hb e
    · refine hR h2 tk2 Ts2 c2 hl2 (fun b o hb e => hk2 b o hb (hoth b o (Nat.ne_of_lt (Nat.lt_of_lt_of_le hb hNL)) ?_)) hL2' hld2
      exact hk' b o (Nat.ne_of_lt (Nat.lt_of_lt_of_le hb hNz)) (Nat.ne_of_lt (Nat.lt_of_lt_of_le hb hNT)) (Nat.ne_of_lt (Nat.lt_of_lt_of_le hb hN1)) (Nat.ne_of_lt (Nat.lt_of_lt_of_le hb hN2)) e
theorem zip_no_len : typeLookup (.type "zip") "__len__" = pure none := am_miss_of_fast (by decide +kernel)
theorem zip_no_hint : typeLookup (.type "zip") "__length_hint__" = pure none := am_miss_of_fast (by decide +kernel)
end
end XL
namespace XL
open PySem PyProof.Rows
section
variable {prog : Program} {w : World} {A : Around} {E : Value → Shared → Prop} {s : Shared}
/-- list(zip(v1, v2)): a new list of new pairs -/
theorem call_list_zip {Q : Value → Shared → Prop} {v1 v2 : Value} {o1 o2 : Obj} {H1 H2 : Heap → Prop} {fp1 fp2 : List Addr} {n1 n2 n : Nat} {P1 P2 : Nat → Value → Prop} {St1 St2 : Nat → Heap → Prop}
    (B1 : Begins v1 o1 H1) (B2 : Begins v2 o2 H2) (h1 : H1 s.heap) (h2 : H2 s.heap) (hf1 : ∀ b ∈ fp1, b < s.heap.objs.size) (hf2 : ∀ b ∈ fp2, b < s.heap.objs.size)
    (D1 : ∀ A', A'.handled = none → Draws prog w A' s.heap.objs.size (s.heap.objs.size :: fp1) n1 P1 St1)
    (D2 : ∀ A', A'.handled = none → Draws prog w A' (s.heap.objs.size + 1) ((s.heap.objs.size + 1) :: fp2) n2 P2 St2)
    (b1 : ∀ h', (∀ b o, s.heap.get? b = some o → h'.get? b = some o) → h'.get? s.heap.objs.size = some o1 → St1 0 h')
    (b2 : ∀ h', (∀ b o, s.heap.get? b = some o → h'.get? b = some o) → h'.get? (s.heap.objs.size + 1) = some o2 → St2 0 h')
    (hA : A.handled = none) (hn : n = min n1 n2) (hz : n ≤ sizeLine)
    (hQ : ∀ (h' : Heap) (tk : Nat) (Ts : List Addr) (c : Nat) (L : Addr), Ts.length = n → (∀ b o, s.heap.get? b = some o → h'.get? b = some o) → s.heap.objs.size ≤ L →
      h'.get? L = some { cls := .type "list", dict := none, data := .seq (Ts.map Value.ref).toArray c, slots := #[] } → Ts.Nodup →
      (∀ j T, Ts[j]? = some T → s.heap.objs.size ≤ T ∧ T ≠ L ∧ ∃ x y, P1 j x ∧ P2 j y ∧ IsTupOf2 h' T x y) → Q (.ref L) { s with heap := h', toks := tk }) :
    wpAny (model prog w) A (call (.type "zip") [v1, v2]) (fun v s1 => wpAny (model prog w) A (call (.type "list") [v]) Q E s1) E s := by
  refine zip_begins2 B1 B2 h1 h2 fun g hz0 hTI hTO e1 e2 hsz hk => ?_
  have hgN : g.objs.size = s.heap.objs.size + 5 := hsz
  generalize hNN : s.heap.objs.size = N at *
  refine callType_codes (Q₁ := fun obj s₁ => obj = .ref g.objs.size ∧ s₁ = { s with heap := g.push { cls := .type "list", data := .seq #[] } }) F.called_list (F.typeCall_list_1 _) F.entry_list_init
    (code_list_new _ ⟨rfl, rfl⟩) fun obj s₁ q₁ => ?_
  obtain ⟨rfl, rfl⟩ := q₁
  have hS : (g.push { cls := .type "list", data := .seq #[] }).get? g.objs.size = some { cls := .type "list", data := .seq #[] } := Heap.get?_push_size _ rfl
  refine ⟨⟨_, hS, rfl⟩, F.args_list_init_2 _ _, ?_⟩
  have SS := zip_sep2 hf1 hf2
  have kp : ∀ b o, g.get? b = some o → (g.push { cls := .type "list", data := .seq #[] }).get? b = some o := fun b o e => Heap.get?_push_of_some _ e
  generalize hG : g.push { cls := .type "list", data := .seq #[] } = G at *
  have hGz : G.objs.size = g.objs.size + 1 := by rw [← hG]; exact Heap.size_push ..
  have hLv : g.objs.size = N + 5 := hgN
  generalize hLL : g.objs.size = L at *
  show wpAny _ _ (do let old ← Builtin.List.listItems (.ref L); Builtin.List.listUpdate (.ref L) (fun _ => #[]); letGo old.toList.reverse; Builtin.List.listExtendWith (.ref L) (.ref (N + 4)) .none) _ _ _
  refine wpAny_bind ?_
  unfold Builtin.List.listItems
  refine wpAny_bind (wpAny_seqItems hS rfl (wpAny_pure ?_))
  show wpAny _ _ (updateSeq L (fun _ => #[]) >>= fun _ => letGo (#[] : Array Value).toList.reverse >>= fun _ => Builtin.List.listExtendWith (.ref L) (.ref (N + 4)) .none) _ _ _
  refine wpAny_bind (wpAny_updateSeq hS rfl ?_)
  have hS₂ := Heap.get?_update_self (Obj.mapSeq (fun _ => (#[] : Array Value))) hS rfl
  have oth : ∀ b o, b ≠ L → G.get? b = some o → (G.update L (Obj.mapSeq (fun _ => (#[] : Array Value)))).get? b = some o :=
    fun b o hb e => (Heap.get?_update_other _ _ (Ne.symm hb)).trans e
  have hG2 : (G.update L (Obj.mapSeq (fun _ => (#[] : Array Value)))).objs.size = G.objs.size := (Heap.SameBut.update ..).1
  generalize hGG : G.update L (Obj.mapSeq (fun _ => (#[] : Array Value))) = G2 at *
  refine wpAny_bind (wpAny_letGo ?_)
  have hNL : N ≤ L := by omega
  have nL : ∀ j : Nat, j < 5 → N + j ≠ L := fun j hj => by omega
  have hz2 : IsZip G2 (N + 4) (N + 2) (N + 3) .none := oth _ _ (nL 4 (by omega)) (kp _ _ hz0)
  have hT2 : IsTupOf2 G2 (N + 2) (.ref N) (.ref (N + 1)) := oth _ _ (nL 2 (by omega)) (kp _ _ hTI)
  have hO2 : IsTupOf2 G2 (N + 3) .none .none := oth _ _ (nL 3 (by omega)) (kp _ _ hTO)
  unfold Builtin.List.listExtendWith
  have hTy : ({ s with heap := G2 } : Shared).TypeIs (.ref (N + 4)) "zip" := ⟨_, hz2, rfl⟩
  refine wpAny_bind (wpAny_typeOf hTy ?_)
  have q1 : Builtin.List.listSameRef (.ref L) (.ref (N + 4)) = false := by simp only [Builtin.List.listSameRef]; exact beq_eq_false_iff_ne.mpr (nL 4 (by omega)).symm
  have q2 : (Value.type "zip" == Value.type "list") = false := by decide
  have q3 : (Value.type "zip" == Value.type "tuple") = false := by decide
  simp only [q1, q2, q3, Bool.or_false, Bool.false_eq_true, if_false]
  refine wpAny_bind (wpAny_pyIter_zip hz2 ?_)
  refine wpAny_bind (wpAny_holding ?_)
  unfold Builtin.List.listLengthHint
  refine wpAny_bind (wpAny_specialOf hTy zip_no_len ?_)
  show wpAny _ _ (specialOf (Value.ref (N + 4)) (Str.ofString "__length_hint__") >>= _) _ _ _
  refine wpAny_bind (wpAny_specialOf hTy zip_no_hint ?_)
  refine wpAny_pure ?_
  show wpAny _ _ (rule "list.extend.makes-room" >>= fun _ => Builtin.List.listTouch (.ref L) >>= fun _ => again (.builtin "list.extend.loop" ⟨[.ref L, .ref (N + 4), .none], []⟩)) _ _ _
  refine wpAny_bind (wpAny_rule ?_)
  refine wpAny_bind ?_
  show wpAny _ _ (updateSeq L (·.push .none) >>= fun _ => updateSeq L (·.pop)) _ _ _
  refine wpAny_bind (wpAny_updateSeq hS₂ rfl ?_)
  have hS₃ := Heap.get?_update_self (Obj.mapSeq (·.push Value.none)) hS₂ rfl
  refine wpAny_updateSeq (hz := by seq_fits) hS₃ rfl ?_
  have hS₄ := Heap.get?_update_self (Obj.mapSeq (·.pop)) hS₃ rfl
  have oth2 : ∀ b o, b ≠ L → G2.get? b = some o → ((G2.update L (Obj.mapSeq (·.push Value.none))).update L (Obj.mapSeq (·.pop))).get? b = some o :=
    fun b o hb e => (Heap.get?_update_other _ _ (Ne.symm hb)).trans ((Heap.get?_update_other _ _ (Ne.symm hb)).trans e)
  have hG3 : ((G2.update L (Obj.mapSeq (·.push Value.none))).update L (Obj.mapSeq (·.pop))).objs.size = G2.objs.size := ((Heap.SameBut.update ..).1).trans ((Heap.SameBut.update ..).1)
  generalize hGGG : (G2.update L (Obj.mapSeq (·.push Value.none))).update L (Obj.mapSeq (·.pop)) = G3 at *
  have old : ∀ b o, s.heap.get? b = some o → G3.get? b = some o := fun b o e => by
    have hb : b < N := by rw [← hNN]; exact Heap.lt_size e
    have hb' : b ≠ L := Nat.ne_of_lt (Nat.lt_of_lt_of_le hb hNL)
    exact oth2 b o hb' (oth b o hb' (kp b o (hk b o e)))
  have at1 : G3.get? N = some o1 := oth2 _ _ (nL 0 (by omega)) (oth _ _ (nL 0 (by omega)) (kp _ _ e1))
  have at2 : G3.get? (N + 1) = some o2 := oth2 _ _ (nL 1 (by omega)) (oth _ _ (nL 1 (by omega)) (kp _ _ e2))
  have hLn1 : L ∉ N :: fp1 := fun hm => by
    rcases List.mem_cons.mp hm with e | hm
    · exact nL 0 (by omega) e.symm
    · exact Nat.lt_irrefl _ (Nat.lt_of_lt_of_le (hf1 _ hm) hNL)
  have hLn2 : L ∉ (N + 1) :: fp2 := fun hm => by
    rcases List.mem_cons.mp hm with e | hm
    · exact nL 1 (by omega) e.symm
    · exact Nat.lt_irrefl _ (Nat.lt_of_lt_of_le (hf2 _ hm) hNL)
  refine wpAny_pure ⟨plainId_quiet F.plain_extend_loop _, loop_zip (A := A.in1) (N := N) (L := L) SS (D1 _ (show A.in1.in1.in1.handled = none from hA)) (D2 _ (show A.in1.in1.in1.handled = none from hA)) hn hz .none hLn1 hLn2 (nL 4 (by omega)).symm (nL 2 (by omega)).symm (nL 3 (by omega)).symm (Nat.le_add_right _ _) (Nat.le_add_right _ _) (Nat.le_refl _) (Nat.le_add_right _ _) (by omega)
    n _ [] _ (by simp) (Nat.zero_le _) (.inl ⟨oth2 _ _ (nL 4 (by omega)) hz2, _, _, oth2 _ _ (nL 3 (by omega)) hO2⟩) (oth2 _ _ (nL 2 (by omega)) hT2) ?_ (b1 G3 old at1) (b2 G3 old at2) ?_ hS₄ .nil fun h' tk Ts c hl hk' hL' hld => ?_⟩
  · show (N + 3 : Nat) < G3.objs.size
    rw [hG3, hG2, hGz]; omega
  · show N ≤ G3.objs.size
    rw [hG3, hG2, hGz]; omega
  · refine ⟨rfl, hQ h' tk Ts c L hl (fun b o e => hk' b o (by rw [← hNN]; exact Heap.lt_size e) (old b o e)) (by omega) hL' hld.nd fun j T e => ?_⟩
    obtain ⟨a, _, b, _, c⟩ := hld.at_ j T e
    exact ⟨a, b, c⟩
end
end XL
namespace XL
open PySem PySem.Spec PyProof.Rows L2
/-- a list or a tuple -/
def Sq2 (K : PySem.W.Frag) (H : Hp) (a : Addr) (xs : List V) : Prop := SqL K H a xs ∨ SqT K H a xs
theorem Same.tup {K : PySem.W.Frag} {H H' : Hp} {a : Addr} {xs : List V} (e : Same H H') (h : SqT K H a xs) : SqT K H' a xs := by
  rcases h with (h | ⟨o, h⟩) | h
  · exact .inl (.inl (e _ _ h))
  · exact .inl (.inr ⟨o, e _ _ h⟩)
  · exact .inr h
theorem Same.sq2 {K : PySem.W.Frag} {H H' : Hp} {a : Addr} {xs : List V} (e : Same H H') (h : Sq2 K H a xs) : Sq2 K H' a xs := h.imp (fun q => e.seq q) (fun q => Same.tup e q)
theorem same_new {H : Hp} {p : Addr} {o : HO} (h : H p = none) : Same H (upd H p o) := fun b x e => by
  rw [upd_ne (ne_of_none e h)]
  exact e
section
variable {X : Cx} {pins : List (Addr × Obj)} {σ : L2.St} {H : Hp} {s : Shared} {a : Addr} {xs : List V}
theorem seq_draws (I : Inv X pins σ H s) (h : Sq2 X.K H a xs) : ∃ (its : List Value) (o : Obj) (B : Heap → Prop) (fp : List Addr), Vals xs its ∧ xs.length ≤ sizeLine ∧ Begins (.ref a) o B ∧ B s.heap ∧
    (∀ b ∈ fp, b < s.heap.objs.size) ∧ ∀ it, s.heap.objs.size ≤ it → ∃ St : Nat → Heap → Prop, (∀ A' : Around, A'.handled = none → Draws X.prog X.w A' it (it :: fp) its.length (fun i v => its[i]? = some v) St) ∧
      ∀ h' : Heap, (∀ b o, s.heap.get? b = some o → h'.get? b = some o) → h'.get? it = some o → St 0 h' := by
  rcases h with h | h
  · obtain ⟨its, rv, p, hz⟩ := I.list h
    have la : a < s.heap.objs.size := p.lt
    refine ⟨its, _, _, [a], rv, hz, begins_list a its.toArray, p.isList, fun b hb => by rw [List.mem_singleton.mp hb]; exact la, fun it hit => ?_⟩
    have hne : a ≠ it := Nat.ne_of_lt (Nat.lt_of_lt_of_le la hit)
    refine ⟨fun i h => h.IsListIter it a i ∧ h.IsList a its.toArray, fun A' hA => ?_, fun h' hk e => ?_⟩
    · have D := Draws.list (prog := X.prog) (w := X.w) hA it a hne its.toArray
      simpa using D
    · exact ⟨⟨_, e, rfl, rfl⟩, p.isList.at fun o q => hk a o q⟩
  · obtain ⟨its, rv, p, hz⟩ := I.tuple h
    have la : a < s.heap.objs.size := by
      obtain ⟨o, e, _⟩ := p
      exact Heap.lt_size e
    have p' : s.heap.IsTuple a its.toArray := p
    refine ⟨its, _, _, [a], rv, hz, begins_tuple a its.toArray, p', fun b hb => by rw [List.mem_singleton.mp hb]; exact la, fun it hit => ?_⟩
    have hne : a ≠ it := Nat.ne_of_lt (Nat.lt_of_lt_of_le la hit)
    refine ⟨fun i h => h.IsTupleIter it a i ∧ h.IsTuple a its.toArray, fun A' hA => ?_, fun h' hk e => ?_⟩
    · have D := Draws.tuple (prog := X.prog) (w := X.w) hA it a hne its.toArray
      simpa using D
    · exact ⟨⟨_, e, rfl, rfl⟩, p'.at fun o q => hk a o q⟩
end
/-- pairs laid at Ts -/
def layP (H : Hp) : List Addr → List V → List V → Hp
  | T :: Ts, x :: xs, y :: ys => upd (layP H Ts xs ys) T (.tup [x, y])
  | _, _, _ => H
theorem layP_off (H : Hp) {c : Addr} : ∀ (Ts : List Addr) (xs ys : List V), c ∉ Ts → layP H Ts xs ys c = H c
  | [], xs, ys, _ => by cases xs <;> cases ys <;> rfl
  | T :: Ts, [], ys, _ => rfl
  | T :: Ts, _ :: _, [], _ => rfl
  | T :: Ts, x :: xs, y :: ys, h => by
    have h1 : c ≠ T := fun e => h (by rw [e]; exact List.mem_cons_self ..)
    show upd (layP H Ts xs ys) T _ c = H c
    rw [upd_ne h1]
    exact layP_off H Ts xs ys fun q => h (List.mem_cons_of_mem _ q)
theorem layP_at (H : Hp) : ∀ (Ts : List Addr) (xs ys : List V) (j : Nat) (T : Addr) (x y : V), Ts.Nodup → Ts[j]? = some T → xs[j]? = some x → ys[j]? = some y → layP H Ts xs ys T = some (.tup [x, y])
  | [], _, _, _, _, _, _, _, h, _, _ => by simp at h
  | T :: Ts, [], _, _, _, _, _, _, _, h, _ => by simp at h
  | T :: Ts, _ :: _, [], _, _, _, _, _, _, _, h => by simp at h
  | T :: Ts, x :: xs, y :: ys, 0, T', x', y', _, h, hx, hy => by
    have e1 : T = T' := Option.some.inj h
    have e2 : x = x' := Option.some.inj hx
    have e3 : y = y' := Option.some.inj hy
    subst e1 e2 e3
    exact upd_same
  | T :: Ts, x :: xs, y :: ys, j + 1, T', x', y', nd, h, hx, hy => by
    have h' : Ts[j]? = some T' := h
    have hne : T' ≠ T := fun e => (List.nodup_cons.mp nd).1 (by rw [← e]; exact List.mem_of_getElem? h')
    show upd (layP H Ts xs ys) T _ T' = _
    rw [upd_ne hne]
    exact layP_at H Ts xs ys j T' x' y' (List.nodup_cons.mp nd).2 h' hx hy
/-- list(zip(e, e2)) -/
def tLZ (K : PySem.W.Frag) (ta : TA) : TE := fun σ H Q => ta σ H fun vs H1 => ∃ a b xs ys, vs = [.ref a, .ref b] ∧ Sq2 K H1 a xs ∧ Sq2 K H1 b ys ∧
  ∀ (L : Addr) (Ts : List Addr) (H2 : Hp), Same H1 H2 → H1 L = none → H2 L = some (.lst (Ts.map V.ref)) → Ts.length = min xs.length ys.length →
    (∀ (j : Nat) (T : Addr), Ts[j]? = some T → ∃ x y, xs[j]? = some x ∧ ys[j]? = some y ∧ H2 T = some (.tup [x, y])) → Q (.ref L) H2
theorem pe_listZip {X : Cx} {e e2 : Expr} {ta : TA} {p p2 pos pos2 : Pos} (hc : X.calm = true) (hg : Gl X "list") (hm : X.mg "list" = none) (hg2 : Gl X "zip") (hm2 : X.mg "zip" = none) (ha : PA X [e, e2] ta)
    (hs : starEach [e, e2] X.env = (false, eval e X.env) :: starEach [e2] X.env := by rfl) (hpl : (backTo pos2 (starEach [e2] X.env)).any (·.1) = false := by rfl)
    (na : starEach [(Expr.Call (.Name "zip" p2) [e, e2] [] pos2)] X.env = (false, eval (.Call (.Name "zip" p2) [e, e2] [] pos2) X.env) :: starEach [] X.env := by rfl) :
    PE X (.Call (.Name "list" p) [.Call (.Name "zip" p2) [e, e2] [] pos2] [] pos) (tLZ X.K ta) := by
  refine ⟨fun pins s σ H Q I h => ?_⟩
  refine Call_ (ld_blt I hg hm boot_list (PyProof.Rows.callWith_type1 (args_cons ?_ na) na))
  obtain ⟨tk0, I0⟩ : ∃ t : Nat, Inv X pins σ H s := ⟨0, I⟩
  refine Call_ (ld_blt I hg2 hm2 PyProof.Rows.boot_zip (PyProof.Rows.callWith_type1 (thn (ha.run pos2 pins s σ H _ I h) fun us s1 ⟨vs, H1, I1, r1, q1⟩ => ?_) hs hpl))
  obtain ⟨a, b, xs, ys, ex, hx, hy, q⟩ := q1
  subst ex
  obtain ⟨u1, u2, rfl, r1, r2⟩ := vals2 r1
  cases (show u1 = Value.ref a from r1)
  cases (show u2 = Value.ref b from r2)
  obtain ⟨its, o1, B1, fp1, rv1, z1, b1, hb1, f1, d1⟩ := seq_draws I1 hx
  obtain ⟨its2, o2, B2, fp2, rv2, z2, b2, hb2, f2, d2⟩ := seq_draws I1 hy
  obtain ⟨St1, D1, s1'⟩ := d1 s1.heap.objs.size (Nat.le_refl _)
  obtain ⟨St2, D2, s2'⟩ := d2 (s1.heap.objs.size + 1) (Nat.le_succ _)
  have l1 := rv1.length
  have l2 := rv2.length
  refine thn (call_list_zip (n := min its.length its2.length) (Q := fun v s2 => ∃ v' H', Inv X pins σ H' s2 ∧ RelV v' v ∧ Q v' H') (E := X.xe) b1 b2 hb1 hb2 f1 f2 D1 D2 s1' s2' (I1.ok.hd hc) rfl (by omega) fun h' tk Ts c L hl hk hLn hL nd hT => ?_) fun v s2 hq => args_nil hq
  have hT' : ∀ (j : Nat) (T : Addr), Ts[j]? = some T → ∃ x y u v, xs[j]? = some x ∧ ys[j]? = some y ∧ RelV x u ∧ RelV y v ∧ s1.heap.objs.size ≤ T ∧ T ≠ L ∧ IsTupOf2 h' T u v := fun j T e => by
    obtain ⟨g1, g2, u, v, pu, pv, t⟩ := hT j T e
    have hj1 : j < xs.length := by
      rw [l1]; exact (List.getElem?_eq_some_iff.mp pu).1
    have hj2 : j < ys.length := by
      rw [l2]; exact (List.getElem?_eq_some_iff.mp pv).1
    obtain ⟨u', eu, ru⟩ := rv1.get (List.getElem?_eq_getElem hj1)
    obtain ⟨v', ev, rv⟩ := rv2.get (List.getElem?_eq_getElem hj2)
    rw [eu] at pu
    rw [ev] at pv
    cases pu
    cases pv
    exact ⟨_, _, _, _, List.getElem?_eq_getElem hj1, List.getElem?_eq_getElem hj2, ru, rv, g1, g2, t⟩
  have hLT : L ∉ Ts := fun hm => by
    obtain ⟨j, e⟩ := List.getElem?_of_mem hm
    obtain ⟨_, _, _, _, _, _, _, _, _, ne, _⟩ := hT' j L e
    exact ne rfl
  have nTs : ∀ c, c < s1.heap.objs.size → c ∉ Ts := fun c hc hm => by
    obtain ⟨j, e⟩ := List.getElem?_of_mem hm
    obtain ⟨_, _, _, _, _, _, _, _, g, _⟩ := hT' j c e
    exact Nat.lt_irrefl _ (Nat.lt_of_lt_of_le hc g)
  have fr : ∀ c, s1.heap.objs.size ≤ c → H1 c = none := fun c hc => I1.hok.fresh hc
  have old : ∀ c o, H1 c = some o → upd (layP H1 Ts xs ys) L (.lst (Ts.map V.ref)) c = some o := fun c o e => by
    have h1 : c ≠ L := fun z => by rw [z, fr L hLn] at e; cases e
    have h2 : c ∉ Ts := fun hm => by
      obtain ⟨j, e'⟩ := List.getElem?_of_mem hm
      obtain ⟨_, _, _, _, _, _, _, _, g, _⟩ := hT' j c e'
      rw [fr c g] at e; cases e
    rw [upd_ne h1, layP_off H1 Ts xs ys h2]; exact e
  have U : Un X.fs [] H1 (upd (layP H1 Ts xs ys) L (.lst (Ts.map V.ref))) s1.heap h' := {
    keep := fun b o e _ _ _ => hk b o e
    slot := fun b o e _ _ _ => ⟨o.slots, hk b o e⟩
    free := fun b o e n _ => by
      have lb := Heap.lt_size e
      rw [upd_ne (Nat.ne_of_lt (Nat.lt_of_lt_of_le lb hLn)), layP_off H1 Ts xs ys (nTs b lb)]; exact n
    there := fun b o e _ => ⟨o, hk b o e⟩
    tups := fun b xs e => old b _ e
    frzs := fun b o u e => old b _ e
    tbls := fun b ps e => ⟨#[], by rw [old b _ e]; simp⟩ }
  have OK : HOk X.prog X.w (upd (layP H1 Ts xs ys) L (.lst (Ts.map V.ref))) h' := fun b o e => by
    by_cases hb : b = L
    · subst hb
      rw [upd_same] at e
      cases e
      refine ⟨by rw [List.length_map, hl]; omega, Ts.map Value.ref, c, ?_, hL⟩
      clear hT hT' hLT nTs old U hL nd hl q
      induction Ts with
      | nil => exact .nil
      | cons T r ih => exact .cons rfl ih
    · rw [upd_ne hb] at e
      by_cases hbT : b ∈ Ts
      · obtain ⟨j, ej⟩ := List.getElem?_of_mem hbT
        obtain ⟨x, y, u, v, ex, ey, ru, rv, g1, g2, t⟩ := hT' j b ej
        rw [layP_at H1 Ts xs ys j b x y nd ej ex ey] at e
        cases e
        exact ⟨by show 2 ≤ sizeLine; decide, [u, v], .cons ru (.cons rv .nil), ⟨_, t, rfl, _, rfl⟩⟩
      · rw [layP_off H1 Ts xs ys hbT] at e
        exact (I1.hok b o e).stay (fun c v _ q => hk c v q) (fun c q => old c _ q) fun c xs q => old c _ q
  refine ⟨.ref L, _, I1.un (t' := tk) U OK, rfl, q L Ts _ (fun c o e => old c o e) (fr L hLn) upd_same (by rw [hl]; omega) fun j T e => ?_⟩
  obtain ⟨x, y, u, v, ex, ey, ru, rv, g1, g2, t⟩ := hT' j T e
  exact ⟨x, y, ex, ey, by rw [upd_ne g2, layP_at H1 Ts xs ys j T x y nd e ex ey]⟩
end XL
namespace XL
open PySem PySem.Spec PyProof.Rows L2
/-- a def that keeps its promise where no repr is under way -/
structure FnG (P : Program) (w : World) (K : PySem.W.Frag) (mg : Str → Option Value) (base : Heap) (k : Nat) (f : Addr) (fd : FuncData) (ps : List Str) (sp : Sp) : Prop where
  len : ∀ vs H Q E, sp vs H Q E → vs.length = ps.length
  run : ∀ (A : Around) (outer : List Env) (s : Shared) (H : Hp) (args : Args) (us : List Value) (vs : List V) (Q : VK) (E : XK),
    A.guards = some [] → Room k A → Env0 P w K mg base A outer s H → BindsTo s fd args (ps.zip us) → Vals vs us → sp vs H Q E →
    codeAny (model P w) A (.call (.ref f) args) (CR CX0 outer P w H s Q E) s
section
variable {P : Program} {w : World} {K : PySem.W.Frag} {mg : Str → Option Value} {base : Heap}
theorem okG {x qual : Str} {st : Stmt} {f : Addr} {fd : FuncData} {N ps : List Str} {k : Nat} {sp : Sp} (F : Fun K x qual st f fd) (S : FnScope N ps (defScope st)) (len : ∀ vs H Q E, sp vs H Q E → vs.length = ps.length)
    (hbody : ∀ (cdv : Value) (A : Around) (outer : List Env) (s : Shared) (H : Hp) (vs : List V) (Q : VK) (E : XK),
      (A.deeper (envOfC qual (defScope st) s.heap.objs.size f cdv)).guards = some [] → Room k (A.deeper (envOfC qual (defScope st) s.heap.objs.size f cdv)) → sp vs H Q E →
      ∃ t, PSs (cxOf CX0 P w K mg base N qual (defScope st) f cdv A outer s H E).nox (defBody st) t ∧ t { nx := fun _ H' => Q .non H', rt := Q } (start N vs) H) : FnG P w K mg base (k + 1) f fd ps sp := by
  obtain ⟨oc, od, kV, doc, pm, an, cdv, ct, osl, rfl, lk, hcd⟩ := F.ex
  refine ⟨len, fun A outer s H args us vs Q E hgd hr e0 hb r hsp => ?_⟩
  have hl := len _ _ _ _ hsp; have KX : K.In s.heap := e0.mod.kin.keeps fun b o e => (e0.bs b o e).1
  have lim : s.heap.NoLimit := e0.mod.nolimit.keeps fun b o e => (e0.bs b o e).1
  have hkind : ∀ y ∈ ps.zip us, (defScope st).names.lookup y.1 = some .local ∨ ((defScope st).names.lookup y.1 = some .cell ∧ ((cellsFrom (s.heap.objs.size + 1) (defScope st).names []).lookup y.1).isSome = true) := fun ⟨n, v⟩ hy => by
    rcases S.par n (List.of_mem_zip hy).1 with q | q
    · exact .inl q
    · exact .inr ⟨q, PySem.W.cellsFrom_some _ _ _ (.inl q)⟩
  refine codeAny_call_function hr.depth (KX _ _ lk) rfl S.co S.gen rfl (PySem.W.codeRec_of KX hcd) (hb _ _ _ _ (wpAny_newFunctionEnv_cells S.kind hkind fun env he s1 x => ?_))
  subst he
  refine ⟨lim.keeps x.toInCall.keep, codeAny_func ?_⟩
  obtain ⟨t, ht, hq⟩ := hbody cdv A outer s H vs Q E hgd (hr.deeper _) hsp
  have I : Inv (cxOf CX0 P w K mg base N qual (defScope st) f cdv A outer s H E) [] (start N vs) H s1 := inv_start S hr.hd e0 hl r x
  refine wpAny_mono (ht.nox.run [] s1 (start N vs) H _ I hq) (fun fl s' hs => ?_) fun e s' hs => hs
  have fin : ∀ {σ' : L2.St} {H' : Hp} {v : V} {u : Value}, Inv (cxOf CX0 P w K mg base N qual (defScope st) f cdv A outer s H E) [] σ' H' s' → RelV v u → Q v H' → CE outer P w H s Q u s' := fun {σ' H' v u} J rv q =>
    ⟨v, H', J.os, J.bare, J.base, J.hok, rv, q⟩
  cases fl with
  | ret u => obtain ⟨v, σ', H', J, rv, q⟩ := hs; exact fin J rv q
  | next => obtain ⟨σ', H', J, q⟩ := hs; exact fin (v := V.non) (u := Value.none) J rfl q
  | brk => obtain ⟨_, _, _, q⟩ := hs; exact False.elim q
  | cont => obtain ⟨_, _, _, q⟩ := hs; exact False.elim q
theorem FnG.of {k : Nat} {f : Addr} {fd : FuncData} {ps : List Str} {sp : Sp} (F : FnOk P w K mg base CX0 k f fd ps sp) : FnG P w K mg base k f fd ps sp :=
  ⟨F.len, fun A outer s H args us vs Q E _ hr e0 hb r h => F.run A outer s H args us vs Q E hr e0 hb r h⟩
end
section
variable {X : Cx} {k : Nat} {f C : Addr} {fd : FuncData} {ps ks : List Str} {sp : Sp} {x m : Str} {p pos apos : Pos} {e o : Expr} {es : List Expr} {ta : TE} {t tk : TA} {kws : List Keyword}
/-- f(e, ..) of such a def -/
theorem pe_callG (hG : X.A.guards = some []) (F : FnG X.prog X.w X.K X.mg X.base k f fd ps sp) (hr : Room k X.A) (hg : Gl X x) (hm : X.mg x = some (.ref f)) (hk : PySem.W.keepIn X.K (.ref f) = true) (hb : Binds X.K fd ps [])
    (ha : PA X (e :: es) t) (hdb : (x == ("__debug__" : Str)) = false := by decide) (he : starEach (e :: es) X.env = (false, eval e X.env) :: starEach es X.env := by rfl)
    (hpl : (backTo pos (starEach es X.env)).any (·.1) = false := by rfl) : PE X (.Call (.Name x p) (e :: es) [] pos) (tCall sp [] E0 t) := by
  refine ⟨fun pins s σ H Q I h => wpAny_Call_Name_kw (ld_glob I hg hm ?_ hdb)⟩
  refine PySem.W.callWith_K (h₀ := X.base) I.ok.mod.kin hk (thn (ha.run pos pins s σ H _ I h) fun us s1 ⟨vs, H1, I1, r, q⟩ => ⟨I1.kIn, ?_⟩) he hpl
  have q' : sp vs H1 Q E0 := by have q2 : sp (vs ++ []) H1 Q E0 := q; rwa [List.append_nil] at q2
  have hl : us.length = ps.length := by rw [← r.length]; exact F.len _ _ _ _ q'
  have hb' : BindsTo s1 fd ⟨us, []⟩ (ps.zip us) := by have b2 := hb s1 us I1.kIn (by rw [List.append_nil]; exact hl); rwa [List.append_nil] at b2
  refine wpAny_call (codeAny_mono (F.run X.A X.stack s1 H1 ⟨us, []⟩ us vs Q E0 hG hr I1.env0 hb' r q') fun r s' hq => ?_)
  cases r with
  | error e => exact False.elim hq
  | ok fl =>
    cases fl with
    | ret u => exact I1.after hq
    | next => exact False.elim hq
    | brk => exact False.elim hq
    | cont => exact False.elim hq
variable {CX : CXT} {E : XK} {g : List Value → List Value → List Value} {gV : List V → List V → List V}
/-- f(k = v, ..), no argument by place -/
theorem pe_callK0 (F : FnOk X.prog X.w X.K X.mg X.base CX k f fd ps sp) (hr : Room k X.A) (hg : Gl X x) (hm : X.mg x = some (.ref f)) (hk : PySem.W.keepIn X.K (.ref f) = true) (hb : KBinds X.K fd ps ks g gV) (hx : Passes CX X E)
    (hkw : PK X kws tk) (hall : (backToKw pos (keywordEach kws X.env)).all (·.1.isSome) = true := by rfl) (hks : (backToKw pos (keywordEach kws X.env)).filterMap (·.1) = ks := by rfl)
    (hdb : (x == ("__debug__" : Str)) = false := by decide)
    (hpl : ((backTo pos (starEach [] X.env)).any (·.1) || (backToKw pos (keywordEach kws X.env)).any (·.1.isNone)) = false := by rfl) :
    PE X (.Call (.Name x p) [] kws pos) (fun σ H Q => tk σ H fun zs H2 => sp (gV [] zs) H2 Q E) := by
  refine ⟨fun pins s σ H Q I h => wpAny_Call_Name_kw (ld_glob I hg hm ?_ hdb)⟩
  refine PySem.W.callWith_KW0 (h₀ := X.base) I.ok.mod.kin hk hall (thn (hkw.run pos pins s σ H _ I h) fun ws s2 ⟨zs, H2, I2, rz, q2⟩ => ⟨I2.kIn, ?_⟩) hpl
  rw [hks]
  exact run_fnk F hr hb hx I2 .nil rz q2
end
/-! ### the head -/
theorem law_callG {P : Program} {w : World} {K : PySem.W.Frag} {mg mb : Str → Option Value} {k : Nat} {fa a : Addr} {fd : FuncData} {x : Str} {sp : Sp} {s₁ : Shared} {vs : List Value} {ns : List Int}
    (KX : K.In s₁.heap) (hns : s₁.heap.Ns mainGlobals mg) (hb : s₁.heap.Ns builtinsNs mb) (hbb : ∀ x : Str, x ≠ "__name__" → mb x = bootBuiltins x) (hlim : s₁.heap.NoLimit) (hg : s₁.gens = #[])
    (ha : s₁.heap.get? a = some { cls := .type "list", data := .seq vs.toArray }) (hi : IntsAre vs ns) (hl : ns.length ≤ sizeLine) (hr : Room k callerA)
    (F : ∀ base : Heap, K.In base → base.Ns mainGlobals mg → FnG P w K mg base k fa fd [x] sp) (hbind : ∀ (s : Shared) (u : Value), BindsTo s fd ⟨[u], []⟩ [(x, u)])
    (hsp : ∀ H : Hp, Only H → SqL K H a (ns.map V.int) → sp [.ref a] H (fun v _ => v = .bl true) fun _ _ _ => False) :
    codeAny (model P w) callerA (.call (.ref fa) ⟨[.ref a], []⟩) (fun r s' => r = .ok (.ret (.bool true)) ∧ OldK s₁.heap s'.heap ∧ s'.os = s₁.os ∧ AllBare s'.gens) s₁ := by
  have rv := vals_ints hi; have lenV := hi.length
  have core : ∀ H : Hp, Only H → SqL K H a (ns.map V.int) → HOk P w H s₁.heap → (∀ b, H b ≠ none → b = a) → (H a ≠ none → K.lookup a = none) → codeAny (model P w) callerA (.call (.ref fa) ⟨[.ref a], []⟩)
      (fun r s' => r = .ok (.ret (.bool true)) ∧ OldK s₁.heap s'.heap ∧ s'.os = s₁.os ∧ AllBare s'.gens) s₁ := by
    intro H hO hS hok hA hK
    have noA : ∀ {b : Addr} {o : Obj} {es : Array DictEntry} {ep : Nat}, s₁.heap.get? b = some o → o.data = .dict es ep → H b = none := by
      intro b o es ep e d
      cases q : H b with
      | none => rfl
      | some u =>
        have e' : b = a := hA b (by rw [q]; simp)
        subst e'; rw [ha] at e; cases e
        exact absurd (show Data.seq vs.toArray _ = Data.dict es ep from d) (by simp)
    have nsK : ∀ {b : Addr} {m : Str → Option Value}, s₁.heap.Ns b m → (hidT s₁.heap H).Ns b m := by
      intro b m hm
      obtain ⟨o, es, ep, e, d, r⟩ := hm
      exact ⟨o, es, ep, hidT_get e (noA e d), d, r⟩
    have hKb : K.In (hidT s₁.heap H) := by
      intro b o e
      refine hidT_get (KX b o e) ?_
      cases q : H b with
      | none => rfl
      | some u =>
        have e' : b = a := hA b (by rw [q]; simp)
        subst e'; rw [hK (by rw [q]; simp)] at e; cases e
    have hM : Mod K mg (hidT s₁.heap H) := by
      obtain ⟨mc, c1, c2⟩ := hlim
      exact ⟨hKb, nsK hns, ⟨mb, nsK hb, hbb⟩, ⟨mc, nsK c1, c2⟩⟩
    have e0 : Env0 P w K mg (hidT s₁.heap H) callerA [] s₁ H := by
      refine ⟨rfl, hM, fun b o e => of_hidT e, Nat.le_of_eq (hidT_size _ _), trivial, fun b hb => ?_, hok, .of_eq hg⟩
      exact absurd (show b ∈ ([] : List Addr) from hb) (by simp)
    refine codeAny_mono ((F _ hKb (nsK hns)).run callerA [] s₁ H ⟨[.ref a], []⟩ [.ref a] [.ref a] _ _ rfl hr e0 (hbind s₁ (.ref a)) (.cons rfl .nil) (hsp H hO hS)) fun r s' h => ?_
    cases r with
    | error e => exact False.elim h
    | ok fl =>
      cases fl with
      | next => exact False.elim h
      | brk => exact False.elim h
      | cont => exact False.elim h
      | ret u =>
        obtain ⟨v, H', os, bare, un, hok', r', q⟩ := h
        have q' : v = .bl true := q
        subst q'
        obtain rfl : u = Value.bool true := r'
        refine ⟨rfl, OldK.of_keep fun b o e => ?_, os, bare⟩
        cases q : H b with
        | none => exact un.keep b o e q (by intro z; exact absurd (show b ∈ ([] : List Addr) from z) (by simp)) (by simp)
        | some u =>
          rcases hO b with z | ⟨ob, xs, z⟩
          · rw [q] at z; cases z
          · have z2 := un.frzs b ob _ z
            obtain ⟨e1, _⟩ := hok b _ z; obtain ⟨e2, _⟩ := hok' b _ z2
            rw [e] at e1; cases e1; exact e2
  cases hk : K.lookup a with
  | some o =>
    have e := KX a o hk
    rw [ha] at e; cases e
    refine core (fun _ => none) (fun _ => .inl rfl) ?_ (fun b u z => nomatch z) (fun b z => absurd rfl z) fun z => absurd rfl z
    exact .inr ⟨_, vs.toArray, _, hk, rfl, rfl, rfl, by rw [List.size_toArray, lenV]; exact hl, by simpa using rv⟩
  | none =>
    refine core (fun b => if b = a then some (.frz { cls := .type "list", data := .seq vs.toArray } (.lst (ns.map V.int))) else none) (fun b => ?_) (.inl (.inr ⟨_, if_pos rfl⟩)) (fun b u z => ?_) (fun b z => ?_) fun _ => hk
    · by_cases hb : b = a
      · exact .inr ⟨_, _, if_pos hb⟩
      · exact .inl (if_neg hb)
    · by_cases hb : b = a
      · have z' := (if_pos hb).symm.trans z
        cases z'; subst hb
        exact ⟨ha, by rw [List.length_map]; exact hl, vs, _, rv, ha⟩
      · have z' := (if_neg hb).symm.trans z
        cases z'
    · by_cases hb : b = a
      · exact hb
      · exact absurd (if_neg hb) z
theorem walkG {l : PySem.W.OpenLaw} {n k : Nat} {q : Program} {loose : List Str} {XP : (Str → Option Value) → Heap → Prop} {YP : World → Heap → Prop} {d : DefRec} {K : Params → PySem.W.Frag} {sp : PySem.W.Frag → Sp} {x : Str}
    (hn : l.most = some n) (hn2 : n ≤ sizeLine) (hdf : d.params.defaults = []) (hr : Room k callerA) (hY : ∀ (w : World) (h : Heap), YP w h → (K w.params).In h)
    (F : ∀ (w : World) (mg : Str → Option Value) (fa : Addr) (h : Heap), (K w.params).In h → h.Ns mainGlobals mg → mg d.name = some (.ref fa) →
      ∃ fd : FuncData, (∀ (s : Shared) (u : Value), BindsTo s fd ⟨[u], []⟩ [(x, u)]) ∧ ∀ base : Heap, (K w.params).In base → base.Ns mainGlobals mg → FnG l.prog w (K w.params) mg base k fa fd [x] (sp (K w.params)))
    (hsp : ∀ (K : PySem.W.Frag) (H : Hp) (a : Addr) (ns : List Int), ns.length ≤ n → Only H → SqL K H a (ns.map V.int) → sp K [.ref a] H (fun v _ => v = .bl true) fun _ _ _ => False) :
    PySem.W.WalkO q loose XP YP l.row.toRowW d [] (fun f vs => PySem.call f vs) := by
  refine Att.attach_call hn hdf fun w s₀ s₁ mg mb fa o pm cd doc a vs ns G Y ho hd hcd hmg hobj hints hlen hg => ?_
  have KX := hY w _ Y
  obtain ⟨fd, hb, hF⟩ := F w mg fa _ KX G.T.g hmg
  exact law_callG KX G.T.g G.T.b G.T.builtins G.T.nolimit hg hobj hints (Nat.le_trans hlen hn2) hr hF hb fun H hO hS => hsp (K w.params) H a ns hlen hO hS
/-! ### repr of data -/
def tRep (K : PySem.W.Frag) (te : TE) : TE := fun σ H Q => te σ H fun x H1 => ∃ a d, x = .ref a ∧ Dp K H1 x d ∧ d.showable = true ∧ d.hasDict = false ∧ d.depth ≤ 50 ∧ d.shown.length ≤ sizeLine ∧ Q (.str d.shown) H1
theorem pe_rep {X : Cx} {k : Nat} {e : Expr} {te : TE} {p pos : Pos} (hG : X.A.guards = some []) (hr : Room k X.A) (hg : Gl X "repr") (hm : X.mg "repr" = none) (hb : bootBuiltins "repr" = some (.builtin "repr")) (ha : PE X e te)
    (he : starEach [e] X.env = (false, eval e X.env) :: starEach [] X.env := by rfl) : PE X (.Call (.Name "repr" p) [e] [] pos) (tRep X.K te) := by
  refine ⟨fun pins s σ H Q I h => wpAny_Call_Name_kw (ld_blt I hg hm hb ?_)⟩
  refine PyProof.Rows.callWith_builtin1 (args_cons (thn (ha.run pins s σ H _ I h) fun u s1 ⟨v, H1, I1, r1, q1⟩ => args_nil ?_) he) he rfl
  obtain ⟨a, d, ex, hd, hs, hno, hdp, hz, q⟩ := q1
  subst ex
  obtain ⟨as, rd⟩ := Dp.reads I1 d _ u hd r1
  cases (show u = Value.ref a from r1)
  have hu := hr.un
  refine repr_of_reads' rd hs (fun z => absurd z (by rw [hno]; decide)) hG (by omega) (fun b o e => e) (fun h' u tk hk => ?_) hz
  exact ⟨.str d.shown, H1, I1.kept hk, ⟨_, rfl⟩, q⟩
end XL
namespace XL
open PySem PySem.Spec PyProof.Rows L2
section
variable {K : PySem.W.Frag} {H H' : Hp}
/-! ### data stays -/
mutual
theorem Dp.same (s : Same H H') : ∀ {v : V} (d : PyData), Dp K H v d → Dp K H' v d
  | _, .none, h => by cases h; exact .non
  | _, .bool b, h => by cases h; exact .bl b
  | _, .int i, h => by cases h; exact .int i
  | _, .str x, h => by cases h; exact .str x
  | _, .list ds, h => by
    cases h with
    | lst hs ha => exact .lst (s.seq hs) (DpAll.same s ds ha)
  | _, .tuple ds, h => by
    cases h with
    | tup hs ha => exact .tup (Same.tup s hs) (DpAll.same s ds ha)
  | _, .dict _, h => by cases h
theorem DpAll.same (s : Same H H') : ∀ {vs : List V} (ds : List PyData), DpAll K H vs ds → DpAll K H' vs ds
  | _, [], h => by cases h; exact .nil
  | _, d :: ds, h => by
    cases h with
    | cons h1 h2 => exact .cons (Dp.same s d h1) (DpAll.same s ds h2)
end
theorem DpAll.length : ∀ {vs : List V} {ds : List PyData}, DpAll K H vs ds → vs.length = ds.length
  | _, _, .nil => rfl
  | _, _, .cons _ h => by rw [List.length_cons, List.length_cons, DpAll.length h]
theorem DpAll.get : ∀ {vs : List V} {ds : List PyData} {i : Nat} {v : V}, DpAll K H vs ds → vs[i]? = some v → ∃ d, ds[i]? = some d ∧ Dp K H v d
  | _, _, i, v, .nil, h => by simp at h
  | _, _, 0, v, .cons a _, h => by cases h; exact ⟨_, rfl, a⟩
  | _, _, i + 1, v, .cons _ r, h => DpAll.get r (i := i) h
theorem DpAll.get' : ∀ {vs : List V} {ds : List PyData} {i : Nat} {d : PyData}, DpAll K H vs ds → ds[i]? = some d → ∃ v, vs[i]? = some v ∧ Dp K H v d
  | _, _, i, v, .nil, h => by simp at h
  | _, _, 0, v, .cons a _, h => by cases h; exact ⟨_, rfl, a⟩
  | _, _, i + 1, v, .cons _ r, h => DpAll.get' r (i := i) h
theorem DpAll.app : ∀ {vs ws : List V} {ds es : List PyData}, DpAll K H vs ds → DpAll K H ws es → DpAll K H (vs ++ ws) (ds ++ es)
  | _, _, _, _, .nil, h => h
  | _, _, _, _, .cons a r, h => .cons a (DpAll.app r h)
theorem DpAll.snoc {vs : List V} {v : V} {ds : List PyData} {d : PyData} (a : DpAll K H vs ds) (h : Dp K H v d) : DpAll K H (vs ++ [v]) (ds ++ [d]) := DpAll.app a (.cons h .nil)
/-! ### kinds -/
def isSeq : PyData → Bool
  | .list _ => true
  | .tuple _ => true
  | _ => false
def tyD : PyData → Value
  | .none => .type "NoneType"
  | .bool _ => .type "bool"
  | .int _ => .type "int"
  | .str _ => .type "str"
  | .list _ => .type "list"
  | .tuple _ => .type "tuple"
  | .dict _ => .type "dict"
theorem tyx_of {v : V} {d : PyData} (h : Dp K H v d) : TyX K H v (tyD d) := by
  cases h with
  | non => exact .base .non
  | bl b => exact .base (.bl b)
  | int i => exact .base (.int i)
  | str x => exact .base (.str x)
  | lst hs _ =>
    rcases hs with (hs | ⟨o, hs⟩) | ⟨o, its, n, hk, hc, _⟩
    · exact .base (.lst hs)
    · exact .base (.frz hs)
    · exact .kList hk hc
  | tup hs _ =>
    rcases hs with (hs | ⟨o, hs⟩) | ⟨o, its, n, hk, hc, _⟩
    · exact .base (.tup hs)
    · exact .fTuple hs
    · exact .kTuple hk hc
theorem kit1 {t : String} {u : String} {b : Bool} (h : kitB t u = some b) : PySem.W.kitOne K (.type t) (.type u) = some b := kit_ty h
theorem kit2 {t u v : String} {a b : Bool} (h : kitB t u = some a) (h2 : kitB t v = some b) : PySem.W.kitAny K (.type t) [.type u, .type v] = some (a || b) := by
  refine kitAny_cons (kit_ty h) (fun e => ?_) (fun e => ?_)
  · subst e
    refine kitAny_cons (kit_ty h2) (fun e => ?_) (fun e => ?_)
    · subst e; rfl
    · subst e; rfl
  · subst e; rfl
theorem seq_kit (d : PyData) (h : ∀ kvs, d ≠ .dict kvs) : PySem.W.kitAny K (tyD d) [.type "list", .type "tuple"] = some (isSeq d) := by
  cases d with
  | none => exact kit2 (a := false) (b := false) (by decide +kernel) (by decide +kernel)
  | bool b => exact kit2 (a := false) (b := false) (by decide +kernel) (by decide +kernel)
  | int i => exact kit2 (a := false) (b := false) (by decide +kernel) (by decide +kernel)
  | str x => exact kit2 (a := false) (b := false) (by decide +kernel) (by decide +kernel)
  | list ds => exact kit2 (a := true) (b := false) (by decide +kernel) (by decide +kernel)
  | tuple ds => exact kit2 (a := false) (b := true) (by decide +kernel) (by decide +kernel)
  | dict kvs => exact absurd rfl (h kvs)
theorem Dp.nodict {v : V} {d : PyData} (h : Dp K H v d) : ∀ kvs, d ≠ .dict kvs := fun kvs e => by subst e; cases h
end
/-! ### data of bounded depth and width -/
def okD : Nat → PyData → Prop
  | 0, _ => False
  | n + 1, .list ds => ds.length ≤ 1000 ∧ ∀ d ∈ ds, okD n d
  | n + 1, .tuple ds => ds.length ≤ 1000 ∧ ∀ d ∈ ds, okD n d
  | _ + 1, _ => True
mutual
/-- lists as tuples -/
def tupD : PyData → PyData
  | .list ds => .tuple (tupDs ds)
  | .tuple ds => .tuple (tupDs ds)
  | .none => .none
  | .bool b => .bool b
  | .int i => .int i
  | .str x => .str x
  | .dict k => .dict k
def tupDs : List PyData → List PyData
  | [] => []
  | d :: ds => tupD d :: tupDs ds
end
mutual
/-- tuples as lists -/
def lstD : PyData → PyData
  | .list ds => .list (lstDs ds)
  | .tuple ds => .list (lstDs ds)
  | .none => .none
  | .bool b => .bool b
  | .int i => .int i
  | .str x => .str x
  | .dict k => .dict k
def lstDs : List PyData → List PyData
  | [] => []
  | d :: ds => lstD d :: lstDs ds
end
theorem tupDs_eq : ∀ ds : List PyData, tupDs ds = ds.map tupD
  | [] => rfl
  | d :: ds => by rw [tupDs, tupDs_eq ds]; rfl
theorem lstDs_eq : ∀ ds : List PyData, lstDs ds = ds.map lstD
  | [] => rfl
  | d :: ds => by rw [lstDs, lstDs_eq ds]; rfl
def itemsD : PyData → List PyData
  | .list ds => ds
  | .tuple ds => ds
  | _ => []
theorem seq_of {K : PySem.W.Frag} {H : Hp} {v : V} {d : PyData} (h : Dp K H v d) (hs : isSeq d = true) : ∃ a xs, v = .ref a ∧ Sq2 K H a xs ∧ DpAll K H xs (itemsD d) := by
  cases h with
  | lst h1 h2 => exact ⟨_, _, rfl, .inl h1, h2⟩
  | tup h1 h2 => exact ⟨_, _, rfl, .inr h1, h2⟩
  | _ => simp [isSeq] at hs
theorem okD_items {n : Nat} {d : PyData} (h : okD (n + 1) d) (hs : isSeq d = true) : (∀ e ∈ itemsD d, okD n e) ∧ (itemsD d).length ≤ 1000 := by
  cases d with
  | list ds => exact ⟨h.2, h.1⟩
  | tuple ds => exact ⟨h.2, h.1⟩
  | _ => simp [isSeq] at hs
theorem small {n : Nat} (h : n ≤ 1000) : n ≤ sizeLine := Nat.le_of_lt (small1000 h)
end XL
namespace XL
open PySem PySem.Spec PyProof.Rows L2
/-! ### a list that is hidden while an expression is evaluated -/
theorem same_delH {H : Hp} {D : Addr} {o : HO} : Same (delH H D) (upd H D o) := fun b x e => by
  by_cases hb : b = D
  · rw [hb, delH_same] at e; cases e
  · rw [delH_ne hb] at e; rw [upd_ne hb]; exact e
theorem delH_none {H : Hp} {D : Addr} (h : H D = none) : delH H D = H := by
  funext b
  by_cases hb : b = D
  · rw [hb, delH_same, h]
  · rw [delH_ne hb]
theorem delH_upd {H : Hp} {D : Addr} {o : HO} (h : H D = none) : delH (upd H D o) D = H := delH_new h
theorem upd_upd {H : Hp} {D : Addr} {o o' : HO} : upd (upd H D o) D o' = upd H D o' := by
  funext b
  by_cases hb : b = D
  · rw [hb, upd_same, upd_same]
  · rw [upd_ne hb, upd_ne hb, upd_ne hb]
theorem upd_comm {H : Hp} {D T : Addr} {o o' : HO} (h : T ≠ D) : upd (upd H D o) T o' = upd (upd H T o') D o := by
  funext b
  by_cases hb : b = D
  · rw [hb, upd_same, upd_ne (fun e => h e.symm), upd_same]
  · by_cases hT : b = T
    · rw [hT, upd_same, upd_ne h, upd_same]
    · rw [upd_ne hT, upd_ne hb, upd_ne hb, upd_ne hT]
section
variable {X : Cx} {pins : List (Addr × Obj)} {σ : L2.St} {H : Hp} {s s' : Shared} {D : Addr} {xs : List V}
theorem Inv.hide (I : Inv X pins σ H s) (hD : H D = some (.lst xs)) : ∃ (its : List Value) (n : Nat), Vals xs its ∧ xs.length ≤ sizeLine ∧
    Inv X ((D, { cls := .type "list", dict := none, data := .seq its.toArray n, slots := #[] }) :: pins) σ (delH H D) s := by
  obtain ⟨hz, its, n, rv, ho⟩ := (show ObjOk X.prog X.w H s.heap D (.lst xs) from I.hok D _ hD)
  have ne : ∀ {b : Addr}, H b = none → b ≠ D := fun {b} h e => by rw [e, hD] at h; cases h
  have hN : ∀ {b : Addr}, H b = none → delH H D b = none := fun {b} h => by rw [delH_ne (ne h)]; exact h
  refine ⟨its, n, rv, hz, ⟨I.ok, I.os, I.bare, ⟨I.base.keep, I.base.slot, fun b o e n hx => hN (I.base.free b o e n hx), I.base.there, fun b ys e => ?_, fun b o u e => ?_, fun b ps e => ?_⟩, I.loc, I.cell, hN I.free, fun x c e => hN (I.freeC x c e), fun p hp => ?_, fun b o e => ?_, I.len⟩⟩
  · have q := I.base.tups b ys e
    rw [delH_ne (fun z => by rw [z, hD] at q; cases q)]; exact q
  · have q := I.base.frzs b o u e
    rw [delH_ne (fun z => by rw [z, hD] at q; cases q)]; exact q
  · obtain ⟨m, q⟩ := I.base.tbls b ps e
    exact ⟨m, by rw [delH_ne (fun z => by rw [z, hD] at q; cases q)]; exact q⟩
  · rcases List.mem_append.mp hp with hp | hp
    · obtain ⟨a1, a2, a3⟩ := I.pin p (List.mem_append_left _ hp)
      exact ⟨a1, hN a2, a3⟩
    · rcases List.mem_cons.mp hp with e | hp
      · subst e
        refine ⟨ho, delH_same, fun e => ?_, fun hf => ?_, fun v e => nomatch e⟩
        · have := I.free; rw [show X.env.locals = D from e.symm, hD] at this; cases this
        · obtain ⟨_, o, q, _⟩ := I.ok.funs.mem hf
          have := I.base.free D o q (I.ok.frf D hf) fun z => I.ok.exfs D z hf
          rw [hD] at this; cases this
      · obtain ⟨a1, a2, a3⟩ := I.pin p (List.mem_append_right _ hp)
        exact ⟨a1, hN a2, a3⟩
  · have hb : b ≠ D := fun z => by rw [z, delH_same] at e; cases e
    rw [delH_ne hb] at e
    refine (I.hok b o e).stay (fun c v _ q => q) (fun c q => ?_) fun c ys q => ?_
    · rw [delH_ne (fun z => by rw [z, hD] at q; cases q)]; exact q
    · rw [delH_ne (fun z => by rw [z, hD] at q; cases q)]; exact q
theorem Inv.unhide {H' : Hp} {its : List Value} {n : Nat} (I : Inv X pins σ H s) (hD : H D = some (.lst xs)) (rv : Vals xs its) (hz : xs.length ≤ sizeLine)
    (J : Inv X ((D, { cls := .type "list", dict := none, data := .seq its.toArray n, slots := #[] }) :: pins) σ H' s') : H' D = none ∧ Inv X pins σ (upd H' D (.lst xs)) s' := by
  obtain ⟨ho, hn, _, _, _⟩ := J.pin (D, _) (List.mem_append_right _ (List.mem_cons_self ..))
  have hn' : H' D = none := hn
  have ne : ∀ {b : Addr}, H b = none → b ≠ D := fun {b} h e => by rw [e, hD] at h; cases h
  refine ⟨hn', ⟨J.ok, J.os, J.bare, ⟨J.base.keep, J.base.slot, fun b o e n hx => ?_, J.base.there, fun b ys e => ?_, fun b o u e => ?_, fun b ps e => ?_⟩, J.loc, J.cell, ?_, fun x c e => ?_, fun p hp => ?_, fun b o e => ?_, J.len⟩⟩
  · rw [upd_ne (ne (I.base.free b o e n hx))]; exact J.base.free b o e n hx
  · have q := J.base.tups b ys e
    rw [upd_ne (fun z => by rw [z, hn'] at q; cases q)]; exact q
  · have q := J.base.frzs b o u e
    rw [upd_ne (fun z => by rw [z, hn'] at q; cases q)]; exact q
  · obtain ⟨m, q⟩ := J.base.tbls b ps e
    exact ⟨m, by rw [upd_ne (fun z => by rw [z, hn'] at q; cases q)]; exact q⟩
  · rw [upd_ne (ne I.free)]; exact J.free
  · rw [upd_ne (ne (I.freeC x c e))]; exact J.freeC x c e
  · obtain ⟨_, a0, _⟩ := I.pin p hp
    have hp' : p ∈ X.pn ++ ((D, ({ cls := .type "list", dict := none, data := .seq its.toArray n, slots := #[] } : Obj)) :: pins) := by
      rcases List.mem_append.mp hp with h | h
      · exact List.mem_append_left _ h
      · exact List.mem_append_right _ (List.mem_cons_of_mem _ h)
    obtain ⟨a1, a2, a3⟩ := J.pin p hp'
    exact ⟨a1, by rw [upd_ne (ne a0)]; exact a2, a3⟩
  · by_cases hb : b = D
    · subst hb
      rw [upd_same] at e
      cases e
      exact ⟨hz, its, n, rv, ho⟩
    · rw [upd_ne hb] at e
      refine (J.hok b o e).stay (fun c v _ q => q) (fun c q => ?_) fun c ys q => ?_
      · rw [upd_ne (fun z => by rw [z, hn'] at q; cases q)]; exact q
      · rw [upd_ne (fun z => by rw [z, hn'] at q; cases q)]; exact q
end
/-- e, evaluated while the list at D is hidden -/
def tHide (t : TE) : TE := fun σ H Q => ∃ D xs, H D = some (.lst xs) ∧ t σ (delH H D) fun v H' => H' D = none → Q v (upd H' D (.lst xs))
theorem pe_hide {X : Cx} {e : Expr} {t : TE} (h : PE X e t) : PE X e (tHide t) := by
  refine ⟨fun pins s σ H Q I q => ?_⟩
  obtain ⟨D, xs, hD, q⟩ := q
  obtain ⟨its, n, rv, hz, J⟩ := Inv.hide I hD
  refine thn (h.run _ s σ _ _ J q) fun u s' hu => ?_
  obtain ⟨v, H', J', r, q'⟩ := hu
  obtain ⟨hn, I'⟩ := Inv.unhide I hD rv hz J'
  exact ⟨v, _, I', r, q' hn⟩
theorem wipe_none {σ : L2.St} {i : Nat} : ∀ {vs : List Nat}, i ∈ vs → (wipe σ vs).set i none = wipe σ vs
  | [], h => by simp at h
  | v :: vs, h => by
    show ((wipe σ vs).set v none).set i none = (wipe σ vs).set v none
    by_cases e : i = v
    · rw [e, List.set_set]
    · have h' : i ∈ vs := by rcases List.mem_cons.mp h with q | q; exact absurd q e; exact q
      rw [List.set_comm _ _ (fun q => e q.symm), wipe_none h']
theorem wipe_put {σ : L2.St} {i : Nat} {x : Option V} : ∀ {vs : List Nat}, i ∉ vs → wipe (σ.set i x) vs = (wipe σ vs).set i x
  | [], _ => rfl
  | v :: vs, h => by
    show (wipe (σ.set i x) vs).set v none = ((wipe σ vs).set v none).set i x
    rw [wipe_put (fun q => h (List.mem_cons_of_mem _ q)), List.set_comm _ _ (fun q => h (by rw [q]; exact List.mem_cons_self ..))]
theorem w1 {σ σ' : L2.St} {i : Nat} {x : Option V} {vs : List Nat} (h : i ∈ vs) (e : wipe σ' vs = wipe σ vs) : wipe (σ'.set i x) vs = wipe σ vs := by
  have key : ∀ {vs : List Nat}, i ∈ vs → wipe (σ'.set i x) vs = wipe σ' vs := by
    intro vs h
    induction vs with
    | nil => simp at h
    | cons v vs ih =>
      show (wipe (σ'.set i x) vs).set v none = (wipe σ' vs).set v none
      by_cases hm : i ∈ vs
      · rw [ih hm]
      · have ev : i = v := by rcases List.mem_cons.mp h with q | q; exact q; exact absurd q hm
        rw [wipe_put hm, ← ev, List.set_set]
  rw [key h, e]
theorem w0 {σ : L2.St} {vs : List Nat} : wipe (wipe σ vs) vs = wipe σ vs := by
  have key : ∀ ws : List Nat, (∀ i ∈ ws, i ∈ vs) → wipe (wipe σ vs) ws = wipe σ vs := by
    intro ws
    induction ws with
    | nil => intro _; rfl
    | cons w ws ih =>
      intro h
      show (wipe (wipe σ vs) ws).set w none = wipe σ vs
      rw [ih (fun i hi => h i (List.mem_cons_of_mem _ hi)), wipe_none (h w (List.mem_cons_self ..))]
  exact key vs fun i h => h
/-- a comprehension that makes one value a turn -/
theorem lc_map {J : It} {n : Nat} {G : Hp → Prop} {Y : Nat → Hp → V → Hp → Prop} (w : Walk J n G Y) (Rl : Hp → Hp → Prop) (tr : ∀ {A B C}, Rl A B → Rl B C → Rl A C)
    (R : Nat → V → Hp → Prop) (st : ∀ i y A B, Rl A B → R i y A → R i y B) {g : TG} {t : TE} {vs : List Nat} {σ : L2.St} {H1 : Hp} {Qd : Addr → Hp → Prop} (hz : n < sizeLine)
    (rf : Rl H1 H1) (hG : ∀ F D acc, Rl H1 F → F D = none → G (upd F D (.lst acc)))
    (hs : ∀ i x D acc F H', i < n → H1 D = none → Rl H1 F → F D = none → Y i (upd F D (.lst acc)) x H' → ∀ B : L2.St → Hp → Prop, (∀ σ2 Fm, wipe σ2 vs = wipe σ vs → Fm D = none →
      (∀ Qt : VK, (∀ y F', Rl F F' → R i y F' → Qt y F') → t σ2 Fm Qt) → B σ2 (upd Fm D (.lst acc))) → g x (wipe σ vs) H' B)
    (hd : ∀ D ys F, H1 D = none → Rl H1 F → F D = none → ys.length = n → (∀ (i : Nat) y, ys[i]? = some y → R i y F) → Qd D (upd F D (.lst ys))) :
    ∀ D, H1 D = none → ∃ W : Nat → Nat → Hp → Prop, (∃ m, W 0 m (upd H1 D (.lst []))) ∧ ∀ i m H, W i m H →
      (J.stop i H ∧ Qd D H) ∨ (J.go i H ∧ ∃ Nx : Hp → Prop, (∀ H', Nx H' → ∃ m', m' < m ∧ W (i + 1) m' H') ∧ ∀ x H', J.yld i H x H' → g x (wipe σ vs) H' fun σ2 H2 => wipe σ2 vs = wipe σ vs ∧ tYes σ2 H2 fun b H3 =>
        if b = true then tHide t σ2 H3 fun y H4 => ∃ acc, H4 D = some (.lst acc) ∧ acc.length < sizeLine ∧ Nx (upd H4 D (.lst (acc ++ [y]))) else Nx H3) := by
  intro D nD
  refine lc_it w (fun i H => ∃ ys F, H = upd F D (.lst ys) ∧ F D = none ∧ Rl H1 F ∧ ys.length = i ∧ ∀ (j : Nat) y, ys[j]? = some y → R j y F) ⟨[], H1, rfl, nD, rf, rfl, fun j y e => by simp at e⟩ ?_ ?_ ?_
  · rintro i H _ ⟨ys, F, rfl, nF, rl, _, _⟩
    exact hG F D ys rl nF
  · rintro i x H H' hi ⟨ys, F, rfl, nF, rl, hl, hR⟩ hy
    refine hs i x D ys F H' hi nD rl nF hy _ fun σ2 Fm hw nm ht => ⟨hw, ?_⟩
    unfold tYes; dsimp only
    rw [if_pos rfl]
    refine ⟨D, ys, upd_same, ?_⟩
    rw [delH_upd nm]
    refine ht _ fun y F' rl' r nF' => ⟨ys, upd_same, by omega, ys ++ [y], F', upd_upd, nF', tr rl rl', by rw [List.length_append, hl]; rfl, fun j z e => ?_⟩
    by_cases hj : j < ys.length
    · rw [List.getElem?_append_left hj] at e
      exact st j z F F' rl' (hR j z e)
    · rw [List.getElem?_append_right (by omega)] at e
      have hj0 : j - ys.length = 0 := by
        rcases Nat.eq_zero_or_pos (j - ys.length) with q | q
        · exact q
        · rw [List.getElem?_eq_none (by simp; omega)] at e; cases e
      rw [hj0] at e
      have e' : y = z := by simpa using e
      have ej : j = i := by omega
      rw [← e', ej]; exact r
  · rintro H ⟨ys, F, rfl, nF, rl, hl, hR⟩
    exact hd D ys F nD rl nF hl hR
/-! ### what is walked: a list or a tuple -/
def iSeq (K : PySem.W.Frag) (tl : TE) : TI := fun σ H R => tl σ H fun x H1 => ∃ a xs, x = .ref a ∧ Sq2 K H1 a xs ∧ ∀ J, Walk J xs.length (fun H => (¬ SqT K H1 a xs → SqL K H1 a xs → SqL K H a xs) ∧ (SqT K H1 a xs → SqT K H a xs)) (YAt xs) → R J H1
theorem pi_seq {X : Cx} {tg l : Expr} {tl : TE} (hl : PE X l tl) : PI X tg l (iSeq X.K tl) := by
  refine ⟨fun pins s σ H R I h => ?_⟩
  refine thn (hl.run pins s σ H _ I h) fun v s1 ⟨x, H1, I1, r1, q1⟩ => ?_
  obtain ⟨a, xs, e, hq, q⟩ := q1
  subst e
  cases r1
  have fp : ∀ b ∈ [s1.heap.objs.size], FpOk X pins H1 b := fun b hb => by
    have e : b = s1.heap.objs.size := by simpa using hb
    subst e
    exact I1.fpOk (Nat.le_refl _) (I1.hok.fresh (Nat.le_refl _))
  by_cases hT : SqT X.K H1 a xs
  rotate_left
  · have hq : SqL X.K H1 a xs := hq.resolve_right hT
    obtain ⟨its, rv, p, hz⟩ := I1.list hq
    refine wpAny_pyIter_list p.isList ⟨s1.heap.objs.size, [s1.heap.objs.size], _, _, H1, rfl, I1.kept (t' := s1.toks) fun b o e => Heap.get?_push_of_some _ e, turn_list a _, ⟨_, Heap.get?_push_size _ rfl, rfl, rfl⟩, fp, q (Itl X.K a) ?_⟩
    exact (walk_list (K := X.K) (a := a) (xs := xs)).mono (fun H g => g.1 hT hq) fun i H x H' _ _ y => y
  · obtain ⟨its, rv, p, hz⟩ := I1.tuple hT
    refine wpAny_pyIter_tuple (show s1.heap.IsTuple a its.toArray from p) ⟨s1.heap.objs.size, [s1.heap.objs.size], _, _, H1, rfl, I1.kept (t' := s1.toks) fun b o e => Heap.get?_push_of_some _ e, turn_tuple a _, ⟨_, Heap.get?_push_size _ rfl, rfl, rfl⟩, fp, q (Itt X.K a) ?_⟩
    exact (walk_tup (K := X.K) (a := a) (xs := xs)).mono (fun H g => g.2 hT) fun i H x H' _ _ y => y
/-- a, b, .. = a list or a tuple -/
def gAny (K : PySem.W.Frag) (n : Nat) (t : TGs) : TG := fun v σ H Q => ∃ a xs, v = .ref a ∧ Sq2 K H a xs ∧ xs.length = n ∧ t xs σ H Q
theorem pg_any {X : Cx} {es : List Expr} {k : Nat} {pos : Pos} {t : TGs} {n : Nat} (hc : X.calm = true) (h : PGs X es t)
    (hn : (assignEach es X.env).length = n := by rfl) (hst : (assignEach es X.env).findIdx? (·.1) = none := by rfl) : PG X (.Tuple es k pos) (gAny X.K n t) := by
  refine ⟨fun pins s σ H v u Q I r hw => ?_⟩
  obtain ⟨a, xs, e, hq, hl, hw⟩ := hw
  rcases hq with hq | hq
  · exact (pg_unl hc h hn hst).run pins s σ H v u Q I r ⟨a, xs, e, hq, hl, hw⟩
  · exact (pg_tup hc h hn hst).run pins s σ H v u Q I r ⟨a, xs, e, hq, hl, hw⟩
end XL
namespace XL
open PySem PySem.Spec PyProof.Rows L2
/-! ### data without lists: it stands while tuples stand -/
structure Tp (H H' : Hp) : Prop where
  t : ∀ a xs, H a = some (.tup xs) → H' a = some (.tup xs)
  f : ∀ a o xs, H a = some (.frz o (.tup xs)) → H' a = some (.frz o (.tup xs))
theorem Tp.of {H H' : Hp} (s : Same H H') : Tp H H' := ⟨fun a xs e => s _ _ e, fun a o xs e => s _ _ e⟩
theorem Tp.trans {A B C : Hp} (p : Tp A B) (q : Tp B C) : Tp A C := ⟨fun a xs e => q.t _ _ (p.t _ _ e), fun a o xs e => q.f _ _ _ (p.f _ _ _ e)⟩
theorem Tp.upd {H : Hp} {a : Addr} {xs : List V} {o : HO} (h : H a = some (.lst xs)) : Tp H (upd H a o) :=
  ⟨fun b ys e => by rw [upd_ne (fun z => by rw [z, h] at e; cases e)]; exact e, fun b o' ys e => by rw [upd_ne (fun z => by rw [z, h] at e; cases e)]; exact e⟩
theorem Tp.sqT {K : PySem.W.Frag} {H H' : Hp} {a : Addr} {xs : List V} (p : Tp H H') (h : SqT K H a xs) : SqT K H' a xs := by
  rcases h with (h | ⟨o, h⟩) | h
  · exact .inl (.inl (p.t _ _ h))
  · exact .inl (.inr ⟨o, p.f _ _ _ h⟩)
  · exact .inr h
mutual
def noL : PyData → Bool
  | .list _ => false
  | .tuple ds => noLs ds
  | _ => true
def noLs : List PyData → Bool
  | [] => true
  | d :: ds => noL d && noLs ds
end
section
variable {K : PySem.W.Frag} {H H' : Hp}
mutual
theorem Dp.tp (p : Tp H H') : ∀ {v : V} (d : PyData), noL d = true → Dp K H v d → Dp K H' v d
  | _, .none, _, h => by cases h; exact .non
  | _, .bool b, _, h => by cases h; exact .bl b
  | _, .int i, _, h => by cases h; exact .int i
  | _, .str x, _, h => by cases h; exact .str x
  | _, .list ds, n, h => by simp [noL] at n
  | _, .tuple ds, n, h => by
    cases h with
    | tup hs ha => exact .tup (p.sqT hs) (DpAll.tp p ds (by simpa [noL] using n) ha)
  | _, .dict _, _, h => by cases h
theorem DpAll.tp (p : Tp H H') : ∀ {vs : List V} (ds : List PyData), noLs ds = true → DpAll K H vs ds → DpAll K H' vs ds
  | _, [], _, h => by cases h; exact .nil
  | _, d :: ds, n, h => by
    cases h with
    | cons h1 h2 =>
      rw [noLs, Bool.and_eq_true] at n
      exact .cons (Dp.tp p d n.1 h1) (DpAll.tp p ds n.2 h2)
end
end
/-! ### canals as data -/
abbrev Lk := Int × Int × Int × Int
def lkD (l : Lk) : PyData := .tuple [.int l.1, .int l.2.1, .int l.2.2.1, .int l.2.2.2]
structure Cn where
  r : Int
  b : Int
  ls : List Lk
def cnD (c : Cn) : PyData := .tuple [.int c.r, .int c.b, .tuple (c.ls.map lkD)]
structure okLk (r b : Int) (l : Lk) : Prop where
  a0 : 0 ≤ l.1
  a1 : l.1 < r
  c0 : 0 ≤ l.2.1
  c1 : l.2.1 < r
  x0 : 0 ≤ l.2.2.1
  x1 : l.2.2.1 < b
  y0 : 0 ≤ l.2.2.2
  y1 : l.2.2.2 < b
structure okCn (wide utmost : Nat) (c : Cn) : Prop where
  r1 : 1 ≤ c.r
  r2 : c.r ≤ wide
  b1 : 1 ≤ c.b
  b2 : c.b ≤ wide
  n : c.ls.length ≤ utmost
  l : ∀ l ∈ c.ls, okLk c.r c.b l
theorem noLs_lk : ∀ ls : List Lk, noLs (ls.map lkD) = true
  | [] => rfl
  | l :: ls => by rw [List.map_cons, noLs, noLs_lk ls]; rfl
theorem noL_cn (c : Cn) : noL (cnD c) = true := by
  show noLs [.int c.r, .int c.b, .tuple (c.ls.map lkD)] = true
  simp [noLs, noL, noLs_lk]
theorem lk_lay (l : Lk) : (lkD l).canLay0 = true := by simp [lkD, PyData.canLay0, PyData.canLayAll0]
theorem lk_depth (l : Lk) : (lkD l).depth = 1 := by simp [lkD, PyData.depth, PyData.depthAll]
theorem lks_lay : ∀ ls : List Lk, PyData.canLayAll0 (ls.map lkD) = true
  | [] => by simp [PyData.canLayAll0]
  | l :: ls => by simp [PyData.canLayAll0, lk_lay l, lks_lay ls]
theorem lks_depth : ∀ ls : List Lk, PyData.depthAll (ls.map lkD) ≤ 1
  | [] => by simp [PyData.depthAll]
  | l :: ls => by
    have h1 := lks_depth ls; have h2 := lk_depth l
    simp only [List.map_cons, PyData.depthAll]; omega
theorem lks_shaped (ls : List Lk) : SeqAt.shaped (.list (ls.map lkD)) = true := by
  have h1 := lks_depth ls
  have h2 : PyData.depth (.list (ls.map lkD)) ≤ 64 := by simp only [PyData.depth]; omega
  show (PyData.canLay0 (.list (ls.map lkD)) && decide (PyData.depth (.list (ls.map lkD)) ≤ 64)) = true
  rw [Bool.and_eq_true]; exact ⟨by simp only [PyData.canLay0]; exact lks_lay ls, decide_eq_true h2⟩
theorem nil_shaped : SeqAt.shaped (.list []) = true := lks_shaped []
theorem eqv_nil (ls : List Lk) : PyData.eqv (.list (ls.map lkD)) (.list []) = ls.isEmpty := by
  cases ls with
  | nil => simp [PyData.eqv, PyData.eqvAll]
  | cons l ls => simp [PyData.eqv, PyData.eqvAll]
end XL
namespace PySem
namespace XEn
open Sem (wp)
set_option maxHeartbeats 1000000 in
theorem meets_new1 {v : Value} {o : Obj} {H : Heap → Prop} (B : Begins v o H) :
    Meets (Builtin.«enumerate.__new__» ⟨[.type "enumerate", v], []⟩) (fun _ R s => H s.heap ∧
      R (.ok (.ret (.ref (s.heap.push o).objs.size))) { s with heap := (s.heap.push o).push { cls := .type "enumerate", data := .fields #[.none, .bool false, .ref s.heap.objs.size, rawInt 0, .none, .none] } }) :=
  .of_wp fun prog w A R s h => by
    obtain ⟨hp, g, d, tk, os⟩ := s; obtain ⟨h1, h⟩ := h
    have hsub := sub_enumerate
    have q1 : ∀ {A' : Around} {E : Value → Shared → Prop} {Q : Value → Shared → Prop}, Q (.ref hp.objs.size) ⟨hp.push o, g, d, tk, os⟩ → wpAny (model prog w) A' (pyIter v) Q E ⟨hp, g, d, tk, os⟩ :=
      fun q => B.iter prog w _ _ ⟨hp, g, d, tk, os⟩ _ h1 q
    wp_walk using q1
    refine wpAny_stack_any fun st => wpAny_pure ?_
    split
    · rename_i c _ _ _ _ _
      cases (c == Value.type "enumerate")
      · wp_walk using q1
        exact ⟨_, rfl, h⟩
      · wp_walk using q1
        exact ⟨_, rfl, h⟩
    · wp_walk using q1
      exact ⟨_, rfl, h⟩
section
variable {prog : Program} {w : World} {A : Around} {E : Value → Shared → Prop} {s : Shared}
theorem begins1 {v : Value} {o : Obj} {H : Heap → Prop} {Q : Value → Shared → Prop} (B : Begins v o H) (h1 : H s.heap)
    (h : ∀ h', IsEnum h' (s.heap.objs.size + 1) s.heap.objs.size 0 .none → h'.get? s.heap.objs.size = some o → h'.objs.size = s.heap.objs.size + 2 →
      (∀ b o, s.heap.get? b = some o → h'.get? b = some o) → Q (.ref (s.heap.objs.size + 1)) { s with heap := h' }) :
    wpAny (model prog w) A (call (.type "enumerate") [v]) Q E s := by
  refine callType_new F.called_enumerate (by decide) (F.typeCall_enumerate_1 _) (F.newCall_enumerate_1 _) (fun obj => F.args_object_init_2 obj _) F.entry_enumerate_new
    (meets_new1 B) ⟨h1, ?_⟩
  have hz : (s.heap.push o).objs.size = s.heap.objs.size + 1 := Heap.size_push ..
  show _ ∧ _
  rw [hz]
  have he : IsEnum ((s.heap.push o).push { cls := .type "enumerate", data := .fields #[.none, .bool false, .ref s.heap.objs.size, rawInt 0, .none, .none] }) (s.heap.objs.size + 1) s.heap.objs.size 0 .none := by
    have := Heap.get?_push_size (s.heap.push o) (o := { cls := .type "enumerate", data := .fields #[.none, .bool false, .ref s.heap.objs.size, rawInt 0, .none, .none] }) rfl
    rw [hz] at this; exact this
  refine ⟨⟨_, he, rfl⟩, h _ he (Heap.get?_push_of_some _ (Heap.get?_push_size _ B.free)) (by rw [Heap.size_push, hz]) fun b o x => Heap.get?_push_of_some _ (Heap.get?_push_of_some _ x)⟩
end
end XEn
end PySem
namespace XL
open PySem PySem.Spec PyProof.Rows L2
/-! ### enumerate(tuple) -/
def IteT (K : PySem.W.Frag) (a : Addr) : It :=
  ⟨fun i H => ∃ (xs : List V) (x : V), SqT K H a xs ∧ xs[i]? = some x, fun i H v H' => ∃ T x, v = .ref T ∧ H T = none ∧ H' = upd H T (.tup [.int (i : Nat), x]) ∧ ∀ xs, SqT K H a xs → xs[i]? = some x, fun i H => ∃ xs : List V, SqT K H a xs ∧ xs.length = i⟩
theorem tup_ne {h : Heap} {it a : Addr} {i : Nat} {its : Array Value} (h1 : h.IsTupleIter it a i) (h2 : h.IsTuple a its) : a ≠ it := fun z => by
  obtain ⟨o, e, c, d⟩ := h1
  obtain ⟨o', e', c', _⟩ := h2
  rw [z, e] at e'
  cases e'
  rw [c] at c'
  exact absurd c' (by decide)
theorem turn_enumT {P : Program} {w : World} {K : PySem.W.Frag} {elts : List Expr} {kk : Nat} {tpos : Pos} (a e it : Addr) :
    Turn P w K (.Tuple elts kk tpos) (IteT K a) [e, it] e (fun i h => (∃ old, IsEnum h e it ((i : Nat) : Int) old) ∧ h.IsTupleIter it a i ∧ e ≠ it) where
  mem := by simp
  obj := fun i h st b hb => by
    obtain ⟨⟨old, he⟩, ⟨o, ho, hc, hd⟩, _⟩ := st
    have e' : b = e ∨ b = it := by simpa using hb
    rcases e' with z | z
    · rw [z]; exact ⟨_, he, fun v q => nomatch q⟩
    · rw [z]; exact ⟨o, ho, fun v q => by rw [hd] at q; cases q⟩
  keep := fun i h h' st k => let ⟨⟨old, he⟩, hi, hne⟩ := st; ⟨⟨old, k e (by simp) _ he⟩, hi.at fun o q => k it (by simp) o q, hne⟩
  item := by
    intro X hP hw hK hc i pins s σ H E I hf st hg
    subst hP hw hK
    obtain ⟨⟨old, he⟩, hit, hne⟩ := st
    obtain ⟨xs, x, hq, hx⟩ := hg
    obtain ⟨its, rv, p, hz⟩ := I.tuple hq
    have p' : s.heap.IsTuple a its.toArray := p
    obtain ⟨u, hu, ru⟩ := rv.get hx
    have hel : e < s.heap.objs.size := Heap.lt_size he
    have hil : it < s.heap.objs.size := by obtain ⟨_, q, _⟩ := hit; exact Heap.lt_size q
    have hai := tup_ne hit p'
    have hae : e ∉ [it, a] := by
      intro z
      have z' : e = it ∨ e = a := by simpa using z
      rcases z' with z | z
      · exact hne z
      · obtain ⟨o', e', c', _⟩ := p'
        rw [← z, he] at e'
        cases e'
        exact absurd (show Value.type "enumerate" = Value.type "tuple" from c') (by decide)
    have hi : i < its.toArray.size := by
      rw [List.size_toArray]
      rcases Nat.lt_or_ge i its.length with q | q
      · exact q
      · rw [List.getElem?_eq_none q] at hu; cases hu
    refine wpAny_pyNext_enum_itemD (Draws.tuple (A := X.A.in1) (I.ok.hd hc) it a hai its.toArray) he ⟨hit, p'⟩ hi hne hae fun u' h' tk hu' ho hit' hT hsz hk => ?_
    have eu : u' = u := by
      have h1 : its.toArray[i]? = some u' := hu'
      rw [List.getElem?_toArray, hu] at h1
      exact (Option.some.inj h1).symm
    subst eu
    refine ⟨_, rfl, wpAny_letOwnedTupleGo_enum (s := { s with heap := h', toks := tk + 1 }) ho fun h'' he' sb => ?_⟩
    have hT2 : h''.get? s.heap.objs.size = some { cls := .type "tuple", data := .seq #[.int i tk, u'] } := (sb.2 _ (Nat.ne_of_gt hel)).trans hT
    have new : ObjOk X.prog X.w (upd H s.heap.objs.size (.tup [.int (i : Nat), x])) h'' s.heap.objs.size (.tup [.int (i : Nat), x]) :=
      ⟨by show 2 ≤ sizeLine; decide, [.int i tk, u'], .cons ⟨_, rfl⟩ (.cons ru .nil), ⟨_, hT2, rfl, _, rfl⟩⟩
    have I1 : Inv X pins σ (upd H s.heap.objs.size (.tup [.int (i : Nat), x])) { s with heap := h'', toks := tk + 1 } :=
      I.turnedNew (ch := [e, it]) (fun b ob hb q => (sb.2 b (fun z => hb (by simp [z]))).trans (hk b ob (fun z => hb (by simp [z])) (fun z => hb (by simp [z])) q)) hf (Nat.le_refl _) new
    refine ⟨.ref s.heap.objs.size, _, I1, rfl, ⟨_, x, rfl, I.hok.fresh (Nat.le_refl _), rfl, fun ys hy => by rw [I.tuple_inj hy hq]; exact hx⟩, ⟨⟨u', ?_⟩, hit'.1.at fun o q => (sb.2 it (Ne.symm hne)).trans q, hne⟩, fun b hb => ?_⟩
    · have e1 : ((i + 1 : Nat) : Int) = (i : Int) + 1 := by omega
      rw [e1]; exact he'
    · have hb' : b < s.heap.objs.size := by
        have e' : b = e ∨ b = it := by simpa using hb
        rcases e' with z | z
        · rw [z]; exact hel
        · rw [z]; exact hil
      rw [upd_ne (Nat.ne_of_lt hb')]
      exact (hf b hb).1
  done := by
    intro X hP hw hK hc i pins s σ H E I hf st hg
    subst hP hw hK
    obtain ⟨⟨old, he⟩, hit, hne⟩ := st
    obtain ⟨xs, hq, hx⟩ := hg
    obtain ⟨its, rv, p, hz⟩ := I.tuple hq
    have p' : s.heap.IsTuple a its.toArray := p
    obtain ⟨f0, f1, f2, f3, f4, f5⟩ := hf it (by simp)
    have hl := rv.length
    have hn : i = its.toArray.size := by rw [List.size_toArray]; omega
    subst hn
    exact wpAny_pyNext_enum_endD (Draws.tuple (A := X.A.in1) (I.ok.hd hc) it a (tup_ne hit p') its.toArray) he ⟨hit, p'⟩ fun h' eb => ⟨rfl, I.turned (t' := s.toks) (fun b o hb q => eb b o hb q) f0 f1 f3 f4 f5⟩
  self := fun A i s Q E st h => let ⟨⟨_, he⟩, _⟩ := st; wpAny_pyIter_enum he h
theorem walk_enumT {K : PySem.W.Frag} {a : Addr} {xs : List V} : Walk (IteT K a) xs.length (fun H => SqT K H a xs) (YPair (fun i => some (.int (i : Nat))) (fun i => xs[i]?)) := by
  refine ⟨fun i _ hi q => ⟨xs, xs[i], q, by simp [hi]⟩, fun _ q => ⟨xs, q, rfl⟩, fun i H v H' _ q y => ?_⟩
  obtain ⟨T, x, h1, h2, h3, h4⟩ := y
  exact ⟨T, .int (i : Nat), x, h1, h2, h3, rfl, h4 xs q⟩
def iEnumT (K : PySem.W.Frag) (ta : TA) : TI := fun σ H R => ta σ H fun vs H1 => ∃ a xs, vs = [.ref a] ∧ SqT K H1 a xs ∧ R (IteT K a) H1
theorem pi_enumT {X : Cx} {e : Expr} {ta : TA} {p pos tpos : Pos} {elts : List Expr} {kk : Nat} (hg : Gl X "enumerate") (hm : X.mg "enumerate" = none) (ha : PA X [e] ta) (hs : starEach [e] X.env = [(false, eval e X.env)] := by rfl) :
    PI X (.Tuple elts kk tpos) (.Call (.Name "enumerate" p) [e] [] pos) (iEnumT X.K ta) := by
  refine ⟨fun pins s σ H R I h => ?_⟩
  refine Call_ (ld_blt I hg hm boot_enumerate (PyProof.Rows.callWith_type1 (thn (ha.run pos pins s σ H _ I h) fun us s1 ⟨vs, H1, I1, r1, q1⟩ => ?_) hs rfl))
  obtain ⟨a, xs, ex, hq, q⟩ := q1
  subst ex
  cases r1 with
  | cons r rr =>
    cases rr
    cases r
    obtain ⟨its, rv, p', hz⟩ := I1.tuple hq
    refine PySem.XEn.begins1 (begins_tuple a its.toArray) (show s1.heap.IsTuple a its.toArray from p') fun h' he hit hsz hk => wpAny_pyIter_enum he ?_
    have I2 : Inv X pins σ H1 { s1 with heap := h' } := I1.kept (t' := s1.toks) hk
    refine ⟨s1.heap.objs.size + 1, [s1.heap.objs.size + 1, s1.heap.objs.size], _, _, H1, rfl, I2, turn_enumT a (s1.heap.objs.size + 1) s1.heap.objs.size, ⟨⟨.none, he⟩, ⟨_, hit, rfl, rfl⟩, Nat.succ_ne_self _⟩, fun b hb => ?_, q⟩
    have e' : b = s1.heap.objs.size + 1 ∨ b = s1.heap.objs.size := by simpa using hb
    have hle : s1.heap.objs.size ≤ b := by
      rcases e' with z | z
      · rw [z]; exact Nat.le_add_right _ _
      · rw [z]; exact Nat.le_refl _
    exact I1.fpOk hle (I1.hok.fresh hle)
end XL
namespace XL
open PySem PySem.Spec PyProof.Rows L2
/-! ### small words that all laws want -/
theorem at_s {T : L2.St → Hp → Prop} {σ σ' : L2.St} {H : Hp} (e : σ = σ') (h : T σ' H) : T σ H := e ▸ h
theorem at_g {i : Nat} {x : V} {σ σ' : L2.St} {H : Hp} {N : L2.St → Hp → Prop} (e : σ.set i (some x) = σ') (h : N σ' H) : gName i x σ H N := by
  subst e; exact h
/-- a heap by what is known of it -/
theorem at_h {T : L2.St → Hp → Prop} {σ : L2.St} {H : Hp} (Pf : Hp → Prop) (hp : Pf H) (h : ∀ G, Pf G → T σ G) : T σ H := h H hp
structure Fns (P : Program) (w : World) (K : PySem.W.Frag) (mg : Str → Option Value) (base : Heap) (n : Nat) (name : Str) (ps : List Str) (sp : Sp) (f : Addr) (fd : FuncData) : Prop where
  ok : FnOk P w K mg base CX0 n f fd ps sp
  g : mg name = some (.ref f)
  k : PySem.W.keepIn K (.ref f) = true
  b : Binds K fd ps []
theorem pe_fn {X : Cx} {n : Nat} {name : Str} {ps : List Str} {sp : Sp} {f : Addr} {fd : FuncData} {p pos : Pos} {e : Expr} {es : List Expr} {t : TA} (F : Fns X.prog X.w X.K X.mg X.base n name ps sp f fd) (hr : Room n X.A) (hg : Gl X name) (ha : PA X (e :: es) t)
    (hdb : (name == ("__debug__" : Str)) = false := by decide) (he : starEach (e :: es) X.env = (false, eval e X.env) :: starEach es X.env := by rfl) (hpl : (backTo pos (starEach es X.env)).any (·.1) = false := by rfl) (hx : Passes CX0 X E0 := by exact pass0) :
    PE X (.Call (.Name name p) (e :: es) [] pos) (tCall sp [] E0 t) := pe_call F.ok hr hg F.g F.k F.b .nil hx ha hdb he hpl
theorem room65 {k : Nat} {A : Around} (r : Room k A) : A.units + 65 < cLine := by have := r.un; omega
/-- an item of a list or a tuple -/
def rIxA (K : PySem.W.Frag) : R2 := fun x y H Q => ∃ p xs i v, x = .ref p ∧ y = .int i ∧ Sq2 K H p xs ∧ atI xs i = some v ∧ Q v H
theorem ix_any {X : Cx} : IxR X (rIxA X.K) := by
  intro value slice pins s σ H x y v u Q I rx ry h hs
  obtain ⟨p, xs, i, z, e1, e2, hq, he, q⟩ := h
  rcases hq with hq | hq
  · exact ix_list value slice pins s σ H x y v u Q I rx ry ⟨p, xs, i, z, e1, e2, hq, he, q⟩ hs
  · exact ix_tup value slice pins s σ H x y v u Q I rx ry ⟨p, xs, i, z, e1, e2, hq, he, q⟩ hs
/-! ### built-ins over lists and tuples, their relations by name (within comprehensions they are given by hand) -/
def rLenA (K : PySem.W.Frag) : List V → Hp → VK → Prop := fun xs H Q => ∃ p ys, xs = [.ref p] ∧ (SqL K H p ys ∨ SqT K H p ys) ∧ Q (.int ys.length) H
theorem call_lenA {X : Cx} : CallR X (.builtin "len") (rLenA X.K) := call_len_seq
def rLstA (K : PySem.W.Frag) : List V → Hp → VK → Prop := fun xs H Q => ∃ p ys, xs = [.ref p] ∧ (SqL K H p ys ∨ SqT K H p ys) ∧ ∀ l, H l = none → Q (.ref l) (upd H l (.lst ys))
theorem call_listA {X : Cx} : CallR X (.type "list") (rLstA X.K) := call_list_of
def rTupA (K : PySem.W.Frag) : List V → Hp → VK → Prop := fun xs H Q => ∃ p ys, xs = [.ref p] ∧ ((SqL K H p ys ∧ ∀ l, H l = none → Q (.ref l) (upd H l (.tup ys))) ∨ SqT K H p ys ∧ Q (.ref p) H)
theorem call_tupleA {X : Cx} : CallR X (.type "tuple") (rTupA X.K) := call_tuple_of
/-- a comprehension, by an invariant over all that was made so far -/
theorem lc_acc {J : It} {n : Nat} {G : Hp → Prop} {Y : Nat → Hp → V → Hp → Prop} (w : Walk J n G Y) (Iv : Nat → List V → Hp → Prop) {g : TG} {t : TE} {vs : List Nat} {σ : L2.St} {H1 : Hp} {Qd : Addr → Hp → Prop} (hz : n < sizeLine)
    (h0 : Iv 0 [] H1) (hG : ∀ i F D acc, Iv i acc F → F D = none → G (upd F D (.lst acc)))
    (hs : ∀ i x D acc F H', i < n → H1 D = none → Iv i acc F → F D = none → Y i (upd F D (.lst acc)) x H' → ∀ B : L2.St → Hp → Prop, (∀ σ2 Fm, wipe σ2 vs = wipe σ vs → Fm D = none →
      (∀ Qt : VK, (∀ y F', Iv (i + 1) (acc ++ [y]) F' → Qt y F') → t σ2 Fm Qt) → B σ2 (upd Fm D (.lst acc))) → g x (wipe σ vs) H' B)
    (hd : ∀ D ys F, H1 D = none → Iv n ys F → F D = none → ys.length = n → Qd D (upd F D (.lst ys))) :
    ∀ D, H1 D = none → ∃ W : Nat → Nat → Hp → Prop, (∃ m, W 0 m (upd H1 D (.lst []))) ∧ ∀ i m H, W i m H →
      (J.stop i H ∧ Qd D H) ∨ (J.go i H ∧ ∃ Nx : Hp → Prop, (∀ H', Nx H' → ∃ m', m' < m ∧ W (i + 1) m' H') ∧ ∀ x H', J.yld i H x H' → g x (wipe σ vs) H' fun σ2 H2 => wipe σ2 vs = wipe σ vs ∧ tYes σ2 H2 fun b H3 =>
        if b = true then tHide t σ2 H3 fun y H4 => ∃ acc, H4 D = some (.lst acc) ∧ acc.length < sizeLine ∧ Nx (upd H4 D (.lst (acc ++ [y]))) else Nx H3) := by
  intro D nD
  refine lc_it w (fun i H => ∃ ys F, H = upd F D (.lst ys) ∧ F D = none ∧ Iv i ys F ∧ ys.length = i) ⟨[], H1, rfl, nD, h0, rfl⟩ ?_ ?_ ?_
  · rintro i H _ ⟨ys, F, rfl, nF, iv, _⟩
    exact hG i F D ys iv nF
  · rintro i x H H' hi ⟨ys, F, rfl, nF, iv, hl⟩ hy
    refine hs i x D ys F H' hi nD iv nF hy _ fun σ2 Fm hw nm ht => ⟨hw, ?_⟩
    unfold tYes; dsimp only
    rw [if_pos rfl]
    refine ⟨D, ys, upd_same, ?_⟩
    rw [delH_upd nm]
    exact ht _ fun y F' iv' nF' => ⟨ys, upd_same, by omega, ys ++ [y], F', upd_upd, nF', iv', by rw [List.length_append, hl]; rfl⟩
  · rintro H ⟨ys, F, rfl, nF, iv, hl⟩
    exact hd D ys F nD iv nF hl
/-! ### calls by keywords alone: one, two in their order or turned -/
def g1 : List α → List α → List α
  | [], [x] => [x]
  | _, _ => []
def g2 : List α → List α → List α
  | [], [x, y] => [y, x]
  | _, _ => []
section
variable {K : PySem.W.Frag}
theorem kb1 {x qual p : Str} {st : Stmt} {f : Addr} {fd : FuncData} (F : Fun K x qual st f fd)
    (h : ∀ (kV doc pm : Value) (an : Option Addr) (cdv ct v : Value), bindArgs (PySem.W.fnOf x qual (defArgs st) (defBody st) (defScope st) .none kV doc pm an cdv ct) ⟨[], [(p, v)]⟩ = pure [(p, v)]) : KBinds K fd [p] [p] g1 g1 := by
  obtain ⟨oc, od, kV, doc, pm, an, cdv, ct, osl, rfl, lk, hcd⟩ := F.ex
  refine ⟨fun s us ws _ hl => ?_, fun {vs us zs ws} r1 r2 => ?_⟩
  · match us, ws, hl with
    | [], [v], _ => exact .of_eq (h kV doc pm an cdv ct v)
  · cases r1 with
    | nil =>
      cases r2 with
      | nil => exact .nil
      | cons a r =>
        cases r with
        | nil => exact .cons a .nil
        | cons _ _ => exact .nil
    | cons _ _ => exact .nil
theorem kb2 {x qual p q : Str} {st : Stmt} {f : Addr} {fd : FuncData} (F : Fun K x qual st f fd)
    (h : ∀ (kV doc pm : Value) (an : Option Addr) (cdv ct v u : Value), bindArgs (PySem.W.fnOf x qual (defArgs st) (defBody st) (defScope st) .none kV doc pm an cdv ct) ⟨[], [(q, v), (p, u)]⟩ = pure [(p, u), (q, v)]) : KBinds K fd [p, q] [q, p] g2 g2 := by
  obtain ⟨oc, od, kV, doc, pm, an, cdv, ct, osl, rfl, lk, hcd⟩ := F.ex
  refine ⟨fun s us ws _ hl => ?_, fun {vs us zs ws} r1 r2 => ?_⟩
  · match us, ws, hl with
    | [], [v, u], _ => exact .of_eq (h kV doc pm an cdv ct v u)
  · cases r1 with
    | nil =>
      cases r2 with
      | nil => exact .nil
      | cons a r =>
        cases r with
        | nil => exact .nil
        | cons a2 r =>
          cases r with
          | nil => exact .cons a2 (.cons a .nil)
          | cons _ _ => exact .nil
    | cons _ _ => exact .nil
/-- three, turned -/
def g3r {α : Type} : List α → List α → List α
  | [], [x, y, z] => [z, y, x]
  | _, _ => []
theorem kb3r {x qual p q r : Str} {st : Stmt} {f : Addr} {fd : FuncData} (F : Fun K x qual st f fd)
    (h : ∀ (kV doc pm : Value) (an : Option Addr) (cdv ct v u z : Value), bindArgs (PySem.W.fnOf x qual (defArgs st) (defBody st) (defScope st) .none kV doc pm an cdv ct) ⟨[], [(r, v), (q, u), (p, z)]⟩ = pure [(p, z), (q, u), (r, v)]) : KBinds K fd [p, q, r] [r, q, p] g3r g3r := by
  obtain ⟨oc, od, kV, doc, pm, an, cdv, ct, osl, rfl, lk, hcd⟩ := F.ex
  refine ⟨fun s us ws _ hl => ?_, fun {vs us zs ws} r1 r2 => ?_⟩
  · match us, ws, hl with
    | [], [v, u, z], _ => exact .of_eq (h kV doc pm an cdv ct v u z)
  · cases r1 with
    | nil =>
      cases r2 with
      | nil => exact .nil
      | cons a r =>
        cases r with
        | nil => exact .nil
        | cons a2 r =>
          cases r with
          | nil => exact .nil
          | cons a3 r =>
            cases r with
            | nil => exact .cons a3 (.cons a2 (.cons a .nil))
            | cons _ _ => exact .nil
    | cons _ _ => exact .nil
end
end XL
namespace XL
open PySem PySem.Spec PyProof.Rows L2
/-! ### displays of numbers as data -/
def tDat (K : PySem.W.Frag) (f : L2.St → Option PyData) : TE := fun σ H Q => ∃ d, f σ = some d ∧ ∀ v H', Same H H' → Dp K H' v d → Q v H'
def tDats (K : PySem.W.Frag) (f : L2.St → Option (List PyData)) : TA := fun σ H Q => ∃ ds, f σ = some ds ∧ ∀ vs H', Same H H' → vs.length = ds.length → DpAll K H' vs ds → Q vs H'
def dV (i : Nat) : L2.St → Option PyData := fun σ => match σ[i]? with
  | some (some (.int z)) => some (.int z)
  | _ => none
def dC (d : PyData) : L2.St → Option PyData := fun _ => some d
def dOp (ok : Int → Int → Bool) (op : Int → Int → Int) (f g : L2.St → Option PyData) : L2.St → Option PyData := fun σ => match f σ, g σ with
  | some (.int x), some (.int y) => if ok x y = true then some (.int (op x y)) else none
  | _, _ => none
def dNil : L2.St → Option (List PyData) := fun _ => some []
def dCons (f : L2.St → Option PyData) (g : L2.St → Option (List PyData)) : L2.St → Option (List PyData) := fun σ => match f σ, g σ with
  | some d, some ds => some (d :: ds)
  | _, _ => none
def dTup (g : L2.St → Option (List PyData)) : L2.St → Option PyData := fun σ => match g σ with
  | some ds => if ds.length ≤ 1000 then some (.tuple ds) else none
  | none => none
def dLst (g : L2.St → Option (List PyData)) : L2.St → Option PyData := fun σ => match g σ with
  | some ds => if ds.length ≤ 1000 then some (.list ds) else none
  | none => none
theorem PEd.imp {X : Cx} {e : Expr} {t t' : TE} (h : PE X e t) (i : ∀ σ H Q, t' σ H Q → t σ H Q) : PE X e t' := ⟨fun pins s σ H Q I q => h.run pins s σ H Q I (i σ H Q q)⟩
theorem PAd.imp {X : Cx} {es : List Expr} {t t' : TA} (h : PA X es t) (i : ∀ σ H Q, t' σ H Q → t σ H Q) : PA X es t' := ⟨fun pos pins s σ H Q I q => h.run pos pins s σ H Q I (i σ H Q q)⟩
theorem dp_intV {K : PySem.W.Frag} {H : Hp} {v : V} {x : Int} (h : Dp K H v (.int x)) : v = .int x := by cases h; rfl
section
variable {X : Cx} {e a b : Expr} {es : List Expr} {k : Nat} {pos : Pos} {f g : L2.St → Option PyData} {h : L2.St → Option (List PyData)}
theorem pe_dV {i : Nat} (h : PE X e (tVar i)) : PE X e (tDat X.K (dV i)) := PEd.imp h fun σ H Q q => by
  obtain ⟨d, e1, q⟩ := q
  unfold dV at e1
  split at e1
  · rename_i z e2
    obtain rfl := Option.some.inj e1
    exact ⟨_, e2, q _ _ (Same.refl _) (.int _)⟩
  · cases e1
theorem pe_dInt {i : Int} {j : Nat} : PE X (.Constant (.int i) j pos) (tDat X.K (dC (.int i))) := PEd.imp pe_int fun σ H Q q => by
  obtain ⟨d, e1, q⟩ := q
  obtain rfl := Option.some.inj e1
  exact q _ _ (Same.refl _) (.int _)
theorem pe_dNon {j : Nat} : PE X (.Constant .none j pos) (tDat X.K (dC .none)) := PEd.imp pe_non fun σ H Q q => by
  obtain ⟨d, e1, q⟩ := q
  obtain rfl := Option.some.inj e1
  exact q _ _ (Same.refl _) .non
theorem pe_dOp {op : Operator} {r : R2} {ok : Int → Int → Bool} {fo : Int → Int → Int} (hr : OpR X (binaryOp op) r) (hq : ∀ x y H Q, ok x y = true → Q (.int (fo x y)) H → r (.int x) (.int y) H Q) (h1 : PE X a (tDat X.K f)) (h2 : PE X b (tDat X.K g)) : PE X (.BinOp a op b pos) (tDat X.K (dOp ok fo f g)) := PEd.imp (pe_op hr h1 h2) fun σ H Q q => by
  obtain ⟨d, e1, q⟩ := q
  unfold dOp at e1
  split at e1
  · rename_i x y ef eg
    split at e1
    · rename_i hok
      obtain rfl := Option.some.inj e1
      refine ⟨_, ef, fun v H1 s1 p1 => ⟨_, eg, fun u H2 s2 p2 => ?_⟩⟩
      obtain rfl := dp_intV p1
      obtain rfl := dp_intV p2
      exact hq _ _ _ _ hok (q _ _ (s1.trans s2) (.int _))
    · cases e1
  · cases e1
theorem pe_dAdd (h1 : PE X a (tDat X.K f)) (h2 : PE X b (tDat X.K g)) : PE X (.BinOp a .Add b pos) (tDat X.K (dOp (fun _ _ => true) (· + ·) f g)) := pe_dOp op_add (fun x y H Q _ q => ⟨_, _, rfl, rfl, q⟩) h1 h2
theorem pe_dSub (h1 : PE X a (tDat X.K f)) (h2 : PE X b (tDat X.K g)) : PE X (.BinOp a .Sub b pos) (tDat X.K (dOp (fun _ _ => true) (· - ·) f g)) := pe_dOp op_sub (fun x y H Q _ q => ⟨_, _, rfl, rfl, q⟩) h1 h2
theorem pe_dMul (h1 : PE X a (tDat X.K f)) (h2 : PE X b (tDat X.K g)) : PE X (.BinOp a .Mult b pos) (tDat X.K (dOp (fun x _ => decide (-1000 < x) && decide (x < 1000)) (· * ·) f g)) := pe_dOp op_mul (fun x y H Q ok q => ⟨_, _, rfl, rfl, .inl (by
  rw [Bool.and_eq_true] at ok
  have h1 := of_decide_eq_true ok.1
  have h2 := of_decide_eq_true ok.2
  constructor <;> omega), q⟩) h1 h2
theorem pa_dNil : PA X [] (tDats X.K dNil) := PAd.imp pa_nil fun σ H Q q => by
  obtain ⟨d, e1, q⟩ := q
  obtain rfl := Option.some.inj e1
  exact q _ _ (Same.refl _) rfl .nil
theorem pa_dCons (h1 : PE X e (tDat X.K f)) (h2 : PA X es (tDats X.K h)) (hs : starEach (e :: es) X.env = (false, eval e X.env) :: starEach es X.env := by rfl) : PA X (e :: es) (tDats X.K (dCons f h)) := PAd.imp (pa_cons h1 h2 hs) fun σ H Q q => by
  obtain ⟨d, e1, q⟩ := q
  unfold dCons at e1
  split at e1
  · rename_i x xs ef eg
    obtain rfl := Option.some.inj e1
    exact ⟨_, ef, fun v H1 s1 p1 => ⟨_, eg, fun vs H2 s2 l2 p2 => q _ _ (s1.trans s2) (by simp [l2]) (.cons (Dp.same s2 _ p1) p2)⟩⟩
  · cases e1
theorem pe_dTup (h1 : PA X es (tDats X.K h)) : PE X (.Tuple es k pos) (tDat X.K (dTup h)) := PEd.imp (pe_tup h1) fun σ H Q q => by
  obtain ⟨d, e1, q⟩ := q
  unfold dTup at e1
  split at e1
  · rename_i ds eg
    split at e1
    · rename_i hl
      obtain rfl := Option.some.inj e1
      exact ⟨_, eg, fun vs H1 s1 l1 p1 => ⟨by rw [l1]; exact Nat.le_of_lt (small1000 hl), fun p np => q (.ref p) _ (s1.trans (same_new np)) (.tup (.inl (.inl upd_same)) (DpAll.same (same_new np) _ p1))⟩⟩
    · cases e1
  · cases e1
theorem pe_dLst (h1 : PA X es (tDats X.K h)) : PE X (.List es pos) (tDat X.K (dLst h)) := PEd.imp (pe_lst h1) fun σ H Q q => by
  obtain ⟨d, e1, q⟩ := q
  unfold dLst at e1
  split at e1
  · rename_i ds eg
    split at e1
    · rename_i hl
      obtain rfl := Option.some.inj e1
      exact ⟨_, eg, fun vs H1 s1 l1 p1 => ⟨by rw [l1]; exact Nat.le_of_lt (small1000 hl), fun p np => q (.ref p) _ (s1.trans (same_new np)) (.lst (SqL.of upd_same) (DpAll.same (same_new np) _ p1))⟩⟩
    · cases e1
  · cases e1
end
end XL
namespace XL
open PySem PySem.Spec PyProof.Rows L2
def dNeg (f : L2.St → Option PyData) : L2.St → Option PyData := fun σ => match f σ with
  | some (.int x) => some (.int (-x))
  | _ => none
section
variable {X : Cx} {a : Expr} {pos : Pos} {f : L2.St → Option PyData}
theorem pe_dNeg (h1 : PE X a (tDat X.K f)) : PE X (.UnaryOp .USub a pos) (tDat X.K (dNeg f)) := PEd.imp (pe_un un_neg h1) fun σ H Q q => by
  obtain ⟨d, e1, q⟩ := q
  unfold dNeg at e1
  split at e1
  · rename_i x ef
    obtain rfl := Option.some.inj e1
    refine ⟨_, ef, fun v H1 s1 p1 => ?_⟩
    obtain rfl := dp_intV p1
    exact ⟨_, rfl, q _ _ s1 (.int _)⟩
  · cases e1
theorem pe_dStr {x : Str} {j : Nat} : PE X (.Constant (.str x) j pos) (tDat X.K (dC (.str x))) := PEd.imp pe_str fun σ H Q q => by
  obtain ⟨d, e1, q⟩ := q
  obtain rfl := Option.some.inj e1
  exact q _ _ (Same.refl _) (.str _)
end
end XL
namespace XL
open PySem PySem.Spec PyProof.Rows L2
/-! ### displays whose lists are new -/
/-- what stands in H', but for the lists that stood in H -/
def frh (H H' : Hp) : Hp := fun b => match H b with
  | some (.lst _) => none
  | _ => H' b
theorem frh_sub {H H' : Hp} : Same (frh H H') H' := fun b o e => by
  unfold frh at e
  split at e
  · cases e
  · exact e
theorem frh_same {H H1 H2 : Hp} (s : Same H1 H2) : Same (frh H H1) (frh H H2) := fun b o e => by
  unfold frh at e ⊢
  split at e
  · cases e
  · exact s _ _ e
theorem frh_less {H H1 H2 : Hp} (s : Same H H1) : Same (frh H1 H2) (frh H H2) := fun b o e => by
  unfold frh at e ⊢
  split at e
  · cases e
  · rename_i h
    split
    · rename_i xs h2
      exact absurd (s _ _ h2) (h xs)
    · exact e
theorem frh_new {H H' : Hp} {p : Addr} {o : HO} (n : H p = none) : (frh H (upd H' p o)) p = some o := by
  unfold frh
  rw [n]
  exact upd_same
def tDatN (K : PySem.W.Frag) (f : L2.St → Option PyData) : TE := fun σ H Q => ∃ d, f σ = some d ∧ ∀ v H', Same H H' → Dp K (frh H H') v d → Q v H'
def tDatsN (K : PySem.W.Frag) (f : L2.St → Option (List PyData)) : TA := fun σ H Q => ∃ ds, f σ = some ds ∧ ∀ vs H', Same H H' → vs.length = ds.length → DpAll K (frh H H') vs ds → Q vs H'
section
variable {X : Cx} {e a b : Expr} {es : List Expr} {k : Nat} {pos : Pos} {f g : L2.St → Option PyData} {h : L2.St → Option (List PyData)}
theorem pe_nV {i : Nat} (h : PE X e (tVar i)) : PE X e (tDatN X.K (dV i)) := PEd.imp h fun σ H Q q => by
  obtain ⟨d, e1, q⟩ := q
  unfold dV at e1
  split at e1
  · rename_i z e2
    obtain rfl := Option.some.inj e1
    exact ⟨_, e2, q _ _ (Same.refl _) (.int _)⟩
  · cases e1
theorem pe_nInt {i : Int} {j : Nat} : PE X (.Constant (.int i) j pos) (tDatN X.K (dC (.int i))) := PEd.imp pe_int fun σ H Q q => by
  obtain ⟨d, e1, q⟩ := q
  obtain rfl := Option.some.inj e1
  exact q _ _ (Same.refl _) (.int _)
theorem pe_nNon {j : Nat} : PE X (.Constant .none j pos) (tDatN X.K (dC .none)) := PEd.imp pe_non fun σ H Q q => by
  obtain ⟨d, e1, q⟩ := q
  obtain rfl := Option.some.inj e1
  exact q _ _ (Same.refl _) .non
theorem pe_nOp {op : Operator} {r : R2} {ok : Int → Int → Bool} {fo : Int → Int → Int} (hr : OpR X (binaryOp op) r) (hq : ∀ x y H Q, ok x y = true → Q (.int (fo x y)) H → r (.int x) (.int y) H Q) (h1 : PE X a (tDatN X.K f)) (h2 : PE X b (tDatN X.K g)) : PE X (.BinOp a op b pos) (tDatN X.K (dOp ok fo f g)) := PEd.imp (pe_op hr h1 h2) fun σ H Q q => by
  obtain ⟨d, e1, q⟩ := q
  unfold dOp at e1
  split at e1
  · rename_i x y ef eg
    split at e1
    · rename_i hok
      obtain rfl := Option.some.inj e1
      refine ⟨_, ef, fun v H1 s1 p1 => ⟨_, eg, fun u H2 s2 p2 => ?_⟩⟩
      obtain rfl := dp_intV p1
      obtain rfl := dp_intV p2
      exact hq _ _ _ _ hok (q _ _ (s1.trans s2) (.int _))
    · cases e1
  · cases e1
theorem pe_nAdd (h1 : PE X a (tDatN X.K f)) (h2 : PE X b (tDatN X.K g)) : PE X (.BinOp a .Add b pos) (tDatN X.K (dOp (fun _ _ => true) (· + ·) f g)) := pe_nOp op_add (fun x y H Q _ q => ⟨_, _, rfl, rfl, q⟩) h1 h2
theorem pe_nSub (h1 : PE X a (tDatN X.K f)) (h2 : PE X b (tDatN X.K g)) : PE X (.BinOp a .Sub b pos) (tDatN X.K (dOp (fun _ _ => true) (· - ·) f g)) := pe_nOp op_sub (fun x y H Q _ q => ⟨_, _, rfl, rfl, q⟩) h1 h2
theorem pe_nMul (h1 : PE X a (tDatN X.K f)) (h2 : PE X b (tDatN X.K g)) : PE X (.BinOp a .Mult b pos) (tDatN X.K (dOp (fun x _ => decide (-1000 < x) && decide (x < 1000)) (· * ·) f g)) := pe_nOp op_mul (fun x y H Q ok q => ⟨_, _, rfl, rfl, .inl (by
  rw [Bool.and_eq_true] at ok
  have h1 := of_decide_eq_true ok.1
  have h2 := of_decide_eq_true ok.2
  constructor <;> omega), q⟩) h1 h2
theorem pe_nPow (h1 : PE X a (tDatN X.K f)) (h2 : PE X b (tDatN X.K g)) : PE X (.BinOp a .Pow b pos) (tDatN X.K (dOp (fun x y => decide (x = 10) && (decide (0 ≤ y) && decide (y ≤ 20))) (fun i j => i ^ j.toNat) f g)) := pe_nOp op_pow (fun x y H Q ok q => ⟨_, _, rfl, rfl, by
  rw [Bool.and_eq_true, Bool.and_eq_true] at ok
  have h1 := of_decide_eq_true ok.1
  have h2 := of_decide_eq_true ok.2.1
  have h3 := of_decide_eq_true ok.2.2
  subst h1
  exact ⟨h2, by omega, by decide⟩, q⟩) h1 h2
theorem pa_nNil : PA X [] (tDatsN X.K dNil) := PAd.imp pa_nil fun σ H Q q => by
  obtain ⟨d, e1, q⟩ := q
  obtain rfl := Option.some.inj e1
  exact q _ _ (Same.refl _) rfl .nil
theorem pa_nCons (h1 : PE X e (tDatN X.K f)) (h2 : PA X es (tDatsN X.K h)) (hs : starEach (e :: es) X.env = (false, eval e X.env) :: starEach es X.env := by rfl) : PA X (e :: es) (tDatsN X.K (dCons f h)) := PAd.imp (pa_cons h1 h2 hs) fun σ H Q q => by
  obtain ⟨d, e1, q⟩ := q
  unfold dCons at e1
  split at e1
  · rename_i x xs ef eg
    obtain rfl := Option.some.inj e1
    exact ⟨_, ef, fun v H1 s1 p1 => ⟨_, eg, fun vs H2 s2 l2 p2 => q _ _ (s1.trans s2) (by simp [l2]) (.cons (Dp.same (frh_same s2) _ p1) (DpAll.same (frh_less s1) _ p2))⟩⟩
  · cases e1
theorem pe_nTup (h1 : PA X es (tDatsN X.K h)) : PE X (.Tuple es k pos) (tDatN X.K (dTup h)) := PEd.imp (pe_tup h1) fun σ H Q q => by
  obtain ⟨d, e1, q⟩ := q
  unfold dTup at e1
  split at e1
  · rename_i ds eg
    split at e1
    · rename_i hl
      obtain rfl := Option.some.inj e1
      exact ⟨_, eg, fun vs H1 s1 l1 p1 => ⟨by rw [l1]; exact Nat.le_of_lt (small1000 hl), fun p np => q (.ref p) _ (s1.trans (same_new np)) (.tup (.inl (.inl (frh_new (s1.free np)))) (DpAll.same (frh_same (same_new np)) _ p1))⟩⟩
    · cases e1
  · cases e1
theorem pe_nLst (h1 : PA X es (tDatsN X.K h)) : PE X (.List es pos) (tDatN X.K (dLst h)) := PEd.imp (pe_lst h1) fun σ H Q q => by
  obtain ⟨d, e1, q⟩ := q
  unfold dLst at e1
  split at e1
  · rename_i ds eg
    split at e1
    · rename_i hl
      obtain rfl := Option.some.inj e1
      exact ⟨_, eg, fun vs H1 s1 l1 p1 => ⟨by rw [l1]; exact Nat.le_of_lt (small1000 hl), fun p np => q (.ref p) _ (s1.trans (same_new np)) (.lst (SqL.of (frh_new (s1.free np))) (DpAll.same (frh_same (same_new np)) _ p1))⟩⟩
    · cases e1
  · cases e1
theorem pe_nNeg (h1 : PE X a (tDatN X.K f)) : PE X (.UnaryOp .USub a pos) (tDatN X.K (dNeg f)) := PEd.imp (pe_un un_neg h1) fun σ H Q q => by
  obtain ⟨d, e1, q⟩ := q
  unfold dNeg at e1
  split at e1
  · rename_i x ef
    obtain rfl := Option.some.inj e1
    refine ⟨_, ef, fun v H1 s1 p1 => ?_⟩
    obtain rfl := dp_intV p1
    exact ⟨_, rfl, q _ _ s1 (.int _)⟩
  · cases e1
theorem pe_nStr {x : Str} {j : Nat} : PE X (.Constant (.str x) j pos) (tDatN X.K (dC (.str x))) := PEd.imp pe_str fun σ H Q q => by
  obtain ⟨d, e1, q⟩ := q
  obtain rfl := Option.some.inj e1
  exact q _ _ (Same.refl _) (.str _)
end
end XL
namespace XL
open PySem PySem.Spec PyProof.Rows L2
/-! ### a comprehension over zip of two: both lists, or both tuples -/
theorem walk_zipT {K : PySem.W.Frag} {a b : Addr} {xs ys : List V} {n : Nat} (hn : n = min xs.length ys.length) : Walk (RZ.ItzT K a b) n (fun H => SqT K H a xs ∧ SqT K H b ys) (YPair (fun i => xs[i]?) (fun i => ys[i]?)) := by
  subst hn
  refine ⟨fun i _ hi q => ?_, fun _ q => ⟨xs, ys, q.1, q.2, by omega⟩, fun i H v H' _ q y => ?_⟩
  · have h1 : i < xs.length := by omega
    have h2 : i < ys.length := by omega
    exact ⟨xs, ys, xs[i], ys[i], q.1, q.2, by simp [h1], by simp [h2]⟩
  · obtain ⟨T, x, z, h1, h2, h3, h4, h5⟩ := y
    exact ⟨T, x, z, h1, h2, h3, h4 xs q.1, h5 ys q.2⟩
def iZ2 (K : PySem.W.Frag) (ta : TA) : TI := fun σ H R => ta σ H fun vs H1 => ∃ a b xs ys, vs = [.ref a, .ref b] ∧ ((SqL K H1 a xs ∧ SqL K H1 b ys) ∨ (SqT K H1 a xs ∧ SqT K H1 b ys)) ∧
  ∀ J, Walk J (min xs.length ys.length) (fun H => Same H1 H) (YPair (fun i => xs[i]?) (fun i => ys[i]?)) → R J H1
theorem pi_z2 {X : Cx} {e e2 : Expr} {ta : TA} {p pos tpos : Pos} {elts : List Expr} {kk : Nat} (hg : Gl X "zip") (hm : X.mg "zip" = none) (ha : PA X [e, e2] ta)
    (hs : starEach [e, e2] X.env = (false, eval e X.env) :: starEach [e2] X.env := by rfl) (hpl : (backTo pos (starEach [e2] X.env)).any (·.1) = false := by rfl) :
    PI X (.Tuple elts kk tpos) (.Call (.Name "zip" p) [e, e2] [] pos) (iZ2 X.K ta) := by
  refine ⟨fun pins s σ H R I h => ?_⟩
  refine Call_ (ld_blt I hg hm PyProof.Rows.boot_zip (PyProof.Rows.callWith_type1 (thn (ha.run pos pins s σ H _ I h) fun us s1 ⟨vs, H1, I1, r1, q1⟩ => ?_) hs hpl))
  obtain ⟨a, b, xs, ys, ex, q1, q⟩ := q1
  subst ex
  cases r1 with
  | cons r rr =>
    cases rr with
    | cons r' rr =>
      cases rr
      cases r
      cases r'
      have fresh5 : ∀ c, c ∈ [s1.heap.objs.size + 4, s1.heap.objs.size + 2, s1.heap.objs.size + 3, s1.heap.objs.size, s1.heap.objs.size + 1] → FpOk X pins H1 c := fun c hcm => by
        have e' : c = s1.heap.objs.size + 4 ∨ c = s1.heap.objs.size + 2 ∨ c = s1.heap.objs.size + 3 ∨ c = s1.heap.objs.size ∨ c = s1.heap.objs.size + 1 := by simpa using hcm
        have hle : s1.heap.objs.size ≤ c := by
          rcases e' with z | z | z | z | z
          · rw [z]; exact Nat.le_add_right _ _
          · rw [z]; exact Nat.le_add_right _ _
          · rw [z]; exact Nat.le_add_right _ _
          · rw [z]; exact Nat.le_refl _
          · rw [z]; exact Nat.le_add_right _ _
        exact I1.fpOk hle (I1.hok.fresh hle)
      rcases q1 with ⟨hqx, hqy⟩ | ⟨hqx, hqy⟩
      · obtain ⟨its, rv, p1, _⟩ := I1.list hqx
        obtain ⟨its2, rv2, p2, _⟩ := I1.list hqy
        refine call_zip_2 p1.isList p2.isList fun h' hz hTI hTO h1 h2 hsz hk => wpAny_pyIter_zip hz ?_
        have I2 : Inv X pins σ H1 { s1 with heap := h' } := I1.kept (t' := s1.toks) hk
        exact ⟨s1.heap.objs.size + 4, [s1.heap.objs.size + 4, s1.heap.objs.size + 2, s1.heap.objs.size + 3, s1.heap.objs.size, s1.heap.objs.size + 1], _, _, H1, rfl, I2, turn_zip (PySem.W.ktu_apart s1.heap.objs.size a b p1.lt p2.lt), ⟨hz, hTI, ⟨_, _, hTO⟩, h1, h2⟩, fresh5, q _ ((walk_zip rfl).mono (fun H s => ⟨s.seq hqx, s.seq hqy⟩) fun _ _ _ _ _ _ y => y)⟩
      · obtain ⟨its, rv, p1, _⟩ := I1.tuple hqx
        obtain ⟨its2, rv2, p2, _⟩ := I1.tuple hqy
        obtain ⟨o1, ho1, _⟩ := id p1
        obtain ⟨o2, ho2, _⟩ := id p2
        refine RZ.call_zipT (show s1.heap.IsTuple a its.toArray from p1) (show s1.heap.IsTuple b its2.toArray from p2) fun h' hz hTI hTO h1 h2 hsz hk => wpAny_pyIter_zip hz ?_
        have I2 : Inv X pins σ H1 { s1 with heap := h' } := I1.kept (t' := s1.toks) hk
        exact ⟨s1.heap.objs.size + 4, [s1.heap.objs.size + 4, s1.heap.objs.size + 2, s1.heap.objs.size + 3, s1.heap.objs.size, s1.heap.objs.size + 1], _, _, H1, rfl, I2, RZ.turn_zipT (PySem.W.ktu_apart s1.heap.objs.size a b (Heap.lt_size ho1) (Heap.lt_size ho2)), ⟨hz, hTI, ⟨_, _, hTO⟩, h1, h2⟩, fresh5, q _ ((walk_zipT rfl).mono (fun H s => ⟨Same.tup s hqx, Same.tup s hqy⟩) fun _ _ _ _ _ _ y => y)⟩
/-! ### zip of three lists -/
def YTrip (xs ys zs : Nat → Option V) : Nat → Hp → V → Hp → Prop := fun i H v H' => ∃ T x y z, v = .ref T ∧ H T = none ∧ H' = upd H T (.tup [x, y, z]) ∧ xs i = some x ∧ ys i = some y ∧ zs i = some z
def Itz3 (K : PySem.W.Frag) (a b c : Addr) : It :=
  ⟨fun i H => ∃ (xs ys zs : List V) (x y z : V), SqL K H a xs ∧ SqL K H b ys ∧ SqL K H c zs ∧ xs[i]? = some x ∧ ys[i]? = some y ∧ zs[i]? = some z,
    fun i H v H' => ∃ T x y z, v = .ref T ∧ H T = none ∧ H' = upd H T (.tup [x, y, z]) ∧ (∀ xs, SqL K H a xs → xs[i]? = some x) ∧ (∀ ys, SqL K H b ys → ys[i]? = some y) ∧ ∀ zs, SqL K H c zs → zs[i]? = some z,
    fun i H => ∃ xs ys zs : List V, SqL K H a xs ∧ SqL K H b ys ∧ SqL K H c zs ∧ i ≤ xs.length ∧ i ≤ ys.length ∧ i ≤ zs.length ∧ (i = xs.length ∨ i = ys.length ∨ i = zs.length)⟩
theorem turn_zip3 {P : Program} {w : World} {K : PySem.W.Frag} {elts : List Expr} {kk : Nat} {tpos : Pos} {a b c z TI TO i1 i2 i3 : Addr} (S : ZipSep3 z TI TO i1 i2 i3 [i1, a] [i2, b] [i3, c]) (na : a ≠ i1) (nb : b ≠ i2) (nc : c ≠ i3) :
    Turn P w K (.Tuple elts kk tpos) (Itz3 K a b c) [z, TI, TO, i1, i2, i3] z (fun i h => IsZip h z TI TO .none ∧ IsTupOf3 h TI (.ref i1) (.ref i2) (.ref i3) ∧ (∃ x y u, IsTupOf3 h TO x y u) ∧ h.IsListIter i1 a i ∧ h.IsListIter i2 b i ∧ h.IsListIter i3 c i) where
  mem := by simp
  obj := fun i h st c hc => by
    obtain ⟨hz, hTI, ⟨x, y, u, hTO⟩, ⟨o1, e1, _, d1⟩, ⟨o2, e2, _, d2⟩, ⟨o3, e3, _, d3⟩⟩ := st
    have e' : c = z ∨ c = TI ∨ c = TO ∨ c = i1 ∨ c = i2 ∨ c = i3 := by simpa using hc
    rcases e' with q | q | q | q | q | q
    · rw [q]; exact ⟨_, hz, fun v q => nomatch q⟩
    · rw [q]; exact ⟨_, hTI, fun v q => nomatch q⟩
    · rw [q]; exact ⟨_, hTO, fun v q => nomatch q⟩
    · rw [q]; exact ⟨o1, e1, fun v q => by rw [d1] at q; cases q⟩
    · rw [q]; exact ⟨o2, e2, fun v q => by rw [d2] at q; cases q⟩
    · rw [q]; exact ⟨o3, e3, fun v q => by rw [d3] at q; cases q⟩
  keep := fun i h h' st k => by
    obtain ⟨hz, hTI, ⟨x, y, u, hTO⟩, h1, h2, h3⟩ := st
    exact ⟨k z (by simp) _ hz, k TI (by simp) _ hTI, ⟨x, y, u, k TO (by simp) _ hTO⟩, h1.at fun o q => k i1 (by simp) o q, h2.at fun o q => k i2 (by simp) o q, h3.at fun o q => k i3 (by simp) o q⟩
  item := by
    intro X hP hw hK hc i pins s σ H E I hf st hg
    subst hP hw hK
    obtain ⟨hz, hTI, ⟨x0, y0, u0, hTO⟩, h1, h2, h3⟩ := st
    obtain ⟨xs, ys, zs, x, y, z', hqx, hqy, hqz, hx, hy, hzz⟩ := hg
    obtain ⟨its, rv, p, _⟩ := I.list hqx
    obtain ⟨its2, rv2, p2, _⟩ := I.list hqy
    obtain ⟨its3, rv3, p3, _⟩ := I.list hqz
    obtain ⟨u, hu, ru⟩ := rv.get hx
    obtain ⟨u2, hu2, ru2⟩ := rv2.get hy
    obtain ⟨u3, hu3, ru3⟩ := rv3.get hzz
    have hzl : z < s.heap.objs.size := Heap.lt_size hz
    have lt : ∀ {l : List Value} {v : Value}, l[i]? = some v → i < l.toArray.size := fun {l v} e => by rw [List.size_toArray]; exact (List.getElem?_eq_some_iff.mp e).1
    refine wpAny_pyNext_zipD3_item S (Draws.list (A := X.A.in1) (I.ok.hd hc) i1 a na its.toArray) (Draws.list (A := X.A.in1) (I.ok.hd hc) i2 b nb its2.toArray) (Draws.list (A := X.A.in1) (I.ok.hd hc) i3 c nc its3.toArray) hz hTI hTO ⟨h1, p.isList⟩ ⟨h2, p2.isList⟩ ⟨h3, p3.isList⟩ (lt hu) (lt hu2) (lt hu3) fun v1 v2 v3 h' tk y1 y2 y3 zh TO' d1 d2 d3 hT hsz hk => ?_
    have ev : ∀ {l : List Value} {v v' : Value}, l.toArray[i]? = some v' → l[i]? = some v → v' = v := fun {l v v'} e1 e2 => by
      rw [List.getElem?_toArray, e2] at e1; exact (Option.some.inj e1).symm
    obtain rfl := ev y1 hu
    obtain rfl := ev y2 hu2
    obtain rfl := ev y3 hu3
    refine ⟨_, rfl, wpAny_letOwnedTupleGo_zip (s := { s with heap := h', toks := tk }) zh fun h'' z'' sb => ?_⟩
    have hT2 : h''.get? s.heap.objs.size = some { cls := .type "tuple", data := .seq #[v1, v2, v3] } := (sb.2 _ (Nat.ne_of_gt hzl)).trans hT
    have new : ObjOk X.prog X.w (upd H s.heap.objs.size (.tup [x, y, z'])) h'' s.heap.objs.size (.tup [x, y, z']) :=
      ⟨by show 3 ≤ sizeLine; decide, [v1, v2, v3], .cons ru (.cons ru2 (.cons ru3 .nil)), ⟨_, hT2, rfl, _, rfl⟩⟩
    have I1 : Inv X pins σ (upd H s.heap.objs.size (.tup [x, y, z'])) { s with heap := h'', toks := tk } :=
      I.turnedNew (ch := [z, TI, TO, i1, i2, i3]) (fun c o hb q => (sb.2 c (fun q' => hb (by simp [q']))).trans (hk c o (fun q' => hb (by simp [q'])) (fun q' => hb (by simp [q'])) (fun q' => hb (by simp [q'])) (fun q' => hb (by simp [q'])) (fun q' => hb (by simp [q'])) q)) hf (Nat.le_refl _) new
    refine ⟨.ref s.heap.objs.size, _, I1, rfl, ⟨_, x, y, z', rfl, I.hok.fresh (Nat.le_refl _), rfl, fun l hl => by rw [I.list_inj hl hqx]; exact hx, fun l hl => by rw [I.list_inj hl hqy]; exact hy, fun l hl => by rw [I.list_inj hl hqz]; exact hzz⟩, ⟨z'', ?_, ⟨v1, v2, v3, ?_⟩, ?_, ?_, ?_⟩, fun c hcm => ?_⟩
    · exact (sb.2 _ S.TIz).trans (hk _ _ S.TIz S.TITO S.TIi1 S.TIi2 S.TIi3 hTI)
    · exact (sb.2 _ S.TOz).trans TO'
    · exact d1.1.at fun o q => (sb.2 _ (Ne.symm S.zi1)).trans q
    · exact d2.1.at fun o q => (sb.2 _ (Ne.symm S.zi2)).trans q
    · exact d3.1.at fun o q => (sb.2 _ (Ne.symm S.zi3)).trans q
    · have hlt : c < s.heap.objs.size := by
        have e' : c = z ∨ c = TI ∨ c = TO ∨ c = i1 ∨ c = i2 ∨ c = i3 := by simpa using hcm
        rcases e' with q | q | q | q | q | q
        · rw [q]; exact hzl
        · rw [q]; exact Heap.lt_size hTI
        · rw [q]; exact Heap.lt_size hTO
        · rw [q]; obtain ⟨_, e1, _⟩ := h1; exact Heap.lt_size e1
        · rw [q]; obtain ⟨_, e2, _⟩ := h2; exact Heap.lt_size e2
        · rw [q]; obtain ⟨_, e3, _⟩ := h3; exact Heap.lt_size e3
      rw [upd_ne (Nat.ne_of_lt hlt)]
      exact (hf c hcm).1
  done := by
    intro X hP hw hK hc i pins s σ H E I hf st hg
    subst hP hw hK
    obtain ⟨hz, hTI, ⟨x0, y0, u0, hTO⟩, h1, h2, h3⟩ := st
    obtain ⟨xs, ys, zs, hqx, hqy, hqz, e1, e2, e3, hend⟩ := hg
    obtain ⟨its, rv, p, _⟩ := I.list hqx
    obtain ⟨its2, rv2, p2, _⟩ := I.list hqy
    obtain ⟨its3, rv3, p3, _⟩ := I.list hqz
    have l1 := rv.length
    have l2 := rv2.length
    have l3 := rv3.length
    exact wpAny_pyNext_zipD3_end S (Draws.list (A := X.A.in1) (I.ok.hd hc) i1 a na its.toArray) (Draws.list (A := X.A.in1) (I.ok.hd hc) i2 b nb its2.toArray) (Draws.list (A := X.A.in1) (I.ok.hd hc) i3 c nc its3.toArray) hz hTI hTO ⟨h1, p.isList⟩ ⟨h2, p2.isList⟩ ⟨h3, p3.isList⟩ (by rw [List.size_toArray]; omega) (by rw [List.size_toArray]; omega) (by rw [List.size_toArray]; omega) (by rw [List.size_toArray, List.size_toArray, List.size_toArray]; omega)
      fun h' tk hk => ⟨rfl, I.turnedL (t' := tk) (ch := [z, TI, TO, i1, i2, i3]) (fun c o hb q =>
      hk c o (fun q' => hb (by simp [q'])) (fun q' => hb (by simp [q'])) (fun q' => hb (by simp [q'])) (fun q' => hb (by simp [q'])) (fun q' => hb (by simp [q'])) q) hf⟩
  self := fun A i s Q E st h => wpAny_pyIter_zip st.1 h
theorem walk_zip3 {K : PySem.W.Frag} {a b c : Addr} {xs ys zs : List V} {n : Nat} (hn : n = min (min xs.length ys.length) zs.length) : Walk (Itz3 K a b c) n (fun H => SqL K H a xs ∧ SqL K H b ys ∧ SqL K H c zs) (YTrip (fun i => xs[i]?) (fun i => ys[i]?) (fun i => zs[i]?)) := by
  subst hn
  refine ⟨fun i _ hi q => ?_, fun _ q => ⟨xs, ys, zs, q.1, q.2.1, q.2.2, by omega, by omega, by omega, by omega⟩, fun i H v H' _ q y => ?_⟩
  · have h1 : i < xs.length := by omega
    have h2 : i < ys.length := by omega
    have h3 : i < zs.length := by omega
    exact ⟨xs, ys, zs, xs[i], ys[i], zs[i], q.1, q.2.1, q.2.2, by simp [h1], by simp [h2], by simp [h3]⟩
  · obtain ⟨T, x, y, z, h1, h2, h3, h4, h5, h6⟩ := y
    exact ⟨T, x, y, z, h1, h2, h3, h4 xs q.1, h5 ys q.2.1, h6 zs q.2.2⟩
def iZ3 (K : PySem.W.Frag) (ta : TA) : TI := fun σ H R => ta σ H fun vs H1 => ∃ a b c xs ys zs, vs = [.ref a, .ref b, .ref c] ∧ SqL K H1 a xs ∧ SqL K H1 b ys ∧ SqL K H1 c zs ∧
  ∀ J, Walk J (min (min xs.length ys.length) zs.length) (fun H => Same H1 H) (YTrip (fun i => xs[i]?) (fun i => ys[i]?) (fun i => zs[i]?)) → R J H1
theorem pi_z3 {X : Cx} {e e2 e3 : Expr} {ta : TA} {p pos tpos : Pos} {elts : List Expr} {kk : Nat} (hg : Gl X "zip") (hm : X.mg "zip" = none) (ha : PA X [e, e2, e3] ta)
    (hs : starEach [e, e2, e3] X.env = (false, eval e X.env) :: starEach [e2, e3] X.env := by rfl) (hpl : (backTo pos (starEach [e2, e3] X.env)).any (·.1) = false := by rfl) :
    PI X (.Tuple elts kk tpos) (.Call (.Name "zip" p) [e, e2, e3] [] pos) (iZ3 X.K ta) := by
  refine ⟨fun pins s σ H R I h => ?_⟩
  refine Call_ (ld_blt I hg hm PyProof.Rows.boot_zip (PyProof.Rows.callWith_type1 (thn (ha.run pos pins s σ H _ I h) fun us s1 ⟨vs, H1, I1, r1, q1⟩ => ?_) hs hpl))
  obtain ⟨a, b, c, xs, ys, zs, ex, hqx, hqy, hqz, q⟩ := q1
  subst ex
  cases r1 with
  | cons r rr =>
    cases rr with
    | cons r' rr =>
      cases rr with
      | cons r'' rr =>
        cases rr
        cases r
        cases r'
        cases r''
        obtain ⟨its, rv, p1, _⟩ := I1.list hqx
        obtain ⟨its2, rv2, p2, _⟩ := I1.list hqy
        obtain ⟨its3, rv3, p3, _⟩ := I1.list hqz
        have la : a < s1.heap.objs.size := p1.lt
        have lb : b < s1.heap.objs.size := p2.lt
        have lc : c < s1.heap.objs.size := p3.lt
        have S := zip_sep3 (N := s1.heap.objs.size) (fp1 := [a]) (fp2 := [b]) (fp3 := [c]) (fun x hx => by rw [List.mem_singleton.mp hx]; exact la) (fun x hx => by rw [List.mem_singleton.mp hx]; exact lb) (fun x hx => by rw [List.mem_singleton.mp hx]; exact lc)
        refine zip_begins3 (begins_list a its.toArray) (begins_list b its2.toArray) (begins_list c its3.toArray) p1.isList p2.isList p3.isList fun h' hz hTI hTO h1 h2 h3 hsz hk => wpAny_pyIter_zip hz ?_
        have I2 : Inv X pins σ H1 { s1 with heap := h' } := I1.kept (t' := s1.toks) hk
        refine ⟨s1.heap.objs.size + 5, [s1.heap.objs.size + 5, s1.heap.objs.size + 3, s1.heap.objs.size + 4, s1.heap.objs.size, s1.heap.objs.size + 1, s1.heap.objs.size + 2], _, _, H1, rfl, I2, turn_zip3 S (Nat.ne_of_lt la) (Nat.ne_of_lt (Nat.lt_succ_of_lt lb)) (Nat.ne_of_lt (Nat.lt_succ_of_lt (Nat.lt_succ_of_lt lc))), ⟨hz, hTI, ⟨_, _, _, hTO⟩, ⟨_, h1, rfl, rfl⟩, ⟨_, h2, rfl, rfl⟩, ⟨_, h3, rfl, rfl⟩⟩, fun x hcm => ?_, q _ ((walk_zip3 rfl).mono (fun H s => ⟨s.seq hqx, s.seq hqy, s.seq hqz⟩) fun _ _ _ _ _ _ y => y)⟩
        have e' : x = s1.heap.objs.size + 5 ∨ x = s1.heap.objs.size + 3 ∨ x = s1.heap.objs.size + 4 ∨ x = s1.heap.objs.size ∨ x = s1.heap.objs.size + 1 ∨ x = s1.heap.objs.size + 2 := by simpa using hcm
        have hle : s1.heap.objs.size ≤ x := by
          rcases e' with z | z | z | z | z | z
          · rw [z]; exact Nat.le_add_right _ _
          · rw [z]; exact Nat.le_add_right _ _
          · rw [z]; exact Nat.le_add_right _ _
          · rw [z]; exact Nat.le_refl _
          · rw [z]; exact Nat.le_add_right _ _
          · rw [z]; exact Nat.le_add_right _ _
        exact I1.fpOk hle (I1.hok.fresh hle)
end XL
namespace XL
open PySem PySem.Spec PyProof.Rows L2
section
variable {prog : Program} {w : World} {A : Around} {E : Value → Shared → Prop} {s : Shared}
theorem applied_rev2 {sl : Addr} {vs : Value} {Q : Int × Int × Nat → Shared → Prop} (hs : s.heap.IsSliceOf sl .none .none vs) (ps : IsPart vs (some (-1))) (h : Q (1, -1, 2) s) :
    wpAny (model prog w) A (Builtin.Slice.sliceApplied (.ref sl) (pure ((2 : Nat) : Int))) Q E s := by
  obtain ⟨os, hos, hcs, hds⟩ := id hs
  unfold Builtin.Slice.sliceApplied Builtin.Slice.sliceFields
  refine wpAny_bind (wpAny_bind (wpAny_field hos hds (x := .none) rfl (wpAny_bind (wpAny_field hos hds (x := .none) rfl (wpAny_bind (wpAny_field hos hds (x := vs) rfl (wpAny_pure ?_)))))))
  refine wpAny_bind (HT.slicePart_ ps ?_)
  show wpAny _ _ (if ((-1 : Int) == 0) = true then _ else _) _ _ s
  rw [if_neg (by decide)]
  refine wpAny_bind (HT.slicePart_ .none (wpAny_bind (HT.slicePart_ .none (wpAny_bind (wpAny_pure ?_)))))
  show wpAny _ _ (match Builtin.Slice.sliceAdjust none none (-1) ((2 : Nat) : Int) with | (lo, hi) => pure (lo, (-1 : Int), Builtin.Slice.slicePlaces lo hi (-1))) _ _ s
  have e : Builtin.Slice.sliceAdjust none none (-1) ((2 : Nat) : Int) = (1, -1) := by decide
  rw [e]
  have e2 : Builtin.Slice.slicePlaces 1 (-1) (-1) = 2 := by decide
  show wpAny _ _ (pure ((1 : Int), (-1 : Int), Builtin.Slice.slicePlaces 1 (-1) (-1))) _ _ s
  rw [e2]
  exact wpAny_pure h
theorem getItem_rev2 {t sl : Addr} {u1 u2 vs : Value} {Q : Value → Shared → Prop} (ht : IsTup s.heap t #[u1, u2]) (hs : s.heap.IsSliceOf sl .none .none vs) (ps : IsPart vs (some (-1)))
    (h : Q (.ref s.heap.objs.size) { s with heap := s.heap.push { cls := .type "tuple", data := .seq #[u2, u1] } }) : wpAny (model prog w) A (getItem (.ref t) (.ref sl)) Q E s := by
  have fits : sizeOk (.seq #[u2, u1]) := by show 2 ≤ sizeLine; decide
  obtain ⟨os, hos, hcs, hds⟩ := id hs
  have hTs : s.TypeIs (.ref sl) "slice" := ⟨os, hos, hcs⟩
  unfold getItem
  try with_reducible refine wpAny_holding ?_
  first | refine wpAny_bind (wpAny_pure ?_) | skip
  refine wpAny_bind (wpAny_sequenceKey ht.typeIs (by decide) ?_)
  refine wpAny_bind (wpAny_callSpecial?_slot (name := Str.ofString "__getitem__") ht.typeIs PyProof.Rows.slot_tuple_getitem (wpAny_call_entry PyProof.Rows.slot_tuple_getitem ht.typeIs entry_tuple_getitem ?_ (args_tuple_getitem _ _)))
  show wpAny _ _ (Builtin.Tuple.tupleItemsOf (.ref t) >>= _) _ _ s
  refine wpAny_bind (tupleItemsOf_ ht ?_)
  refine wpAny_bind (wpAny_typeOf hTs ?_)
  rw [if_pos (by decide)]
  refine wpAny_bind (applied_rev2 hs ps ?_)
  show wpAny _ _ (if ((1 : Int) == 0 && (-1 : Int) == 1 && (2 : Nat) == 2) = true then _ else _) _ _ s
  rw [if_neg (by decide)]
  have e : ((List.range 2).filterMap fun (m : Nat) => (#[u1, u2] : Array Value)[((1 : Int) + (m : Int) * (-1)).toNat]?).toArray = #[u2, u1] := by rfl
  rw [e]
  first
    | exact wpAny_bind (m := Builtin.Tuple.tupleExact _) (wpAny_newObj_type (wpAny_pure ⟨_, rfl, wpAny_pure h⟩) fits)
    | exact wpAny_bind (m := Builtin.Tuple.tupleExact _) (wpAny_newObj_type (wpAny_bind (wpAny_pure (wpAny_pure ⟨_, rfl, wpAny_pure h⟩))) fits)
    | exact wpAny_bind (wpAny_bind (m := Builtin.Tuple.tupleExact _) (wpAny_newObj_type (wpAny_pure (wpAny_pure ⟨_, rfl, wpAny_pure h⟩)) fits))
    | exact wpAny_bind (wpAny_bind (m := Builtin.Tuple.tupleExact _) (wpAny_newObj_type (wpAny_pure ⟨_, rfl, wpAny_pure h⟩) fits))
end
section
variable {X : Cx}
/-- t[::-1] of a pair -/
def tRev2 (K : PySem.W.Frag) (te : TE) : TE := fun σ H Q => te σ H fun x H1 => ∃ a y z, x = .ref a ∧ SqT K H1 a [y, z] ∧ ∀ p, H1 p = none → Q (.ref p) (upd H1 p (.tup [z, y]))
theorem pe_rev2 {e : Expr} {te : TE} {k : Nat} {p1 p2 p3 pos : Pos} (he : PE X e te) : PE X (.Subscript e (.Slice none none (some (.UnaryOp .USub (.Constant (.int 1) k p1) p2)) p3) pos) (tRev2 X.K te) := by
  refine ⟨fun pins s σ H Q I h => ?_⟩
  refine Subscript_ (thn (he.run pins s σ H _ I h) fun v s1 ⟨x, H1, I1, r1, q1⟩ => ?_)
  obtain ⟨a, y, z, ex, hx, q⟩ := q1
  subst ex
  cases r1
  have hst : PO X (some (.UnaryOp .USub (.Constant (.int 1) k p1) p2)) (tPart (tUn (rU fun i => .int (-i)) (tC (.int 1)))) := po_some (pe_un un_neg pe_int)
  refine wpAny_Slice (thn (po_none.run pins s1 σ H1 (fun o H2 => o = none ∧ H2 = H1) I1 ⟨rfl, rfl⟩) fun vl s2 ⟨l, H2, I2, pl, el, e2⟩ => ?_)
  subst el e2
  refine thn (po_none.run pins s2 σ H2 (fun o H3 => o = none ∧ H3 = H2) I2 ⟨rfl, rfl⟩) fun vu s3 ⟨u, H3, I3, pu, eu, e3⟩ => ?_
  subst eu e3
  refine thn (hst.run pins s3 σ H3 (fun o H4 => o = some (-1) ∧ H4 = H3) I3 ⟨1, rfl, -1, rfl, rfl, rfl⟩) fun vs s4 ⟨o, H4, I4, ps, eo, e4⟩ => ?_
  subst eo e4
  cases pl
  cases pu
  have I5 : Inv X pins σ H4 { s4 with heap := s4.heap.push { cls := .type "slice", data := .fields #[.none, .none, vs] } } := I4.kept (t' := s4.toks) fun b ob q => Heap.get?_push_of_some _ q
  obtain ⟨its, r, ht, hz⟩ := I5.tuple hx
  obtain ⟨w1, w2, rfl, q1, q2⟩ := vals2 r
  show wpAny (model X.prog X.w) X.A (subscriptTail e (.Slice none none (some (.UnaryOp .USub (.Constant (.int 1) k p1) p2)) p3) (.ref a) (.ref s4.heap.objs.size)) (EP X pins σ Q) X.xe { s4 with heap := s4.heap.push { cls := .type "slice", data := .fields #[.none, .none, vs] } }
  refine tail_any (ops := [.ref a, .ref s4.heap.objs.size]) ht.typeIs (PyProof.Rows.slot_tuple_getitem.lookup) ?_ (by with_unfolding_all rfl)
  refine getItem_rev2 (u1 := w1) (u2 := w2) ht (Heap.IsSliceOf.new _ .none .none vs) ps ?_
  refine ⟨.ref _, _, I5.laid (t' := s4.toks) (o := .tup [z, y]) (fun b ob q => Heap.get?_push_of_some _ q) (Nat.le_refl _) ?_, rfl, q _ (I5.hok.fresh (Nat.le_refl _))⟩
  exact ⟨by show 2 ≤ sizeLine; decide, [w2, w1], .cons q2 (.cons q1 .nil), IsTup.new _ _⟩
/-- xs[i], for xs[i] op= e -/
def rGetL (K : PySem.W.Frag) : V → V → Hp → VK → Prop := fun o y H Q => ∃ p xs i v, o = .ref p ∧ y = .int i ∧ SqL K H p xs ∧ 0 ≤ i ∧ xs[i.toNat]? = some v ∧ Q v H
theorem get_list : PGet X (rGetL X.K) := by
  intro pins s σ H o y ov iv Q I ro ry h
  obtain ⟨p, xs, i, v, rfl, rfl, hq, h0, he, q⟩ := h
  cases ro
  obtain ⟨t, rfl⟩ := ry
  obtain ⟨its, r, pl, hz⟩ := I.list hq
  obtain ⟨u, eu, ru⟩ := r.get he
  have hl : i.toNat < xs.length := (List.getElem?_eq_some_iff.mp he).1
  have hn := line63
  exact wpAny_getItem_list pl.isList h0 (by omega) (by simpa using eu) ⟨v, H, I, ru, q⟩
end
end XL
namespace PySem
namespace XE
open Builtin Builtin.ObjectAttr
/-! ### own exceptions as values: made by place or with keywords -/
section
variable {prog : Program} {w : World} {M : Model} {A : Around} {E : Value → Shared → Prop} {R : Result → Shared → Prop} {h : Heap} {g : Array GenState} {d : Drawn} {t : Nat} {os : OsState}
variable {nm q : Str} {C N : Addr} {bs bm : List Value} {hdct : Bool} {sn : List Str} {sub : List Value} {ab : Bool} {col : Option Bool} {dd : Option Addr} {k0 k1 k2 k3 k5 : Option Value} {B newId initId : String}
theorem newK_check (F : ExcBaseFacts B newId initId bm) {rest : List Value} {kw : List (Str × Value)} {Q : Unit → Shared → Prop}
    (hC : h.get? C = some (excClassObj nm q C N bs bm hdct sn sub ab col dd k0 k1 k2 k3 k5 newId)) (hq : Q () ⟨h, g, d, t, os⟩) : wpAny M A (checkBuiltinCall newId ⟨.ref C :: rest, kw⟩) Q E ⟨h, g, d, t, os⟩ := by
  have hcont : (Value.ref C :: bm).contains (.type B) = true := by rw [List.contains_cons, F.hasB, Bool.or_true]
  have hstar := F.noStar; simp only [checkBuiltinCall, F.newKind, F.newSplit, F.newRow]
  repeat (first | refine wpAny_loadPart_at hC ?_ | (refine wpAny_isSubtype_exc hC ?_; rw [hcont]) | refine wpAny_staticBase_exc hC ?_ | refine wpAny_madeBy_exc hC ?_ | simp only [bne_self_eq_false, Bool.false_eq_true, if_false] | wp_step)
  exact hq
theorem newK_run (F : ExcBaseFacts B newId initId bm) {rest : List Value} {kw : List (Str × Value)}
    (hC : h.get? C = some (excClassObj nm q C N bs bm hdct sn sub ab col dd k0 k1 k2 k3 k5 newId))
    (hq : R (.ok (.ret (.ref (h.objs.size + 1)))) ⟨(h.push (W.kdv_tup rest)).push (HandSPX.excO C h.objs.size), g, d, t, os⟩) (hrest : rest.length ≤ sizeLine) :
    codeAny (model prog w) A (.builtin newId ⟨.ref C :: rest, kw⟩) R ⟨h, g, d, t, os⟩ := by
  have hends := F.ends; have hcB : (Value.ref C :: bm).contains (.type B) = true := by rw [List.contains_cons, F.hasB, Bool.or_true]
  have hcA : (Value.ref C :: bm).contains (.type "AttributeError") = false := by rw [List.contains_cons, F.noAttr]; rfl
  have hcN : (Value.ref C :: bm).contains (.type "NameError") = false := by rw [List.contains_cons, F.noName]; rfl
  refine codeAny_builtinAt F.entry ?_; unfold Builtin.«BaseException.__new__»; refine wpAt_bind ?_
  show wpAt _ _ _ (stack >>= _) _ _ _
  refine wpAt_bind (wpAt_stack fun p below => wpAt_of_wpAny ?_); wp_walk; refine wpAt_of_wpAny ?_; rw [F.owner]
  repeat (first | with_reducible refine wpAny_madeHere_exc F.canon hC ?_ | with_reducible refine wpAny_loadPart_at hC ?_ | (with_reducible refine wpAny_isSubtype_exc hC ?_; first | rw [hcB] | rw [hcA] | rw [hcN]) | wp_step)
  show R _ _
  rw [Heap.size_push]; exact hq
theorem typeK_check {rest : List Value} {kw : List (Str × Value)} {Q : Unit → Shared → Prop} (hC : h.get? C = some (excClassObj nm q C N bs bm hdct sn sub ab col dd k0 k1 k2 k3 k5 newId))
    (hq : Q () ⟨h, g, d, t, os⟩) : wpAny M A (checkBuiltinCall "type.__call__" ⟨.ref C :: rest, kw⟩) Q E ⟨h, g, d, t, os⟩ := by
  have f3 := tc_sub; have hT : (⟨h, g, d, t, os⟩ : Shared).TypeIs (.ref C) "type" := ⟨_, hC, rfl⟩
  simp only [checkBuiltinCall, tc_kind, tc_split]
  repeat (any_goals (first | assumption | with_reducible refine wpAny_loadPart_at hC ?_ | with_reducible refine wpAny_onRaise ?_ | with_reducible refine wpAny_map ?_ | wp_step))
theorem typeK_call (F : ExcBaseFacts B newId initId bm) {rest : List Value} {kw : List (Str × Value)} {fI : Addr} {Q : Fin → Shared → Prop}
    (hC : h.get? C = some (excClassObj nm q C N bs bm hdct sn sub ab col dd k0 k1 k2 k3 k5 newId))
    (hi : W.Looks (model prog w) h (typeLookup (.ref C) "__init__") (some (.ref fI))) (hb : ∀ self, W.Looks (model prog w) h (bindSpecial (.ref fI) self) (.ref fI, [self])) (hrest : rest.length ≤ sizeLine)
    (hq : codeAny (model prog w) A (.call (.ref fI) ⟨.ref (h.objs.size + 1) :: rest, kw⟩)
      (fun r s' => match r with | .ok (.ret v) => v = .none ∧ Q (.done (.ret (.ref (h.objs.size + 1)))) s' | .ok _ => False | .error e => E e s') ⟨(h.push (W.kdv_tup rest)).push (HandSPX.excO C h.objs.size), g, d, t, os⟩) :
    wpAny (model prog w) A (Builtin.«type.__call__» ⟨.ref C :: rest, kw⟩) Q E ⟨h, g, d, t, os⟩ := by
  repeat (first | with_reducible refine wpAny_loadPart_at hC ?_ | with_reducible refine wpAny_madeBy_exc hC ?_ | wp_step)
  refine codeAny_call_builtin_code (Code.quiet_builtin _ F.quiet) (newK_check F hC ?_)
  refine newK_run F hC ?_ hrest
  show wpAny _ _ _ _ _ _
  have k : ∀ b o, h.get? b = some o → ((h.push (W.kdv_tup rest)).push (HandSPX.excO C h.objs.size)).get? b = some o := fun b o e => Heap.get?_push_of_some _ (Heap.get?_push_of_some _ e)
  have hC₁ := k _ _ hC
  have hget : ((h.push (W.kdv_tup rest)).push (HandSPX.excO C h.objs.size)).get? (h.objs.size + 1) = some (HandSPX.excO C h.objs.size) := by heap_get
  have hcC : (Value.ref C :: bm).contains (.ref C) = true := by simp
  have i1 := hi.keeps k; have b1 := (hb (.ref (h.objs.size + 1))).keeps k
  unfold isInstance
  repeat (first | with_reducible refine wpAny_loadPart_at hget ?_ | (with_reducible refine wpAny_isSubtype_exc hC₁ ?_; rw [hcC]) | wp_step)
  show wpAny _ _ (typeLookup (.ref C) _) _ _ _
  refine i1.at ?_
  refine wpAny_holding (wpAny_bind (b1.at ?_))
  refine wpAny_bind (wpAny_call (codeAny_mono hq fun r s' z => ?_))
  rcases r with e | (v | _ | _ | _) <;> first | exact z | exact z.elim | skip
  obtain ⟨rfl, z⟩ := z
  first | exact wpAny_pure (wpAny_pure z) | (wp_walk; exact z)
theorem callK (F : ExcBaseFacts B newId initId bm) {rest : List Value} {kw : List (Str × Value)} {fI : Addr}
    (hC : h.get? C = some (excClassObj nm q C N bs bm hdct sn sub ab col dd k0 k1 k2 k3 k5 newId))
    (hi : W.Looks (model prog w) h (typeLookup (.ref C) "__init__") (some (.ref fI))) (hb : ∀ self, W.Looks (model prog w) h (bindSpecial (.ref fI) self) (.ref fI, [self])) (hrest : rest.length ≤ sizeLine)
    (hq : codeAny (model prog w) (A.under (.builtin "type.__call__" ⟨.ref C :: rest, kw⟩)) (.call (.ref fI) ⟨.ref (h.objs.size + 1) :: rest, kw⟩) (W.InitBack (h.objs.size + 1) R)
      ⟨(h.push (W.kdv_tup rest)).push (HandSPX.excO C h.objs.size), g, d, t, os⟩) : codeAny (model prog w) A (.call (.ref C) ⟨rest, kw⟩) R ⟨h, g, d, t, os⟩ := by
  have f1 := tc_lookup; have f2 := tc_bind (.ref C); have hTy : (⟨h, g, d, t, os⟩ : Shared).TypeIs (.ref C) "type" := ⟨_, hC, rfl⟩
  refine codeAny_of_tree ?_
  show wpAny _ _ (callAny (.ref C) _) _ _ _
  repeat (any_goals (first | assumption | with_reducible refine wpAny_loadPart_at hC ?_ | wp_step))
  refine ⟨rfl, ?_⟩
  refine codeAny_call_builtin_at (Code.quiet_builtin _ (by decide +kernel)) entry_typeCall (typeK_check hC (typeK_call F hC hi hb hrest ?_))
  refine codeAny_mono hq fun r s' z => ?_
  rcases r with e | (v | _ | _ | _) <;> exact z
end
/-! ### self.name = v -/
section
variable {prog : Program} {w : World} {A : Around} {E : Value → Shared → Prop} {R : Result → Shared → Prop} {hp : Heap} {g : Array GenState} {d : Drawn} {t : Nat} {os : OsState}
theorem osaG {K : W.Frag} {name : Str} {tk : Tok} {v : Value} {x C : Addr} {fv : Array Value} {cd : ClassData}
    (X : K.In hp) (hx : hp.get? x = some { cls := .ref C, data := .fields fv }) (hcd : W.clsIn K C = some cd) (ne : cd.mro.isEmpty = false) (hob : cd.mro.contains (.type "object") = true) (hpass : ∀ self, refuseLoop self "__setattr__" cd.mro = pure ())
    (hh : cd.hasDict = true) (ha : W.findIn K (.ref C) name = some none)
    (hq : ∀ h' tk' dx, (∀ b o, b ≠ x → hp.get? b = some o → h'.get? b = some o) → hp.objs.size ≤ dx → dx ≠ x → h'.get? x = some { cls := .ref C, dict := some dx, data := .fields fv } → h'.Ns1 dx (fun y => if y = name then some v else none) →
      R (.ok (.ret .none)) ⟨h', g, d, tk', os⟩) :
    codeAny (model prog w) A (.call (.builtin "object.__setattr__") ⟨[.ref x, .str name tk, v], []⟩) R ⟨hp, g, d, t, os⟩ := by
  have I : W.InstAt hp x { cls := .ref C, data := .fields fv } C none := ⟨hx, rfl, rfl, trivial⟩
  have SF := F.store_object; have hxs : x ≠ hp.objs.size := Nat.ne_of_lt (Heap.lt_size hx)
  have sub : W.Looks (model prog w) hp (isInstance (.ref x) (.type "object")) true := I.type.andThen (W.looks_mroIn X (by unfold W.mroIn; rw [hcd, Option.bind_some, if_neg (by rw [ne]; decide), hob]))
  refine codeAny_call_builtin SF.slot.plain SF.entry (@W.check_slot (model prog w) _ _ ⟨hp, g, d, t, os⟩ "object.__setattr__" "object" "__setattr__" (.ref x) [.str name tk, v] [] _ SF.kind SF.split sub (SF.args (.ref x) (.str name tk) v) ?_)
  have hmr : W.Looks (model prog w) hp (mroOf (.ref C)) cd.mro := (W.looks_clsIn X hcd).andThen .now
  have L3 : W.Looks (model prog w) hp (storeTaker? none) none := .now; have hcls : W.Looks (model prog w) hp (classData C) cd := W.looks_clsIn X hcd
  rw [W.osa_eq, refuse_eq]
  refine wpAny_bind (wpAny_bind (I.type.at (wpAny_bind (hmr.at ?_))))
  rw [hpass]
  refine wpAny_pure (wpAny_bind (I.type.at (wpAny_bind ((W.looks_findIn X ha).at (wpAny_bind (L3.at ?_))))))
  show wpAny _ _ (storeInOwnDict (.ref x) (.ref C) (.str name tk) name v false) _ _ _
  obtain ⟨nm, bs, mro, ns, qn, hd, sn, sb, ab, col, del⟩ := cd
  dsimp only at hh
  subst hh
  unfold storeInOwnDict ownDictForStores
  repeat (first | with_reducible refine HandSPX.store_in_new ?_ ?_ | with_reducible refine wpAny_loadPart_at hx ?_ | with_reducible refine hcls.at ?_ | wp_step)
  · exact ⟨_, #[], _, (Heap.get?_update_ne _ _ _ _ hxs.symm).trans (Heap.get?_push_at rfl rfl), rfl, fun e he => absurd he (by simp), fun _ => rfl⟩
  · intro h' tk' hn' hs
    have hx₁ : (hp.push { cls := .type "dict", data := .dict #[] }).get? x = some { cls := .ref C, data := .fields fv } := Heap.get?_push_of_some _ hx
    refine hq h' tk' hp.objs.size (fun b o hb ho => ?_) (Nat.le_refl _) hxs.symm ?_ hn'
    · exact (hs.2 b (Nat.ne_of_lt (Heap.lt_size ho))).trans ((Heap.get?_update_ne _ _ _ _ hb).trans (Heap.get?_push_of_some _ ho))
    · exact (hs.2 x hxs).trans (Heap.get?_update_self _ hx₁ rfl)
end
end XE
end PySem
namespace XL
open PySem PySem.Spec PyProof.Rows L2
/-- what the written part says of an own exception class straight over B -/
structure ExF (K : PySem.W.Frag) (C : Addr) (B newId initId : String) (bm : List Value) : Prop where
  base : ExcBaseFacts B newId initId bm
  pass : ∀ self, refuseLoop self "__setattr__" (.ref C :: bm) = pure ()
  obj : bm.contains (.type "object") = true
  cls : ∃ nm q N bs sn sub ab col dd k0 k1 k2 k3 k5, K.lookup C = some (excClassObj nm q C N bs bm true sn sub ab col dd k0 k1 k2 k3 k5 newId)
  sa : PySem.W.findIn K (.ref C) "__setattr__" = some (some (.builtin "object.__setattr__"))
  ga : PySem.W.findIn K (.ref C) "__getattribute__" = some (some (.builtin "BaseException.__getattribute__"))
  gt : PySem.W.findIn K (.ref C) "__getattr__" = some none
  exC : PySem.W.subIn K (.ref C) (.type "BaseException") = some true
  kC : PySem.W.keepIn K (.ref C) = true
  hd : PySem.W.hasDictIn K C = true
  ca : PySem.W.findIn K (.ref C) "__class__" = some (some (.builtin "object.__class__"))
  cn : PySem.W.specialIn K (.builtin "object.__class__") "__get__" = some (some (.builtin "getset_descriptor.__get__"))
  ct : PySem.W.takesIn K (.builtin "object.__class__") = some true
  mo : PySem.W.mroIn K C (.type "object") = some true
section
variable {X : Cx} {pins : List (Addr × Obj)} {σ : L2.St} {H : Hp} {s : Shared} {a C dx : Addr} {f : Str} {y : V} {u : Value} {fs : List (Str × V)} {E : Value → Shared → Prop} {A : Around} {B newId initId : String} {bm : List Value}
theorem ost_newG {Q : Unit → Shared → Prop} (T : ExF X.K C B newId initId bm) (I : Inv X pins σ H s) (e : H a = some (exo a C none)) (hno : PySem.W.findIn X.K (.ref C) f = some none) (ry : RelV y u)
    (h : ∀ dx s', H dx = none → dx ≠ a → Inv X pins σ (upd (upd H dx (exd dx [(f, y)])) a (exo a C (some dx))) s' → Q () s') : wpAny (model X.prog X.w) A (setAttr (.ref a) f u) Q E s := by
  obtain ⟨nm, q, N, bs, sn, sub, ab, col, dd, k0, k1, k2, k3, k5, hC⟩ := T.cls
  have hcl : PySem.W.clsIn X.K C = some { name := nm, bases := bs, mro := .ref C :: bm, ns := N, qualname := q, hasDict := true, slotNames := sn, subclasses := sub, abstract := ab, collection := col, hasDel := false } := by unfold PySem.W.clsIn; rw [hC] <;> rfl
  obtain ⟨t1, ho⟩ := exo_at I.hok e
  obtain ⟨hp, g, d, t, os⟩ := s
  refine PySem.W.set_plain I.kIn (ox := { cls := .ref C, dict := none, data := .fields #[.ref t1, .none, .none, .none, .bool false, .none] }) (od := none) ⟨ho, rfl, rfl, trivial⟩ T.sa ?_
  refine PySem.XE.osaG I.kIn ho hcl rfl (by show (Value.ref C :: bm).contains (.type "object") = true; rw [List.contains_cons, T.obj, Bool.or_true]) T.pass rfl hno (fun h' tk' dx k dn dne hx hn => ?_)
  have hnd : H dx = none := I.hok.fresh dn
  have nd : ∀ {b : Addr} {o : Obj}, hp.get? b = some o → b ≠ dx := fun {b o} q => Nat.ne_of_lt (Nat.lt_of_lt_of_le (Heap.lt_size q) dn)
  have na : ∀ {b : Addr}, H b = none → b ≠ a := fun {b} n z => by rw [z, e] at n; cases n
  have Un1 : Un X.fs [] H (upd (upd H dx (exd dx [(f, y)])) a (exo a C (some dx))) hp h' := {
    keep := fun b o q n _ _ => k b o (na n) q
    slot := fun b o q n _ _ => ⟨o.slots, k b o (na n) q⟩
    free := fun b o q n _ => by rw [upd_ne (na n), upd_ne (nd q)]; exact n
    there := fun b o q _ => by
      by_cases hb : b = a
      · exact ⟨_, by rw [hb]; exact hx⟩
      · exact ⟨o, k b o hb q⟩
    tups := fun b xs q => by rw [upd_ne (at_ne e q exo_tup), upd_ne (ne_of_none q hnd)]; exact q
    frzs := fun b o v q => by rw [upd_ne (at_ne e q exo_frz), upd_ne (ne_of_none q hnd)]; exact q
    tbls := fun b ps q => ⟨#[], by rw [upd_ne (at_ne e q exo_tbl), upd_ne (ne_of_none q hnd), q]; simp⟩ }
  refine h dx _ hnd dne (I.un (t' := tk') Un1 fun b o q => ?_)
  by_cases hb : b = a
  · subst hb; rw [upd_same] at q; cases q; exact exo_ok hx
  · rw [upd_ne hb] at q
    by_cases hd : b = dx
    · subst hd; rw [upd_same] at q; cases q
      exact exd_ok hn (relO_put (fs := []) ry fun g => True.intro)
    · rw [upd_ne hd] at q
      refine (I.hok b o q).stay (fun c v hc z => k c v ?_ z) (fun c hc => ?_) fun c xs hc => ?_
      · rcases hc with hc | hc
        · rw [hc]; exact hb
        · exact at_ne e hc exo_own
      · rw [upd_ne (at_ne e hc exo_own), upd_ne (ne_of_none hc hnd)]; exact hc
      · rw [upd_ne (at_ne e hc exo_tup), upd_ne (ne_of_none hc hnd)]; exact hc
theorem initG {us : List Value} {Q : Value → Shared → Prop} (T : ExF X.K C B newId initId bm) (I : Inv X pins σ H s) (e : H a = some (exo a C none)) (hl : us.length ≤ sizeLine) (h : ∀ s', Inv X pins σ H s' → Q .none s') :
    wpAny (model X.prog X.w) A (call (.builtin initId) (.ref a :: us)) Q E s := by
  obtain ⟨nm, q, N, bs, sn, sub, ab, col, dd, k0, k1, k2, k3, k5, hC⟩ := T.cls
  obtain ⟨t1, ho⟩ := exo_at I.hok e
  obtain ⟨hp, g, d, t, os⟩ := s
  refine wpAny_call (PySem.HandSPX.init_base T.base (fun Y => rfl) (I.kIn _ _ hC) ho hl fun h' t2 k hx => ?_)
  have J := I.write (t' := t) (x := a) (e := a) (o := exo a C none) (by rw [e]; exact True.intro) (.inl rfl) k ⟨_, hx⟩ (exo_ok hx)
  have eu : upd H a (exo a C none) = H := by
    funext b
    by_cases hb : b = a
    · rw [hb, upd_same, e]
    · rw [upd_ne hb]
  rw [eu] at J
  exact h _ J
end
theorem inst_of {X : Cx} {pins : List (Addr × Obj)} {σ : L2.St} {H : Hp} {s : Shared} {a C : Addr} {d : Option Addr} (I : Inv X pins σ H s) (ea : H a = some (exo a C d)) (hd : ∀ dd, d = some dd → ∃ fs, H dd = some (exd dd fs)) :
    ∃ (t1 : Addr) , ∃ od, PySem.W.InstAt s.heap a ({ cls := .ref C, dict := d, data := .fields #[.ref t1, .none, .none, .none, .bool false, .none] } : Obj) C od := by
  obtain ⟨t1, ho⟩ := exo_at I.hok ea
  cases d with
  | none => exact ⟨t1, none, ho, rfl, rfl, trivial⟩
  | some dd =>
    obtain ⟨fs, ed⟩ := hd dd rfl
    obtain ⟨mA, hns, hr⟩ := exd_at I.hok ed
    obtain ⟨od, hod, hl⟩ := lookIn_ns hns
    exact ⟨t1, some od, ho, rfl, rfl, hod⟩
/-- B.__init__(self, ..) -/
def tBi (K : PySem.W.Frag) (B newId initId : String) (bm : List Value) (ta : TA) : TE := fun σ H Q => ta σ H fun vs H1 => ∃ (a C : Addr) (ws : List V), vs = .ref a :: ws ∧ ws.length ≤ 1000 ∧ ExF K C B newId initId bm ∧ H1 a = some (exo a C none) ∧ Q .non H1
/-- self.f = e, the first one -/
def tOs1 (K : PySem.W.Frag) (B newId initId : String) (bm : List Value) (f : Str) (to te : TE) : TS := fun D σ H => te σ H fun y H1 => to σ H1 fun x H2 => ∃ a C : Addr, x = .ref a ∧ ExF K C B newId initId bm ∧ PySem.W.findIn K (.ref C) f = some none ∧
  H2 a = some (exo a C none) ∧ ∀ dx, H2 dx = none → dx ≠ a → D.nx σ (upd (upd H2 dx (exd dx [(f, y)])) a (exo a C (some dx)))
section
variable {X : Cx} {o e : Expr} {es : List Expr} {to te : TE} {ta : TA} {f : Str} {p p' p1 p2 pos : Pos} {B newId initId : String} {bm : List Value}
theorem pe_binit {bn : Str} {pl : Sem Bool} (hg : Gl X bn) (hm : X.mg bn = none) (hboot : bootBuiltins bn = some (.type B)) (hty : typeOf (.type B) = pure (.type "type")) (vV : PySem.W.findCls X.K (.type B) (.type "type") "__init__" = some (.val (.builtin initId))) (ha : PA X (e :: es) ta)
    (h1 : bn ≠ "__name__") (h2 : (bn == ("__debug__" : Str)) = false) (hst : Manifest.isStub B = false) (hhd : PySem.W.handedIn (.builtin initId) = true)
    (hc : eval (.Call (.Attribute (.Name bn p1) "__init__" p2) (e :: es) [] pos) X.env = (do
      let ov ← eval (.Name bn p1) X.env
      standAt p2.atName
      let (f, first) ← holding [ov] (getMethod ov "__init__" pl)
      callWith pos f first (backTo pos (starEach (e :: es) X.env)) (backToKw pos (keywordEach [] X.env))) := by rfl)
    (he : starEach (e :: es) X.env = (false, eval e X.env) :: starEach es X.env := by rfl) (hpl : (backTo pos (starEach es X.env)).any (·.1) = false := by rfl) :
    PE X (.Call (.Attribute (.Name bn p1) "__init__" p2) (e :: es) [] pos) (tBi X.K B newId initId bm ta) := by
  refine ⟨fun pins s σ H Q I h => ?_⟩
  refine PySem.W.methodCall_KW (ld_blt I hg hm hboot ?_ h1 h2) hc
  obtain ⟨m, fr⟩ := I.fr
  refine PySem.W.method_type fr I.ok.mod.kin hty hst vV hhd ?_
  show wpAny _ _ (callWith pos (Value.builtin initId) [] (backTo pos (starEach (e :: es) X.env)) []) _ _ _
  refine PyProof.Rows.callWith_method1 (thn (ha.run pos pins _ σ H _ (I.tok _) h) fun us s1 ⟨vs, H1, I1, r1, a, C, ws, ev, hl, T, ea, q⟩ => ?_) he hpl
  subst ev
  cases r1 with
  | @cons _ u0 _ ur ra rw' =>
    obtain rfl : u0 = Value.ref a := ra
    have hlen : ur.length ≤ sizeLine := by rw [← Paired.length rw', sizeLine_eq]; omega
    exact initG T I1 ea hlen fun s' J => ⟨.non, H1, J, rfl, q⟩
theorem ps_os1 (ho : PE X o to) (he : PE X e te) (hs : swapsWith e (some (.Attribute o f p')) pos.line X.env = pure false := by rfl) : PS X (.Assign [.Attribute o f p'] e pos) (tOs1 X.K B newId initId bm f to te) := by
  refine ⟨fun pins s σ H D I h => ?_⟩
  refine plainObj_wpAny_Assign_Attribute (thn (he.run pins s σ H _ I h) fun v s1 ⟨y, H1, I1, r1, q1⟩ => thn (ho.run pins s1 σ H1 _ I1 q1) fun u s2 ⟨x, H2, I2, r2, a, C, ex, T, hno, ea, q⟩ => ?_) hs
  subst ex
  obtain rfl : u = Value.ref a := r2
  exact ost_newG T I2 ea hno r1 fun dx s' n ne J => ⟨σ, _, J, q dx n ne⟩
/-- C(..): a new exception, its own __init__ keeping sp -/
theorem run_exmk {pins : List (Addr × Obj)} {σ : L2.St} {H1 : Hp} {s1 : Shared} {C fI : Addr} {k : Nat} {fd : FuncData} {ps : List Str} {sp : Sp} {us zs : List Value} {kw : List (Str × Value)} {vs : List V} {Q : VK} (T : ExF X.K C B newId initId bm)
    (iC : PySem.W.findIn X.K (.ref C) "__init__" = some (some (.ref fI))) (tI : PySem.W.typeIn X.K (.ref fI) = some (.type "function")) (F1 : FnOk X.prog X.w X.K X.mg X.base CX0 k fI fd ps sp) (hr : Room (k + 1) X.A) (I1 : Inv X pins σ H1 s1) (hz : us.length ≤ 1000)
    (hb : ∀ (s : Shared) (a : Addr), X.K.In s.heap → (Value.ref a :: zs).length = ps.length → BindsTo s fd ⟨.ref a :: us, kw⟩ (ps.zip (.ref a :: zs))) (r : Vals vs zs)
    (h : ∀ a, H1 a = none → sp (.ref a :: vs) (upd H1 a (exo a C none)) (fun v H2 => v = .non ∧ Q (.ref a) H2) E0) : wpAny (model X.prog X.w) X.A (call (.ref C) us kw) (EP X pins σ Q) X.xe s1 := by
  obtain ⟨nm, q, N, bs, sn, sub, ab, col, dd, k0, k1, k2, k3, k5, hC⟩ := T.cls
  obtain ⟨hp, g, dr, tk, os⟩ := s1
  have hsz : hp.objs.size ≤ hp.objs.size + 1 := Nat.le_succ _
  have hn : H1 (hp.objs.size + 1) = none := I1.hok.fresh hsz
  have hq := h (hp.objs.size + 1) hn
  have kk : ∀ b o, hp.get? b = some o → ((hp.push (PySem.W.kdv_tup us)).push (PySem.HandSPX.excO C hp.objs.size)).get? b = some o := fun b o e => Heap.get?_push_of_some _ (Heap.get?_push_of_some _ e)
  have hget : ((hp.push (PySem.W.kdv_tup us)).push (PySem.HandSPX.excO C hp.objs.size)).get? (hp.objs.size + 1) = some (PySem.HandSPX.excO C hp.objs.size) := by heap_get
  have I2 : Inv X pins σ (upd H1 (hp.objs.size + 1) (exo (hp.objs.size + 1) C none)) ⟨(hp.push (PySem.W.kdv_tup us)).push (PySem.HandSPX.excO C hp.objs.size), g, dr, tk, os⟩ := I1.laid (t' := tk) kk hsz (exo_ok hget)
  have r2 : Vals (V.ref (hp.objs.size + 1) :: vs) (Value.ref (hp.objs.size + 1) :: zs) := .cons rfl r
  have hl : (Value.ref (hp.objs.size + 1) :: zs).length = ps.length := by rw [← r2.length]; exact F1.len _ _ _ _ hq
  have hus : us.length ≤ sizeLine := by rw [sizeLine_eq]; omega
  have e0 : Env0 X.prog X.w X.K X.mg X.base (X.A.under (.builtin "type.__call__" ⟨.ref C :: us, kw⟩)) X.stack _ _ := I2.env0.make C us kw
  refine wpAny_call (PySem.XE.callK T.base (I1.kIn _ _ hC) (PySem.W.looks_findIn I1.kIn iC) (fun self => PySem.W.bind_fn I1.kIn self tI) hus
    (codeAny_mono (F1.run _ X.stack _ _ ⟨Value.ref (hp.objs.size + 1) :: us, kw⟩ (Value.ref (hp.objs.size + 1) :: zs) _ _ E0 (hr.make C us kw) e0 (hb _ _ I2.kIn hl) r2 hq) fun r s' hq' => ?_))
  cases r with
  | error er => exact False.elim hq'
  | ok fl =>
    cases fl with
    | ret u =>
      obtain ⟨v, H2, J, rv, ev, q2⟩ := I2.after hq'
      subst ev
      exact ⟨rv, .ref (hp.objs.size + 1), H2, J, rfl, q2⟩
    | next => exact False.elim hq'
    | brk => exact False.elim hq'
    | cont => exact False.elim hq'
variable {x : Str} {C fI : Addr} {k : Nat} {fd : FuncData} {ps ks : List Str} {sp : Sp} {kws : List Keyword} {tk : TA} {g : List Value → List Value → List Value} {gV : List V → List V → List V}
theorem pe_exmk (T : ExF X.K C B newId initId bm) (iC : PySem.W.findIn X.K (.ref C) "__init__" = some (some (.ref fI))) (tI : PySem.W.typeIn X.K (.ref fI) = some (.type "function")) (F1 : FnOk X.prog X.w X.K X.mg X.base CX0 k fI fd ps sp) (hr : Room (k + 1) X.A) (hb : Binds X.K fd ps [])
    (hg : Gl X x) (hm : X.mg x = some (.ref C)) (ha : PA X (e :: es) ta) (hdb : (x == ("__debug__" : Str)) = false := by decide) (he : starEach (e :: es) X.env = (false, eval e X.env) :: starEach es X.env := by rfl) (hpl : (backTo pos (starEach es X.env)).any (·.1) = false := by rfl) :
    PE X (.Call (.Name x p) (e :: es) [] pos) (fun σ H Q => ta σ H fun vs H1 => vs.length ≤ 1000 ∧ ∀ a, H1 a = none → sp (.ref a :: vs) (upd H1 a (exo a C none)) (fun v H2 => v = .non ∧ Q (.ref a) H2) E0) := by
  refine ⟨fun pins s σ H Q I h => wpAny_Call_Name_kw (ld_glob I hg hm ?_ hdb)⟩
  refine PySem.W.callWith_K (h₀ := X.base) I.ok.mod.kin T.kC (thn (ha.run pos pins s σ H _ I h) fun us s1 ⟨vs, H1, I1, r1, hz, q1⟩ => ⟨I1.kIn, ?_⟩) he hpl
  refine run_exmk (us := us) T iC tI F1 hr I1 (by rw [← r1.length]; exact hz) (fun s a hk hl => ?_) r1 q1
  have b2 := hb s (.ref a :: us) hk (by rw [List.append_nil]; exact hl)
  rwa [List.append_nil] at b2
theorem pe_exmk0 (T : ExF X.K C B newId initId bm) (iC : PySem.W.findIn X.K (.ref C) "__init__" = some (some (.ref fI))) (tI : PySem.W.typeIn X.K (.ref fI) = some (.type "function")) (F1 : FnOk X.prog X.w X.K X.mg X.base CX0 k fI fd ps sp) (hr : Room (k + 1) X.A) (hb : Binds X.K fd ps [])
    (hg : Gl X x) (hm : X.mg x = some (.ref C)) (hdb : (x == ("__debug__" : Str)) = false := by decide) :
    PE X (.Call (.Name x p) [] [] pos) (fun σ H Q => ∀ a, H a = none → sp [.ref a] (upd H a (exo a C none)) (fun v H2 => v = .non ∧ Q (.ref a) H2) E0) := by
  refine ⟨fun pins s σ H Q I h => wpAny_Call_Name_kw (ld_glob I hg hm ?_ hdb)⟩
  refine PySem.W.callWith_K0 I.kIn T.kC (run_exmk (us := []) (kw := []) (zs := []) (vs := []) T iC tI F1 hr I (Nat.zero_le _) (fun s a hk hl => ?_) .nil h)
  have b2 := hb s [.ref a] hk (by rw [List.append_nil]; exact hl)
  rwa [List.append_nil] at b2
/-- C(k = v), one keyword -/
theorem pe_exmkK {kn : Str} (T : ExF X.K C B newId initId bm) (iC : PySem.W.findIn X.K (.ref C) "__init__" = some (some (.ref fI))) (tI : PySem.W.typeIn X.K (.ref fI) = some (.type "function")) (F1 : FnOk X.prog X.w X.K X.mg X.base CX0 k fI fd ps sp) (hr : Room (k + 1) X.A)
    (hb : ∀ (s : Shared) (a : Addr) (z : Value), X.K.In s.heap → (2 : Nat) = ps.length → BindsTo s fd ⟨[.ref a], [(kn, z)]⟩ (ps.zip [.ref a, z])) (hg : Gl X x) (hm : X.mg x = some (.ref C)) (hkw : PK X kws tk)
    (hall : (backToKw pos (keywordEach kws X.env)).all (·.1.isSome) = true := by rfl) (hks : (backToKw pos (keywordEach kws X.env)).filterMap (·.1) = [kn] := by rfl) (hdb : (x == ("__debug__" : Str)) = false := by decide)
    (hpl : ((backTo pos (starEach [] X.env)).any (·.1) || (backToKw pos (keywordEach kws X.env)).any (·.1.isNone)) = false := by rfl) :
    PE X (.Call (.Name x p) [] kws pos) (fun σ H Q => tk σ H fun zs H1 => zs.length = 1 ∧ ∀ a, H1 a = none → sp (.ref a :: zs) (upd H1 a (exo a C none)) (fun v H2 => v = .non ∧ Q (.ref a) H2) E0) := by
  refine ⟨fun pins s σ H Q I h => wpAny_Call_Name_kw (ld_glob I hg hm ?_ hdb)⟩
  refine PySem.W.callWith_KW0 (h₀ := X.base) I.ok.mod.kin T.kC hall (thn (hkw.run pos pins s σ H _ I h) fun ws s2 ⟨zs, H2, I2, rz, hz1, q2⟩ => ⟨I2.kIn, ?_⟩) hpl
  rw [hks]
  have hw : ws.length = 1 := by rw [← rz.length]; exact hz1
  match ws, hw, rz with
  | [z], _, rz => exact run_exmk (us := []) T iC tI F1 hr I2 (Nat.zero_le _) (fun s a hk hl => hb s a z hk hl) rz q2
/-- e.f of such an exception -/
theorem pe_exget {n : Str} (T : ExF X.K C B newId initId bm) (hno : PySem.W.findIn X.K (.ref C) n = some none) (he : PE X e te) (hb : attributeBase e n X.env (eval e X.env) = eval e X.env := by rfl) :
    PE X (.Attribute e n pos) (fun σ H Q => te σ H fun x H1 => ∃ a dd fs v, x = .ref a ∧ H1 a = some (exo a C (some dd)) ∧ H1 dd = some (exd dd fs) ∧ fs.lookup n = some v ∧ Q v H1) := by
  refine ⟨fun pins s σ H Q I h => attr_of hb (thn (he.run pins s σ H _ I h) fun u s1 hh => ?_)⟩
  obtain ⟨x, H1, I1, rx, a, dd, fs, v, ex, ea, ed, l, q⟩ := hh
  subst ex
  obtain rfl : u = Value.ref a := rx
  obtain ⟨t1, ho⟩ := exo_at I1.hok ea
  obtain ⟨mA, hns, hr⟩ := exd_at I1.hok ed
  obtain ⟨od, hod, hl⟩ := lookIn_ns hns
  obtain ⟨u, hu, ru⟩ := RelO.some_of (v := v) (o := mA n) (by rw [← l]; exact hr n)
  have J : PySem.W.InstAt s1.heap a { cls := .ref C, dict := some dd, data := .fields #[.ref t1, .none, .none, .none, .bool false, .none] } C (some od) := ⟨ho, rfl, rfl, hod⟩
  exact HandSPX.exc_get I1.kIn J T.ga T.gt T.exC (PySem.W.findObj_own T.hd hno rfl (by rw [hl, hu])) (handed_of ru) ⟨v, H1, I1.tok _, ru, q⟩
/-- isinstance(e, c) -/
theorem call_isiX : CallR X (.builtin "isinstance") (fun xs H Q => ∃ (a C : Addr) (d : Option Addr) (c : V) (u : Value) (b : Bool) (B newId initId : String) (bm : List Value), xs = [.ref a, c] ∧ ExF X.K C B newId initId bm ∧ H a = some (exo a C d) ∧ (∀ dd, d = some dd → ∃ fs, H dd = some (exd dd fs)) ∧ ClsV c u ∧ PySem.W.kitOne X.K (.ref C) u = some b ∧ Q (.bl b) H) := by
  intro pins s σ H xs us Q I r h
  obtain ⟨a, C, d, c, u, b, B, newId, initId, bm, rfl, T, ea, hd, k, e, q⟩ := h
  obtain ⟨u1, u2, rfl, r1, r2⟩ := vals2 r
  have e2 := k.eq r2
  subst e2
  obtain rfl : u1 = Value.ref a := r1
  obtain ⟨t1, od, J⟩ := inst_of I ea hd
  obtain ⟨nm, q0, N, bs, sn, sub, ab, col, dd, k0, k1, k2, k3, k5, hC⟩ := T.cls
  have hcl : (PySem.W.clsIn X.K C).isSome = true := by unfold PySem.W.clsIn; rw [hC]; rfl
  exact PySem.W.kia_one (PySem.W.kitx_exc hcl T.ga T.gt T.exC T.ca T.cn T.ct T.mo) I.kIn J e (fun z => nomatch z) fun tk => ⟨.bl b, H, I.tok tk, rfl, q⟩
theorem call_isiXT : CallR X (.builtin "isinstance") (fun xs H Q => ∃ (a C tp : Addr) (d : Option Addr) (cs : List V) (ws : List Value) (b : Bool) (B newId initId : String) (bm : List Value), xs = [.ref a, .ref tp] ∧ ExF X.K C B newId initId bm ∧ H a = some (exo a C d) ∧ (∀ dd, d = some dd → ∃ fs, H dd = some (exd dd fs)) ∧ H tp = some (.tup cs) ∧ Paired ClsV cs ws ∧ PySem.W.kitAny X.K (.ref C) ws = some b ∧ Q (.bl b) H) := by
  intro pins s σ H xs us Q I r h
  obtain ⟨a, C, tp, d, cs, ws, b, B, newId, initId, bm, rfl, T, ea, hd, hT, k, e, q⟩ := h
  obtain ⟨u1, u2, rfl, r1, r2⟩ := vals2 r
  obtain rfl : u1 = Value.ref a := r1
  cases (show u2 = Value.ref tp from r2)
  obtain ⟨t1, od, J⟩ := inst_of I ea hd
  obtain ⟨nm, q0, N, bs, sn, sub, ab, col, dd, k0, k1, k2, k3, k5, hC⟩ := T.cls
  have hcl : (PySem.W.clsIn X.K C).isSome = true := by unfold PySem.W.clsIn; rw [hC]; rfl
  obtain ⟨_, its, rv, o, h1, h2, n, h3⟩ := (show ObjOk X.prog X.w H s.heap tp (.tup cs) from I.hok tp _ hT)
  have e3 := ClsV.all k rv
  subst e3
  obtain ⟨oc, od', dt, sl⟩ := o
  simp only at h2 h3
  subst h2 h3
  exact PySem.W.kia_tup (PySem.W.kitx_exc hcl T.ga T.gt T.exC T.ca T.cn T.ct T.mo) I.kIn J h1 e (fun z => nomatch z) fun tk => ⟨.bl b, H, I.tok tk, rfl, q⟩
end
end XL
namespace XL
open PySem PySem.Spec PyProof.Rows L2
/-! ### a caught exception that is kept: its class and its dict are known -/
def exk (a : Addr) (cls : Value) (d : Option Addr) : HO := .ext fun h => ∃ (oe : Obj) (vs : Array Value), h.get? a = some oe ∧ oe.cls = cls ∧ oe.dict = d ∧ oe.data = .fields vs
theorem exk_ok {P : Program} {w : World} {H : Hp} {h : Heap} {a : Addr} {cls : Value} {d : Option Addr} {oe : Obj} {vs : Array Value} (he : h.get? a = some oe) (hc : oe.cls = cls) (hd : oe.dict = d) (hf : oe.data = .fields vs) : ObjOk P w H h a (exk a cls d) :=
  ⟨⟨oe, vs, he, hc, hd, hf⟩, ⟨_, he⟩, fun h1 h2 z k => by
    obtain ⟨o, v, q, r⟩ := z
    exact ⟨o, v, k _ q, r⟩⟩
theorem exk_at {P : Program} {w : World} {H : Hp} {h : Heap} {a : Addr} {cls : Value} {d : Option Addr} (hok : HOk P w H h) (he : H a = some (exk a cls d)) : ∃ (oe : Obj) (vs : Array Value), h.get? a = some oe ∧ oe.cls = cls ∧ oe.dict = d ∧ oe.data = .fields vs := by
  have x : ObjOk P w H h a (.ext fun h => ∃ (oe : Obj) (vs : Array Value), h.get? a = some oe ∧ oe.cls = cls ∧ oe.dict = d ∧ oe.data = .fields vs) := hok a _ he
  exact x.1
theorem flying_keep {B h h' : Heap} {l : List Env} {a : Addr} {Z : Obj → Prop} (x : HandSPX.FlyingZ B l a Z h) (k : ∀ b o, h.get? b = some o → h'.get? b = some o) : HandSPX.FlyingZ B l a Z h' := by
  obtain ⟨x1, x2, x3, oe, vs, T, oT, ts, e1, e2, e3, e4, e5, e6, e7, e8, e9⟩ := x
  exact ⟨fun b o e => k b o (x1 b o e), x2, x3.of_keeps fun b o e _ => ⟨o, k b o e, rfl⟩, oe, vs, T, oT, ts, k _ _ e1, e2, e3, e4, e5, e6, k _ _ e7, e8, e9⟩
section
variable {X : Cx} {pins : List (Addr × Obj)} {σ : L2.St} {H : Hp} {s : Shared} {a : Addr} {oe : Obj} {vs : Array Value} {cls : Value} {d : Option Addr}
theorem Inv.caught (S : Inv (X.suite a ((a, oe) :: (X.pn ++ pins))) [] σ H s) (ok : X.Ok) (n0 : X.s_0.heap.get? a = none) (np : ∀ p ∈ X.pn ++ pins, p.1 ≠ a) (hz : Zc cls d oe) (hd : oe.data = .fields vs) :
    Inv X pins σ (upd H a (exk a cls d)) s := by
  have U := S.unsuite ok
  obtain ⟨ea, na, nL, nF, nc⟩ := S.pin (a, oe) (by rw [List.append_nil]; exact List.mem_cons_self ..)
  have na' : H a = none := na
  have ne : ∀ {b : Addr} {o : HO}, H b = some o → b ≠ a := fun {b o} e z => by rw [z, na'] at e; cases e
  refine ⟨ok, U.os, U.bare, ⟨U.base.keep, U.base.slot, fun b o e n hx => ?_, U.base.there, fun b ys e => ?_, fun b o u e => ?_, fun b ps e => ?_⟩, U.loc, U.cell, ?_, fun x c e => ?_, fun p hp => ?_, fun b o e => ?_, U.len⟩
  · rw [upd_ne (fun z => by rw [z, n0] at e; cases e)]; exact U.base.free b o e n hx
  · have q := U.base.tups b ys e
    rw [upd_ne (ne q)]; exact q
  · have q := U.base.frzs b o u e
    rw [upd_ne (ne q)]; exact q
  · obtain ⟨m, q⟩ := U.base.tbls b ps e
    exact ⟨m, by rw [upd_ne (ne q)]; exact q⟩
  · rw [upd_ne (fun z => nL z.symm)]; exact U.free
  · have hc : c ≠ a := fun z => by
      obtain ⟨w', o, ho, hdat⟩ := U.cell x c e
      rw [z] at ho
      have e2 : some o = some oe := ho.symm.trans ea
      cases e2
      exact nc w' hdat
    rw [upd_ne hc]; exact U.freeC x c e
  · obtain ⟨a1, a2, a3⟩ := U.pin p hp
    exact ⟨a1, by rw [upd_ne (np p hp)]; exact a2, a3⟩
  · by_cases hb : b = a
    · subst hb
      rw [upd_same] at e
      cases e
      exact exk_ok ea hz.1 hz.2 hd
    · rw [upd_ne hb] at e
      refine (U.hok b o e).stay (fun c v _ q => q) (fun c q => ?_) fun c ys q => ?_
      · rw [upd_ne (ne q)]; exact q
      · rw [upd_ne (ne q)]; exact q
end
/-- names of classes, read in an except clause -/
def EvAll (X : Cx) (es : List Expr) (cs : List Value) : Prop := ∀ (a : Addr) (pn pins : List (Addr × Obj)) (σ : L2.St) (H : Hp) (s : Shared) (pos : Pos) (Q : List Value → Shared → Prop) (E : Value → Shared → Prop), Inv (X.suite a pn) pins σ H s → Q cs s →
  wpAny (model X.prog X.w) (X.A.mark (some (.ref a))) (spliced (backTo pos (starEach es X.env))) Q E s
theorem ev_nil {X : Cx} : EvAll X [] [] := fun a pn pins σ H s pos Q E I q => args_nil q
theorem ev_cons {X : Cx} {x : Str} {p : Pos} {es : List Expr} {c : Value} {cs : List Value} (hg : Gl X x) (hm : X.mg x = some c) (r : EvAll X es cs) (hdb : (x == ("__debug__" : Str)) = false := by decide)
    (he : starEach (.Name x p :: es) X.env = (false, eval (.Name x p) X.env) :: starEach es X.env := by rfl) : EvAll X (.Name x p :: es) (c :: cs) := fun a pn pins σ H s pos Q E I q =>
  args_cons (ld_glob (X := X.suite a pn) I hg hm (r a pn pins σ H s pos _ E I q) hdb) he
/-- a tuple of such classes, against an exception -/
def ExTup (cs : List Value) : Prop := ∀ (M : Model) (K : PySem.W.Frag) (h : Heap) (cls : Value) (tp e : Addr) (b : Bool), K.In h → PySem.W.Looks M h (typeOf (.ref e)) cls → h.get? tp = some { cls := .type "tuple", data := .seq cs.toArray } → PySem.W.exmAny K cls cs = some b → PySem.W.Looks M h (excMatches (.ref e) (.ref tp)) b
theorem ext2 (c1 c2 : Value) : ExTup [c1, c2] := fun M K h cls tp e b k l p x => PySem.W.exm_tup2 k l p x
theorem ext3 (c1 c2 c3 : Value) : ExTup [c1, c2, c3] := fun M K h cls tp e b k l p x => PySem.W.exm_tup3 k l p x
theorem ext4 (c1 c2 c3 c4 : Value) : ExTup [c1, c2, c3, c4] := fun M K h cls tp e b k l p x => PySem.W.exm_tup4 k l p x
/-- what 'except (x, ..) as n' wishes of what the body raises; all is caught -/
def wCt (K : PySem.W.Frag) (cs : List Value) (i : Nat) (ts : Addr → Value → Option Addr → TS) (D : Ends) : WX := fun cls d σ H => PySem.W.exmAny K cls cs = some true ∧ ∀ a, H a = none →
  ts a cls d { nx := fun σ' H' => D.nx (σ'.set i none) (upd H' a (exk a cls d)), rt := fun v H' => D.rt v (upd H' a (exk a cls d)), bk := fun σ' H' => D.bk (σ'.set i none) (upd H' a (exk a cls d)), ct := fun σ' H' => D.ct (σ'.set i none) (upd H' a (exk a cls d)) } (σ.set i (some (.ref a))) H
section
variable {X : Cx} {n : Str} {es : List Expr} {cs : List Value} {i kk : Nat} {body suite : List Stmt} {b₀ : Stmt} {tp pos pos' : Pos} {tb : WX → TS} {ts : Addr → Value → Option Addr → TS}
theorem ps_try_ct (hs : X.stack = X.env :: X.outer) (hf : X.env.frame = some X.env.locals) (hN : X.N.Nodup) (hi : X.N[i]? = some n) (hln : X.env.kindOf n = some .local) (ev : EvAll X es cs) (hx : ExTup cs) (hex : X.ex = []) (hcs : cs.length ≤ 1000)
    (hb : ∀ (W : WX) (pn : List (Addr × Obj)) (xe : Value → Shared → Prop), Takes (X.tr pn xe) W → PassesOwn (model X.prog X.w) X.A X.env xe → PSs (X.tr pn xe) body (tb W))
    (hsu : ∀ (a : Addr) (oe : Obj) (cls : Value) (d : Option Addr) (pn : List (Addr × Obj)), Zc cls d oe → (∃ vs, oe.data = .fields vs) → PSs (X.suite a ((a, oe) :: pn)) (b₀ :: suite) (ts a cls d)) :
    PS X (.Try body [.ExceptHandler (some (.Tuple es kk tp)) (some n) (b₀ :: suite) pos'] [] [] pos) (fun D σ H => tb (wCt X.K cs i ts D) D σ H) := by
  refine ⟨fun pins s σ H D I h => ?_⟩
  have ok := I.ok
  have hfr : X.A.frames = some (X.env :: X.outer) := by rw [ok.frames, hs]
  have hloc : Loc X.env.scope n := .inl hln
  refine wpAny_Try_except ?_
  refine wpAny_mono ((hb (wCt X.K cs i ts D) (X.pn ++ pins) (fun e s₁ => wpAny (model X.prog X.w) X.A (noteFrame e X.env) (fun _ s₂ => wpAny (model X.prog X.w) X.A (setFlight e none) (fun _ s₃ =>
    wpAny (model X.prog X.w) X.A (handleBy e X.env [.ExceptHandler (some (.Tuple es kk tp)) (some n) (b₀ :: suite) pos']) (SP X pins D) X.xe s₃) X.xe s₂) X.xe s₁) (fun u s' xx => ?_) PassesOwn.looking).run [] s σ H D (I.toTry _) h) (fun f s1 hsp => ?_) (fun e s1 he => he)
  · obtain ⟨a, B, sI, pins', σ', H', cls, d, rfl, J', nb, up, sky, na, os, ag, hb1, hyes⟩ := xx
    have J : Inv X pins σ' H' sI := J'.ofTry ok
    have sky' : Sky B (X.env :: X.outer) a (Zc cls d) X.env.locals s'.heap := by rw [← hs]; exact sky
    have nB : B.get? a = none := by
      rcases sky with z | z | z
      · exact z.2.1
      · exact z.2.1
      · exact z.2.1
    refine Sky.land Zc.steady hfr hf sky' fun h3 fl3 up3 => ?_
    obtain ⟨oe3, vs3, he3, hz3, hd3⟩ := fl3.there
    have notFr : ∀ {h : Heap} {o : Obj} {vs : Array Value}, h.FunFrames B (X.env :: X.outer) → h.get? a = some o → o.data = .fields vs → a ∉ frs (X.env :: X.outer) := fun {h o vs} ff e dd hm => by
      obtain ⟨_, o', e', hnf⟩ := ff.mem hm
      rw [e] at e'
      cases e'
      exact hnf _ dd
    have nfr := notFr fl3.2.2.1 he3 hd3
    have nL : a ≠ X.env.locals := fun z => nfr (List.mem_filterMap.mpr ⟨X.env, List.mem_cons_self, by rw [hf, z]⟩)
    have nF : a ∉ X.fs := fun hm => by
      obtain ⟨e, he, q⟩ := List.mem_filterMap.mp hm
      exact nfr (List.mem_filterMap.mpr ⟨e, List.mem_cons_of_mem _ he, q⟩)
    have nI : sI.heap.get? a = none := by
      cases q : sI.heap.get? a with
      | none => rfl
      | some o =>
        have := nb a o q (by rw [hs]; exact nfr)
        rw [nB] at this; cases this
    have n0 : X.s_0.heap.get? a = none := by
      cases q : X.s_0.heap.get? a with
      | none => rfl
      | some o =>
        obtain ⟨o', e⟩ := J.base.there a o q (by rw [hex]; simp)
        rw [nI] at e; cases e
    have np : ∀ p ∈ X.pn ++ pins, p.1 ≠ a := fun p hp z => by
      obtain ⟨e, _⟩ := J.pin p hp
      rw [z, nI] at e; cases e
    have J3 : Inv X pins σ' H' { s' with heap := h3 } := J.landed nb fl3.1 (up.trans up3) os ag
    have S3 := J3.suite he3 hd3 na nL nF
    refine wpAny_handleBy_cons (codeAny_handlers_test ?_) (by intro q; cases q)
    refine Tuple_ (ev a _ [] σ' H' _ _ _ _ S3 (wpAny_newTuple ?_ (by rw [sizeLine_eq]; omega)))
    have k3 : ∀ b o, h3.get? b = some o → (h3.push { cls := .type "tuple", data := .seq cs.toArray }).get? b = some o := fun b o e => Heap.get?_push_of_some _ e
    have fl3' := flying_keep fl3 k3
    have J3' : Inv X pins σ' H' { s' with heap := h3.push { cls := .type "tuple", data := .seq cs.toArray } } := J3.kept (t' := s'.toks) k3
    have LT : PySem.W.Looks (model X.prog X.w) (h3.push { cls := .type "tuple", data := .seq cs.toArray }) (typeOf (.ref a)) cls := fun A Q E s k q => wpAny_typeOf_ref (k _ _ (k3 _ _ he3)) (by rw [hz3.1]; exact q)
    refine (hx (model X.prog X.w) X.K _ cls _ a true J3'.kIn LT (Heap.get?_push_size _ rfl) hb1).here ?_
    refine codeAny_handlers_suite_as ?_
    refine HandSPX.lands_againZ fl3' fun h4 fl4 up4 => ?_
    have up34 : h3.UpToSlots h4 := fun b o e hn => up4 b o (k3 b o e) hn
    have J4 : Inv X pins σ' H' { s' with heap := h4 } := J.landed nb fl4.1 ((up.trans up3).trans up34) os ag
    obtain ⟨oe4, vs4, he4, hz4, hd4⟩ := fl4.there
    have S4 := J4.suite he4 hd4 na nL nF
    refine store_ok (X := X.suite a ((a, oe4) :: (X.pn ++ pins))) (v := .ref a) S4 hN hi hloc rfl (fun s5 S5 => ?_) (.inr hln)
    refine wpAny_mono ((hsu a oe4 cls d (X.pn ++ pins) hz4 ⟨_, hd4⟩).run [] s5 _ H' _ S5 (hyes a na)) (fun f s6 hsp => ?_) (fun _ _ z => False.elim z)
    have fin : ∀ {σ6 : L2.St} {H6 : Hp} {Q : Shared → Prop}, Inv (X.suite a ((a, oe4) :: (X.pn ++ pins))) [] σ6 H6 s6 → (∀ s7, Inv X pins (σ6.set i none) (upd H6 a (exk a cls d)) s7 → Q s7) →
        wpAny (model X.prog X.w) X.A (do bindName X.env n .none; unbindBehindTheSuite X.env n pos') (fun _ s7 => Q s7) X.xe s6 := fun {σ6 H6 Q} S6 hq =>
      gone_ok (X := X.suite a ((a, oe4) :: (X.pn ++ pins))) S6 hN hi hln fun s7 S7 => hq s7 (Inv.caught S7 ok n0 np hz4 hd4)
    cases f with
    | next =>
      obtain ⟨σ6, H6, S6, q6⟩ := hsp
      exact fin S6 fun s7 J7 => ⟨_, _, J7, q6⟩
    | brk =>
      obtain ⟨σ6, H6, S6, q6⟩ := hsp
      exact fin S6 fun s7 J7 => ⟨_, _, J7, q6⟩
    | cont =>
      obtain ⟨σ6, H6, S6, q6⟩ := hsp
      exact fin S6 fun s7 J7 => ⟨_, _, J7, q6⟩
    | ret u =>
      obtain ⟨v6, σ6, H6, S6, r6, q6⟩ := hsp
      exact fin S6 fun s7 J7 => ⟨_, _, _, J7, r6, q6⟩
  · cases f with
    | next =>
      obtain ⟨σ', H', J', q⟩ := hsp
      exact wpAny_execs_nil ⟨σ', H', J'.ofTry ok, q⟩
    | brk =>
      obtain ⟨σ', H', J', q⟩ := hsp
      exact ⟨σ', H', J'.ofTry ok, q⟩
    | cont =>
      obtain ⟨σ', H', J', q⟩ := hsp
      exact ⟨σ', H', J'.ofTry ok, q⟩
    | ret u =>
      obtain ⟨v, σ', H', J', r, q⟩ := hsp
      exact ⟨v, σ', H', J'.ofTry ok, r, q⟩
end
end XL
namespace XL
open PySem PySem.Spec PyProof.Rows L2
section
variable {X : Cx} {e : Expr} {es : List Expr} {te : TE} {ta : TA} {p pos : Pos} {B newId initId : String} {bm : List Value} {x : Str} {C fI : Addr} {k : Nat} {fd : FuncData} {ps : List Str} {sp : Sp}
/-- raise x(e, ..): an own exception with its own __init__ that stores fields -/
theorem pmk_ex (T : ExF X.K C B newId initId bm) (tyC : PySem.W.typeIn X.K (.ref C) = some (.type "type")) (iC : PySem.W.findIn X.K (.ref C) "__init__" = some (some (.ref fI))) (tI : PySem.W.typeIn X.K (.ref fI) = some (.type "function")) (F1 : FnOk X.prog X.w X.K X.mg X.base CX0 k fI fd ps sp) (hr : Room (k + 1) X.A) (hb : Binds X.K fd ps [])
    (hg : Gl X x) (hm : X.mg x = some (.ref C)) (ha : PA X (e :: es) ta) (hdb : (x == ("__debug__" : Str)) = false := by decide) (he : starEach (e :: es) X.env = (false, eval e X.env) :: starEach es X.env := by rfl) (hpl : (backTo pos (starEach es X.env)).any (·.1) = false := by rfl) :
    PMk X (.Call (.Name x p) (e :: es) [] pos) (fun σ H Q => ta σ H fun vs H1 => vs.length ≤ 1000 ∧ ∀ a, H1 a = none → sp (.ref a :: vs) (upd H1 a (exo a C none)) (fun v H2 => v = .non ∧ ∃ d fs, H2 a = some (exo a C (some d)) ∧ H2 d = some (exd d fs) ∧ H1 d = none ∧ Q (.ref C) (some d) (upd (del H2 a) d (.xd fs))) E0) := by
  intro pins s σ H Q I h
  obtain ⟨nm, q, N, bs, sn, sub, ab, col, dd, k0, k1, k2, k3, k5, hC⟩ := T.cls
  refine wpAny_Call_Name_kw (ld_glob I hg hm ?_ hdb)
  refine PySem.W.callWith_K (h₀ := X.base) I.ok.mod.kin T.kC (thn (ha.run pos pins s σ H _ I h) fun us s1 ⟨vs, H1, I1, r1, hz, q1⟩ => ⟨I1.kIn, ?_⟩) he hpl
  show wpAny _ _ (call (.ref C) us) _ _ _
  obtain ⟨hp, g, dr, tk, os⟩ := s1
  have hsz : hp.objs.size ≤ hp.objs.size + 1 := Nat.le_succ _
  have hq := q1 (hp.objs.size + 1) (I1.hok.fresh hsz)
  have kk : ∀ b o, hp.get? b = some o → ((hp.push (PySem.W.kdv_tup us)).push (PySem.HandSPX.excO C hp.objs.size)).get? b = some o := fun b o e => Heap.get?_push_of_some _ (Heap.get?_push_of_some _ e)
  have hget : ((hp.push (PySem.W.kdv_tup us)).push (PySem.HandSPX.excO C hp.objs.size)).get? (hp.objs.size + 1) = some (PySem.HandSPX.excO C hp.objs.size) := by heap_get
  have I2 : Inv X pins σ (upd H1 (hp.objs.size + 1) (exo (hp.objs.size + 1) C none)) ⟨(hp.push (PySem.W.kdv_tup us)).push (PySem.HandSPX.excO C hp.objs.size), g, dr, tk, os⟩ := I1.laid (t' := tk) kk hsz (exo_ok hget)
  have r2 : Vals (V.ref (hp.objs.size + 1) :: vs) (Value.ref (hp.objs.size + 1) :: us) := .cons rfl r1
  have hl : (Value.ref (hp.objs.size + 1) :: us).length = ps.length := by rw [← r2.length]; exact F1.len _ _ _ _ hq
  have hus : us.length ≤ sizeLine := by rw [← r1.length, sizeLine_eq]; omega
  have e0 : Env0 X.prog X.w X.K X.mg X.base (X.A.under (.builtin "type.__call__" ⟨.ref C :: us, []⟩)) X.stack _ _ := I2.env0.make C us []
  have hb2 : ∀ s : Shared, X.K.In s.heap → BindsTo s fd ⟨.ref (hp.objs.size + 1) :: us, []⟩ (ps.zip (.ref (hp.objs.size + 1) :: us)) := fun s hk => by
    have b2 := hb s (.ref (hp.objs.size + 1) :: us) hk (by rw [List.append_nil]; exact hl)
    rwa [List.append_nil] at b2
  refine wpAny_call (PySem.XE.callK T.base (I1.kIn _ _ hC) (PySem.W.looks_findIn I1.kIn iC) (fun self => PySem.W.bind_fn I1.kIn self tI) hus
    (codeAny_mono (F1.run _ X.stack _ _ ⟨Value.ref (hp.objs.size + 1) :: us, []⟩ (Value.ref (hp.objs.size + 1) :: us) _ _ E0 (hr.make C us []) e0 (hb2 _ I2.kIn) r2 hq) fun r s' hq' => ?_))
  cases r with
  | error er => exact False.elim hq'
  | ok fl =>
    cases fl with
    | ret u =>
      obtain ⟨v, H2, os2, bare2, un2, hok2, rv, ev, d, fs, ea, ed, hd1, q2⟩ := hq'
      subst ev
      obtain ⟨h2, g2, d2, t2, os'⟩ := s'
      exact ⟨rv, mk_end (raises_own T.exC tyC) I1 hsz kk un2 hok2 os2 bare2 ea ed hd1 q2⟩
    | next => exact False.elim hq'
    | brk => exact False.elim hq'
    | cont => exact False.elim hq'
/-! ### the kept one: isinstance, fields -/
theorem inst_k {pins : List (Addr × Obj)} {σ : L2.St} {H : Hp} {s : Shared} {a C : Addr} {d : Option Addr} (I : Inv X pins σ H s) (ea : H a = some (exk a (.ref C) d)) (hd : ∀ dd, d = some dd → ∃ fs, H dd = some (.xd fs)) : ∃ oe od, PySem.W.InstAt s.heap a oe C od := by
  obtain ⟨oe, vs, ho, hc, hdd, hf⟩ := exk_at I.hok ea
  cases d with
  | none => exact ⟨oe, none, ho, hc, by unfold PySem.W.notCls; rw [hf], by rw [hdd]; trivial⟩
  | some dd =>
    obtain ⟨fs, ed⟩ := hd dd rfl
    obtain ⟨mA, hns, hr⟩ := (show ObjOk X.prog X.w H s.heap dd (.xd fs) from I.hok dd _ ed)
    obtain ⟨od, hod, hl⟩ := lookIn_ns hns
    exact ⟨oe, some od, ho, hc, by unfold PySem.W.notCls; rw [hf], by rw [hdd]; exact hod⟩
def rIsK (K : PySem.W.Frag) : List V → Hp → VK → Prop := fun xs H Q => ∃ (a C : Addr) (d : Option Addr) (c : V) (u : Value) (b : Bool) (B newId initId : String) (bm : List Value), xs = [.ref a, c] ∧ ExF K C B newId initId bm ∧ H a = some (exk a (.ref C) d) ∧ (∀ dd, d = some dd → ∃ fs, H dd = some (.xd fs)) ∧ ClsV c u ∧ PySem.W.kitOne K (.ref C) u = some b ∧ Q (.bl b) H
theorem call_isK : CallR X (.builtin "isinstance") (rIsK X.K) := by
  intro pins s σ H xs us Q I r h
  obtain ⟨a, C, d, c, u, b, B, newId, initId, bm, rfl, T, ea, hd, k, e, q⟩ := h
  obtain ⟨u1, u2, rfl, r1, r2⟩ := vals2 r
  have e2 := k.eq r2
  subst e2
  obtain rfl : u1 = Value.ref a := r1
  obtain ⟨oe, od, J⟩ := inst_k I ea hd
  obtain ⟨nm, q0, N, bs, sn, sub, ab, col, dd, k0, k1, k2, k3, k5, hC⟩ := T.cls
  have hcl : (PySem.W.clsIn X.K C).isSome = true := by unfold PySem.W.clsIn; rw [hC]; rfl
  exact PySem.W.kia_one (PySem.W.kitx_exc hcl T.ga T.gt T.exC T.ca T.cn T.ct T.mo) I.kIn J e (fun z => nomatch z) fun tk => ⟨.bl b, H, I.tok tk, rfl, q⟩
def rIsKT (K : PySem.W.Frag) : List V → Hp → VK → Prop := fun xs H Q => ∃ (a C tp : Addr) (d : Option Addr) (cs : List V) (ws : List Value) (b : Bool) (B newId initId : String) (bm : List Value), xs = [.ref a, .ref tp] ∧ ExF K C B newId initId bm ∧ H a = some (exk a (.ref C) d) ∧ (∀ dd, d = some dd → ∃ fs, H dd = some (.xd fs)) ∧ H tp = some (.tup cs) ∧ Paired ClsV cs ws ∧ PySem.W.kitAny K (.ref C) ws = some b ∧ Q (.bl b) H
theorem call_isKT : CallR X (.builtin "isinstance") (rIsKT X.K) := by
  intro pins s σ H xs us Q I r h
  obtain ⟨a, C, tp, d, cs, ws, b, B, newId, initId, bm, rfl, T, ea, hd, hT, k, e, q⟩ := h
  obtain ⟨u1, u2, rfl, r1, r2⟩ := vals2 r
  obtain rfl : u1 = Value.ref a := r1
  cases (show u2 = Value.ref tp from r2)
  obtain ⟨oe, od, J⟩ := inst_k I ea hd
  obtain ⟨nm, q0, N, bs, sn, sub, ab, col, dd, k0, k1, k2, k3, k5, hC⟩ := T.cls
  have hcl : (PySem.W.clsIn X.K C).isSome = true := by unfold PySem.W.clsIn; rw [hC]; rfl
  obtain ⟨_, its, rv, o, h1, h2, n, h3⟩ := (show ObjOk X.prog X.w H s.heap tp (.tup cs) from I.hok tp _ hT)
  have e3 := ClsV.all k rv
  subst e3
  obtain ⟨oc, od', dt, sl⟩ := o
  simp only at h2 h3
  subst h2 h3
  exact PySem.W.kia_tup (PySem.W.kitx_exc hcl T.ga T.gt T.exC T.ca T.cn T.ct T.mo) I.kIn J h1 e (fun z => nomatch z) fun tk => ⟨.bl b, H, I.tok tk, rfl, q⟩
theorem pe_kget {n : Str} (T : ExF X.K C B newId initId bm) (hno : PySem.W.findIn X.K (.ref C) n = some none) (he : PE X e te) (hb : attributeBase e n X.env (eval e X.env) = eval e X.env := by rfl) :
    PE X (.Attribute e n pos) (fun σ H Q => te σ H fun x H1 => ∃ a dd fs v, x = .ref a ∧ H1 a = some (exk a (.ref C) (some dd)) ∧ H1 dd = some (.xd fs) ∧ fs.lookup n = some v ∧ Q v H1) := by
  refine ⟨fun pins s σ H Q I h => attr_of hb (thn (he.run pins s σ H _ I h) fun u s1 hh => ?_)⟩
  obtain ⟨x, H1, I1, rx, a, dd, fs, v, ex, ea, ed, l, q⟩ := hh
  subst ex
  obtain rfl : u = Value.ref a := rx
  obtain ⟨oe, vs, ho, hc, hdd, hf⟩ := exk_at I1.hok ea
  obtain ⟨mA, hns, hr⟩ := (show ObjOk X.prog X.w H1 s1.heap dd (.xd fs) from I1.hok dd _ ed)
  obtain ⟨od, hod, hl⟩ := lookIn_ns hns
  obtain ⟨u, hu, ru⟩ := RelO.some_of (v := v) (o := mA n) (by rw [← l]; exact hr n)
  have J : PySem.W.InstAt s1.heap a oe C (some od) := ⟨ho, hc, by unfold PySem.W.notCls; rw [hf], by rw [hdd]; exact hod⟩
  exact HandSPX.exc_get I1.kIn J T.ga T.gt T.exC (PySem.W.findObj_own T.hd hno rfl (by rw [hl, hu])) (handed_of ru) ⟨v, H1, I1.tok _, ru, q⟩
end
end XL
namespace XL
open PySem PySem.Spec PyProof.Rows L2
/-! ### own exceptions straight over one of four of Python's own -/
def bN : Nat → String
  | 0 => "ValueError" | 1 => "LookupError" | 2 => "RuntimeError" | _ => "OverflowError"
def bW : Nat → String
  | 0 => "ValueError.__new__" | 1 => "LookupError.__new__" | 2 => "RuntimeError.__new__" | _ => "OverflowError.__new__"
def bI : Nat → String
  | 0 => "ValueError.__init__" | 1 => "LookupError.__init__" | 2 => "RuntimeError.__init__" | _ => "OverflowError.__init__"
def bM : Nat → List Value
  | 0 => [.type "ValueError", .type "Exception", .type "BaseException", .type "object"]
  | 1 => [.type "LookupError", .type "Exception", .type "BaseException", .type "object"]
  | 2 => [.type "RuntimeError", .type "Exception", .type "BaseException", .type "object"]
  | _ => [.type "OverflowError", .type "ArithmeticError", .type "Exception", .type "BaseException", .type "object"]
abbrev ExK (K : PySem.W.Frag) (C : Addr) (b : Nat) : Prop := ExF K C (bN b) (bW b) (bI b) (bM b)
theorem PE.imp {X : Cx} {e : Expr} {t t' : TE} (h : PE X e t) (i : ∀ σ H Q, t' σ H Q → t σ H Q) : PE X e t' := ⟨fun pins s σ H Q I q => h.run pins s σ H Q I (i σ H Q q)⟩
def spI (c : Addr) (f : Str) : Sp := fun vs H Q _ => ∃ (a : Addr) (y : V), vs = [.ref a, y] ∧ H a = some (exo a c none) ∧ ∀ dx, H dx = none → dx ≠ a → Q .non (upd (upd H dx (exd dx [(f, y)])) a (exo a c (some dx)))
def spI0 (c : Addr) : Sp := fun vs H Q _ => ∃ a : Addr, vs = [.ref a] ∧ H a = some (exo a c none) ∧ Q .non H
section
variable {K : PySem.W.Frag}
theorem boot_ValueError : bootBuiltins "ValueError" = some (.type "ValueError") := by decide +kernel
theorem tyf_ValueError : typeOf (.type "ValueError") = pure (.type "type") := PySem.W.kitMeta_of (by decide +kernel)
theorem fnd_ValueError : PySem.W.findCls K (.type "ValueError") (.type "type") "__init__" = some (.val (.builtin "ValueError.__init__")) := by rfl
theorem stb_ValueError : Manifest.isStub "ValueError" = false := by decide +kernel
theorem hnd_ValueError : PySem.W.handedIn (.builtin "ValueError.__init__") = true := by decide +kernel
theorem boot_LookupError : bootBuiltins "LookupError" = some (.type "LookupError") := by decide +kernel
theorem tyf_LookupError : typeOf (.type "LookupError") = pure (.type "type") := PySem.W.kitMeta_of (by decide +kernel)
theorem fnd_LookupError : PySem.W.findCls K (.type "LookupError") (.type "type") "__init__" = some (.val (.builtin "LookupError.__init__")) := by rfl
theorem stb_LookupError : Manifest.isStub "LookupError" = false := by decide +kernel
theorem hnd_LookupError : PySem.W.handedIn (.builtin "LookupError.__init__") = true := by decide +kernel
theorem boot_RuntimeError : bootBuiltins "RuntimeError" = some (.type "RuntimeError") := by decide +kernel
theorem tyf_RuntimeError : typeOf (.type "RuntimeError") = pure (.type "type") := PySem.W.kitMeta_of (by decide +kernel)
theorem fnd_RuntimeError : PySem.W.findCls K (.type "RuntimeError") (.type "type") "__init__" = some (.val (.builtin "RuntimeError.__init__")) := by rfl
theorem stb_RuntimeError : Manifest.isStub "RuntimeError" = false := by decide +kernel
theorem hnd_RuntimeError : PySem.W.handedIn (.builtin "RuntimeError.__init__") = true := by decide +kernel
theorem boot_OverflowError : bootBuiltins "OverflowError" = some (.type "OverflowError") := by decide +kernel
theorem tyf_OverflowError : typeOf (.type "OverflowError") = pure (.type "type") := PySem.W.kitMeta_of (by decide +kernel)
theorem fnd_OverflowError : PySem.W.findCls K (.type "OverflowError") (.type "type") "__init__" = some (.val (.builtin "OverflowError.__init__")) := by rfl
theorem stb_OverflowError : Manifest.isStub "OverflowError" = false := by decide +kernel
theorem hnd_OverflowError : PySem.W.handedIn (.builtin "OverflowError.__init__") = true := by decide +kernel
end
/-- an own exception straight over the b-th of the four -/
theorem exk_mk {K : PySem.W.Frag} {C : Addr} {b : Nat} {nm q : Str} {N : Addr} {bs : List Value} {sn : List Str} {sub : List Value} {ab : Bool} {col : Option Bool} {dd : Option Addr} {k0 k1 k2 k3 k5 : Option Value} (base : ExcBaseFacts (bN b) (bW b) (bI b) (bM b)) (pass : ∀ self, refuseLoop self "__setattr__" (bM b) = pure ())
    (obj : (bM b).contains (.type "object") = true) (bas : (bM b).contains (.type "BaseException") = true) (hC : K.lookup C = some (excClassObj nm q C N bs (bM b) true sn sub ab col dd k0 k1 k2 k3 k5 (bW b))) (sa : PySem.W.findIn K (.ref C) "__setattr__" = some (some (.builtin "object.__setattr__"))) (ga : PySem.W.findIn K (.ref C) "__getattribute__" = some (some (.builtin "BaseException.__getattribute__"))) (gt : PySem.W.findIn K (.ref C) "__getattr__" = some none)
    (kC : PySem.W.keepIn K (.ref C) = true) (ca : PySem.W.findIn K (.ref C) "__class__" = some (some (.builtin "object.__class__"))) (hd : PySem.W.hasDictIn K C = true) (sg : PySem.W.specialIn K (.builtin "object.__class__") "__get__" = some (some (.builtin "getset_descriptor.__get__"))) (st : PySem.W.takesIn K (.builtin "object.__class__") = some true) : ExK K C b := by
  have hcl : PySem.W.clsIn K C = some { name := nm, bases := bs, mro := .ref C :: bM b, ns := N, qualname := q, hasDict := true, slotNames := sn, subclasses := sub, abstract := ab, collection := col, hasDel := false } := by unfold PySem.W.clsIn; rw [hC] <;> rfl
  have mo : ∀ v, (bM b).contains v = true → PySem.W.mroIn K C v = some true := fun v hv => by
    unfold PySem.W.mroIn
    rw [hcl]
    show some ((Value.ref C :: bM b).contains v) = some true
    rw [List.contains_cons, hv, Bool.or_true]
  exact ⟨base, fun self => by rw [refuseLoop_ref]; exact pass self, obj, ⟨nm, q, N, bs, sn, sub, ab, col, dd, k0, k1, k2, k3, k5, hC⟩, sa, ga, gt, mo _ bas, kC, hd, ca, sg, st, mo _ obj⟩
theorem fn_up {P : Program} {w : World} {K : PySem.W.Frag} {mg : Str → Option Value} {base : Heap} {k n : Nat} {f : Addr} {fd : FuncData} {ps : List Str} {sp : Sp} (h : k ≤ n) (F : FnOk P w K mg base CX0 k f fd ps sp) : FnOk P w K mg base CX0 n f fd ps sp :=
  ⟨F.len, fun A outer s H args us vs Q E hr e0 hb r q => F.run A outer s H args us vs Q E (hr.mono h) e0 hb r q⟩
/-- an own exception class, its __init__, its name -/
structure Er (P : Program) (w : World) (K : PySem.W.Frag) (mg : Str → Option Value) (base : Heap) (nm : Str) (b : Nat) (C fI : Addr) (fd : FuncData) (ps : List Str) (sp : Sp) : Prop where
  ex : ExK K C b
  ty : PySem.W.typeIn K (.ref C) = some (.type "type")
  ini : PySem.W.findIn K (.ref C) "__init__" = some (some (.ref fI))
  tI : PySem.W.typeIn K (.ref fI) = some (.type "function")
  g : mg nm = some (.ref C)
  ok : FnOk P w K mg base CX0 1 fI fd ps sp
  bi : Binds K fd ps []
/-- the heap behind a raise: the new dict alone -/
theorem del_upd' {H : Hp} {a d : Addr} {o o' o2 u : HO} (h : H a = none) (n : d ≠ a) : upd (del (upd (upd (upd H a o) d o') a o2) a) d u = upd H d u := by
  funext b
  by_cases hd : b = d
  · rw [hd, upd_same, upd_same]
  · rw [upd_ne hd, upd_ne hd]
    by_cases ha : b = a
    · rw [ha, del_same, h]
    · rw [del_ne ha, upd_ne ha, upd_ne hd, upd_ne ha]
theorem bM_ref (b : Nat) (D : Addr) : (bM b).contains (.ref D) = false := by
  unfold bM
  split <;> rfl
theorem cls_mro {K : PySem.W.Frag} {C : Addr} {B newId initId : String} {bm : List Value} (T : ExF K C B newId initId bm) (v : Value) : (PySem.W.clsIn K C).isSome = true ∧ PySem.W.mroIn K C v = some ((Value.ref C :: bm).contains v) := by
  obtain ⟨nm, q, N, bs, sn, sub, ab, col, dd, k0, k1, k2, k3, k5, hC⟩ := T.cls
  have hcl : PySem.W.clsIn K C = some { name := nm, bases := bs, mro := .ref C :: bm, ns := N, qualname := q, hasDict := true, slotNames := sn, subclasses := sub, abstract := ab, collection := col, hasDel := false } := by unfold PySem.W.clsIn; rw [hC] <;> rfl
  refine ⟨by rw [hcl]; rfl, ?_⟩
  unfold PySem.W.mroIn
  rw [hcl]
  rfl
/-! ### which class is under which -/
structure Cl (K : PySem.W.Frag) (D : Addr) : Prop where
  cls : ∃ nm q N bs bm sn sub ab col dd k0 k1 k2 k3 k5 newId, K.lookup D = some (excClassObj nm q D N bs bm true sn sub ab col dd k0 k1 k2 k3 k5 newId)
  ty : PySem.W.typeIn K (.ref D) = some (.type "type")
  bas : PySem.W.subIn K (.ref D) (.type "BaseException") = some true
  hd : PySem.W.hasDictIn K D = true
theorem kit_self {K : PySem.W.Frag} {C : Addr} : PySem.W.kitOne K (.ref C) (.ref C) = some true := by
  unfold PySem.W.kitOne
  rw [if_pos (beq_self_eq_true _)]
theorem kit_ne {K : PySem.W.Frag} {C D : Addr} {b : Nat} (T : ExK K C b) (hD : Cl K D) (ne : D ≠ C) : PySem.W.kitOne K (.ref C) (.ref D) = some false := by
  unfold PySem.W.kitOne
  have hn : (Value.ref C == Value.ref D) = false := by
    rw [beq_eq_false_iff_ne]
    exact fun z => ne (Value.ref.inj z).symm
  obtain ⟨nm, q, N, bs, bm, sn, sub, ab, col, dd, k0, k1, k2, k3, k5, newId, hC⟩ := hD.cls
  have hs : (PySem.W.clsIn K D).isSome = true := by unfold PySem.W.clsIn; rw [hC]; rfl
  rw [hn, if_neg Bool.false_ne_true]
  show (if ((PySem.W.clsIn K D).isSome && PySem.W.typeIn K (.ref D) == some (.type "type")) = true then PySem.W.mroIn K C (.ref D) else none) = some false
  have hn2 : (Value.ref D == Value.ref C) = false := by
    rw [beq_eq_false_iff_ne]
    exact fun z => ne (Value.ref.inj z)
  rw [hs, hD.ty, (cls_mro T (.ref D)).2, List.contains_cons, bM_ref, hn2]
  rfl
theorem kit_py {K : PySem.W.Frag} {C : Addr} {b : Nat} {t : String} {r : Bool} (T : ExK K C b) (hm : PySem.W.kitMeta t = true) (hc : (bM b).contains (.type t) = r) : PySem.W.kitOne K (.ref C) (.type t) = some r := by
  unfold PySem.W.kitOne
  have hn : (Value.ref C == Value.type t) = false := by
    rw [beq_eq_false_iff_ne]
    exact fun z => nomatch z
  rw [hn, if_neg Bool.false_ne_true]
  show (if PySem.W.kitMeta t = true then PySem.W.mroIn K C (.type t) else none) = some r
  have hn2 : (Value.type t == Value.ref C) = false := by
    rw [beq_eq_false_iff_ne]
    exact fun z => nomatch z
  rw [if_pos hm, (cls_mro T (.type t)).2, List.contains_cons, hc, hn2, Bool.false_or]
theorem kit_nil {K : PySem.W.Frag} {v : Value} : PySem.W.kitAny K v [] = some false := rfl
theorem kit_cons {K : PySem.W.Frag} {v c : Value} {cs : List Value} {a : Bool} (h : PySem.W.kitOne K v c = some false) (r : PySem.W.kitAny K v cs = some a) : PySem.W.kitAny K v (c :: cs) = some a :=
  kitAny_cons h (fun _ => r) (fun e => nomatch e)
theorem exm_of_sub {K : PySem.W.Frag} {C D : Addr} {r : Bool} (hD : Cl K D) (h : PySem.W.subIn K (.ref C) (.ref D) = some r) : PySem.W.exmOne K (.ref C) (.ref D) = some r := PySem.W.exm_ref hD.bas hD.hd hD.ty h
theorem exm_cons {K : PySem.W.Frag} {v c : Value} {cs : List Value} {a b : Bool} (h : PySem.W.exmOne K v c = some a) (r : PySem.W.exmAny K v cs = some b) : PySem.W.exmAny K v (c :: cs) = some (a || b) := by
  unfold PySem.W.exmAny
  rw [h, r]
end XL
namespace XL
open PySem PySem.Spec PyProof.Rows L2
/-! ### t[::-1] of a tuple of any length; slices of tuples, the whole too -/
section
variable {prog : Program} {w : World} {A : Around} {E : Value → Shared → Prop} {s : Shared}
theorem adj_rev (n : Nat) : Builtin.Slice.sliceAdjust none none (-1) ((n : Nat) : Int) = ((n : Int) - 1, -1) := rfl
theorem places_rev (n : Nat) : Builtin.Slice.slicePlaces ((n : Int) - 1) (-1) (-1) = n := by
  unfold Builtin.Slice.slicePlaces
  rw [if_neg (show ¬ ((-1 : Int) > 0) by decide)]
  by_cases h : n = 0
  · subst h; rfl
  · rw [if_pos (by omega)]
    have e : ((n : Int) - 1 - -1 - 1) / (- -1) = (n : Int) - 1 := by
      rw [show (- -1 : Int) = 1 from rfl, Int.ediv_one]
      omega
    rw [e]
    omega
theorem applied_revT {sl : Addr} {vs : Value} {n : Nat} {Q : Int × Int × Nat → Shared → Prop} (hs : s.heap.IsSliceOf sl .none .none vs) (ps : IsPart vs (some (-1))) (h : Q ((n : Int) - 1, -1, n) s) :
    wpAny (model prog w) A (Builtin.Slice.sliceApplied (.ref sl) (pure ((n : Nat) : Int))) Q E s := by
  obtain ⟨os, hos, hcs, hds⟩ := id hs
  unfold Builtin.Slice.sliceApplied Builtin.Slice.sliceFields
  refine wpAny_bind (wpAny_bind (wpAny_field hos hds (x := .none) rfl (wpAny_bind (wpAny_field hos hds (x := .none) rfl (wpAny_bind (wpAny_field hos hds (x := vs) rfl (wpAny_pure ?_)))))))
  refine wpAny_bind (HT.slicePart_ ps ?_)
  show wpAny _ _ (if ((-1 : Int) == 0) = true then _ else _) _ _ s
  rw [if_neg (by decide)]
  refine wpAny_bind (HT.slicePart_ .none (wpAny_bind (HT.slicePart_ .none (wpAny_bind (wpAny_pure ?_)))))
  show wpAny _ _ (match Builtin.Slice.sliceAdjust none none (-1) ((n : Nat) : Int) with | (lo, hi) => pure (lo, (-1 : Int), Builtin.Slice.slicePlaces lo hi (-1))) _ _ s
  rw [adj_rev]
  show wpAny _ _ (pure (((n : Int) - 1), (-1 : Int), Builtin.Slice.slicePlaces ((n : Int) - 1) (-1) (-1))) _ _ s
  rw [places_rev]
  exact wpAny_pure h
theorem pick_rev (its : List Value) : ((List.range its.length).filterMap fun (m : Nat) => (its.toArray : Array Value)[(((its.length : Int) - 1) + (m : Int) * (-1)).toNat]?).toArray = its.reverse.toArray := by
  congr 1
  have e : ∀ k : Nat, k ≤ its.length → ((List.range k).filterMap fun (m : Nat) => (its.toArray : Array Value)[(((its.length : Int) - 1) + (m : Int) * (-1)).toNat]?) = its.reverse.take k := by
    intro k
    induction k with
    | zero => intro _; rfl
    | succ k ih =>
      intro hk
      rw [List.range_succ, List.filterMap_append, ih (by omega), List.take_succ]
      congr 1
      have i1 : (((its.length : Int) - 1) + (k : Int) * (-1)).toNat = its.length - 1 - k := by omega
      have g : its.reverse[k]? = its[its.length - 1 - k]? := List.getElem?_reverse (by omega)
      have g2 : its[its.length - 1 - k]? = some (its[its.length - 1 - k]'(by omega)) := List.getElem?_eq_getElem _
      rw [List.filterMap_cons, i1, List.getElem?_toArray, g, g2]
      rfl
  rw [e its.length (Nat.le_refl _), List.take_of_length_le (by rw [List.length_reverse]; exact Nat.le_refl _)]
theorem getItem_revT {t sl : Addr} {its : List Value} {vs : Value} {Q : Value → Shared → Prop} (ht : IsTup s.heap t its.toArray) (hs : s.heap.IsSliceOf sl .none .none vs) (ps : IsPart vs (some (-1))) (hz : its.length ≤ sizeLine)
    (h : Q (.ref s.heap.objs.size) { s with heap := s.heap.push { cls := .type "tuple", data := .seq its.reverse.toArray } }) : wpAny (model prog w) A (getItem (.ref t) (.ref sl)) Q E s := by
  have fits : sizeOk (.seq its.reverse.toArray) := by show its.reverse.toArray.size ≤ sizeLine; rw [List.size_toArray, List.length_reverse]; exact hz
  obtain ⟨os, hos, hcs, hds⟩ := id hs
  have hTs : s.TypeIs (.ref sl) "slice" := ⟨os, hos, hcs⟩
  unfold getItem
  try with_reducible refine wpAny_holding ?_
  first | refine wpAny_bind (wpAny_pure ?_) | skip
  refine wpAny_bind (wpAny_sequenceKey ht.typeIs (by decide) ?_)
  refine wpAny_bind (wpAny_callSpecial?_slot (name := Str.ofString "__getitem__") ht.typeIs PyProof.Rows.slot_tuple_getitem (wpAny_call_entry PyProof.Rows.slot_tuple_getitem ht.typeIs entry_tuple_getitem ?_ (args_tuple_getitem _ _)))
  show wpAny _ _ (Builtin.Tuple.tupleItemsOf (.ref t) >>= _) _ _ s
  refine wpAny_bind (tupleItemsOf_ ht ?_)
  refine wpAny_bind (wpAny_typeOf hTs ?_)
  rw [if_pos (by decide)]
  rw [List.size_toArray]
  refine wpAny_bind (applied_revT hs ps ?_)
  show wpAny _ _ (if (((its.length : Int) - 1) == 0 && (-1 : Int) == 1 && its.length == its.toArray.size) = true then _ else _) _ _ s
  rw [if_neg (by rw [show ((-1 : Int) == 1) = false from rfl, Bool.and_false, Bool.false_and]; exact Bool.false_ne_true)]
  rw [pick_rev]
  first
    | exact wpAny_bind (m := Builtin.Tuple.tupleExact _) (wpAny_newObj_type (wpAny_pure ⟨_, rfl, wpAny_pure h⟩) fits)
    | exact wpAny_bind (m := Builtin.Tuple.tupleExact _) (wpAny_newObj_type (wpAny_bind (wpAny_pure (wpAny_pure ⟨_, rfl, wpAny_pure h⟩))) fits)
    | exact wpAny_bind (wpAny_bind (m := Builtin.Tuple.tupleExact _) (wpAny_newObj_type (wpAny_pure (wpAny_pure ⟨_, rfl, wpAny_pure h⟩)) fits))
    | exact wpAny_bind (wpAny_bind (m := Builtin.Tuple.tupleExact _) (wpAny_newObj_type (wpAny_pure ⟨_, rfl, wpAny_pure h⟩) fits))
end
section
variable {X : Cx}
def tRevT (K : PySem.W.Frag) (te : TE) : TE := fun σ H Q => te σ H fun x H1 => ∃ a xs, x = .ref a ∧ SqT K H1 a xs ∧ ∀ p, H1 p = none → Q (.ref p) (upd H1 p (.tup xs.reverse))
theorem pe_revT {e : Expr} {te : TE} {k : Nat} {p1 p2 p3 pos : Pos} (he : PE X e te) : PE X (.Subscript e (.Slice none none (some (.UnaryOp .USub (.Constant (.int 1) k p1) p2)) p3) pos) (tRevT X.K te) := by
  refine ⟨fun pins s σ H Q I h => ?_⟩
  refine Subscript_ (thn (he.run pins s σ H _ I h) fun v s1 ⟨x, H1, I1, r1, q1⟩ => ?_)
  obtain ⟨a, xs, ex, hx, q⟩ := q1
  subst ex
  cases r1
  have hst : PO X (some (.UnaryOp .USub (.Constant (.int 1) k p1) p2)) (tPart (tUn (rU fun i => .int (-i)) (tC (.int 1)))) := po_some (pe_un un_neg pe_int)
  refine wpAny_Slice (thn (po_none.run pins s1 σ H1 (fun o H2 => o = none ∧ H2 = H1) I1 ⟨rfl, rfl⟩) fun vl s2 ⟨l, H2, I2, pl, el, e2⟩ => ?_)
  subst el e2
  refine thn (po_none.run pins s2 σ H2 (fun o H3 => o = none ∧ H3 = H2) I2 ⟨rfl, rfl⟩) fun vu s3 ⟨u, H3, I3, pu, eu, e3⟩ => ?_
  subst eu e3
  refine thn (hst.run pins s3 σ H3 (fun o H4 => o = some (-1) ∧ H4 = H3) I3 ⟨1, rfl, -1, rfl, rfl, rfl⟩) fun vs s4 ⟨o, H4, I4, ps, eo, e4⟩ => ?_
  subst eo e4
  cases pl
  cases pu
  have I5 : Inv X pins σ H4 { s4 with heap := s4.heap.push { cls := .type "slice", data := .fields #[.none, .none, vs] } } := I4.kept (t' := s4.toks) fun b ob q => Heap.get?_push_of_some _ q
  obtain ⟨its, r, ht, hz⟩ := I5.tuple hx
  have hl := r.length
  show wpAny (model X.prog X.w) X.A (subscriptTail e (.Slice none none (some (.UnaryOp .USub (.Constant (.int 1) k p1) p2)) p3) (.ref a) (.ref s4.heap.objs.size)) (EP X pins σ Q) X.xe { s4 with heap := s4.heap.push { cls := .type "slice", data := .fields #[.none, .none, vs] } }
  refine tail_any (ops := [.ref a, .ref s4.heap.objs.size]) ht.typeIs (PyProof.Rows.slot_tuple_getitem.lookup) ?_ (by with_unfolding_all rfl)
  refine getItem_revT ht (Heap.IsSliceOf.new _ .none .none vs) ps (by omega) ?_
  refine ⟨.ref _, _, I5.laid (t' := s4.toks) (o := .tup xs.reverse) (fun b ob q => Heap.get?_push_of_some _ q) (Nat.le_refl _) ?_, rfl, q _ (I5.hok.fresh (Nat.le_refl _))⟩
  exact ⟨by rw [List.length_reverse]; omega, its.reverse, r.reverse, IsTup.new _ _⟩
/-- a slice of a tuple: where it stands is not said -/
def rSlU (K : PySem.W.Frag) : V → Option Int → Option Int → Hp → VK → Prop := fun x lo hi H Q => ∃ a xs, x = .ref a ∧ SqT K H a xs ∧ ∀ p H', Same H H' → SqT K H' p (cutV xs lo hi) → Q (.ref p) H'
theorem sl_tupU : SlR X (rSlU X.K) := by
  intro pins s σ H x v vl vu lo hi sl Q I rx hs pl pu h
  obtain ⟨a, xs, rfl, hx, q⟩ := h
  refine sl_tupA pins s σ H _ v vl vu lo hi sl Q I rx hs pl pu ⟨a, xs, rfl, hx, fun hw => q a H (Same.refl _) ?_, fun _ p np => q p _ (same_new np) (.inl (.inl upd_same))⟩
  unfold cutV
  rw [hw.1, hw.2, List.drop_zero, Nat.sub_zero, List.take_of_length_le (Nat.le_refl _)]
  exact hx
end
end XL
set_option maxHeartbeats 4000000
namespace XL
open PySem PySem.Spec PyProof.Rows L2
/-- t * 1: t itself -/
theorem tup_mul1 (l : Addr) (items : Array Value) (n : Nat) (dd : Option Addr) (sl : Array (Option Value)) (u : Tok) :
    Meets (Builtin.«tuple.__mul__» ⟨[.ref l, .int 1 u], []⟩) (fun _ R s => s.heap.get? l = some { cls := .type "tuple", dict := dd, data := .seq items n, slots := sl } ∧ R (.ok (.ret (Value.ref l))) s) :=
  .of_wp fun prog w A R s h => by
    obtain ⟨hp, g, d, tk, os⟩ := s
    obtain ⟨hl, h⟩ := h
    have f1 := AutoSeq1.idx_int
    have c1 : (items.isEmpty || (1 : Int) == 1) = true := by rw [Bool.or_eq_true]; exact .inr rfl
    wp_walk using wpAny_loadPart' hl
    exact ⟨_, rfl, h⟩
/-- t * 0 -/
theorem tup_mul0 (l : Addr) (items : Array Value) (n : Nat) (dd : Option Addr) (sl : Array (Option Value)) (u : Tok) (he : items.isEmpty = false) :
    Meets (Builtin.«tuple.__mul__» ⟨[.ref l, .int 0 u], []⟩) (fun _ R s => s.heap.get? l = some { cls := .type "tuple", dict := dd, data := .seq items n, slots := sl } ∧ R (.ok (.ret (Value.ref s.heap.objs.size))) { s with heap := s.heap.push { cls := Value.type "tuple", data := Data.seq #[] }, toks := s.toks }) :=
  .of_wp fun prog w A R s h => by
    obtain ⟨hp, g, d, tk, os⟩ := s
    obtain ⟨hl, h⟩ := h
    have f1 := AutoSeq1.idx_int
    have c1 : (items.isEmpty || (0 : Int) == 1) = false := by rw [he]; rfl
    wp_walk using wpAny_loadPart' hl
    repeat (first
      | (refine wpAny_ite_false (decide_eq_false (by rw [c1]; exact Bool.false_ne_true)) ?_; wp_walk using wpAny_loadPart' hl))
    exact ⟨_, rfl, h⟩
def rRepU (K : PySem.W.Frag) : R2 := fun x y H Q => ∃ l k xs, x = .ref l ∧ y = .int k ∧ SqT K H l xs ∧ xs ≠ [] ∧ 0 ≤ k ∧ k ≤ 1000 ∧ xs.length ≤ 1000 ∧ ∀ p H', Same H H' → SqT K H' p (List.replicate k.toNat xs).flatten → Q (.ref p) H'
theorem op_repU {X : Cx} : OpR X (binaryOp .Mult) (rRepU X.K) := by
  intro pins s σ H x y v u Q I rx ry h
  obtain ⟨l, k, xs, e1, e2, hT, hne, h0, h2, hz, q⟩ := h
  by_cases hk : 2 ≤ k
  · exact op_repT pins s σ H x y v u Q I rx ry ⟨l, k, xs, e1, e2, hT, hne, hk, h2, hz, fun p np => q p _ (fun b o e => by rw [upd_ne (ne_of_none e np)]; exact e) (.inl (.inl upd_same))⟩
  subst e1 e2
  cases rx
  obtain ⟨t, rfl⟩ := ry
  obtain ⟨its, r, ⟨⟨cls, dd, data, sl⟩, ho, hc, n, hd⟩, hs⟩ := I.tuple hT
  simp only at hc hd
  subst hc hd
  have hle : its.length = xs.length := r.length.symm
  have hn : its ≠ [] := fun e => hne (by
    rw [e] at hle
    exact List.eq_nil_of_length_eq_zero hle.symm)
  have hi : its.toArray.isEmpty = false := by
    cases its with
    | nil => exact absurd rfl hn
    | cons a b => rfl
  have hk' : k = 0 ∨ k = 1 := by omega
  rcases hk' with rfl | rfl
  · refine wpAny_binaryOp_repeat_ref (T := "tuple") (U := "int") (by decide) ⟨_, ho, rfl⟩ (fun s' => typeIs_int s' 0 t) noFill_tuple_mul F.fills_int_mul F.slot_int_rmul repeat_tuple F.slot_int_index.lookup
      (call_meets F.slot_int_rmul (typeIs_int s 0 t) F.entry_int_rmul (F.args_int_rmul_2 _ _) (int_rmul_tuple 0 t l its.toArray n dd sl)
        ⟨ho, rfl, ⟨_, ho, rfl⟩, call_meets F.slot_tuple_mul ⟨_, ho, rfl⟩ F.entry_tuple_mul (F.args_tuple_mul_2 _ _) (tup_mul0 l its.toArray n dd sl t hi) ⟨ho, ?_⟩⟩)
    have hf := I.hok.fresh (Nat.le_refl s.heap.objs.size)
    refine ⟨.ref s.heap.objs.size, _, I.laid (t' := s.toks) (o := .tup []) (fun b ob q => Heap.get?_push_of_some _ q) (Nat.le_refl _) ?_, rfl, q _ _ (fun b o e => by rw [upd_ne (ne_of_none e hf)]; exact e) (.inl (.inl upd_same))⟩
    exact ⟨Nat.zero_le _, [], .nil, IsTup.new _ _⟩
  · refine wpAny_binaryOp_repeat_ref (T := "tuple") (U := "int") (by decide) ⟨_, ho, rfl⟩ (fun s' => typeIs_int s' 1 t) noFill_tuple_mul F.fills_int_mul F.slot_int_rmul repeat_tuple F.slot_int_index.lookup
      (call_meets F.slot_int_rmul (typeIs_int s 1 t) F.entry_int_rmul (F.args_int_rmul_2 _ _) (int_rmul_tuple 1 t l its.toArray n dd sl)
        ⟨ho, rfl, ⟨_, ho, rfl⟩, call_meets F.slot_tuple_mul ⟨_, ho, rfl⟩ F.entry_tuple_mul (F.args_tuple_mul_2 _ _) (tup_mul1 l its.toArray n dd sl t) ⟨ho, ?_⟩⟩)
    refine ⟨.ref l, H, I, rfl, q l H (Same.refl _) ?_⟩
    have e : (List.replicate (Int.toNat 1) xs).flatten = xs := by
      show (List.replicate 1 xs).flatten = xs
      simp
    rw [e]; exact hT
end XL
namespace XL
open PySem PySem.Spec PyProof.Rows L2
/-! ### sum of a tuple of numbers -/
def rSumT (K : PySem.W.Frag) : List V → Hp → VK → Prop := fun vs H Q => ∃ (a : Addr) (ns : List Int), vs = [V.ref a] ∧ SqT K H a (ns.map V.int) ∧ Q (.int ns.sum) H
theorem cr_sumT {X : Cx} (hc : X.calm = true) : CallR X (.builtin "sum") (rSumT X.K) := by
  intro pins s σ H vs us Q I r h
  obtain ⟨a, ns, rfl, hs, q⟩ := h
  obtain ⟨its, rv, ht, _⟩ := I.tuple hs
  rw [Vals.ref1 r]
  have hi := rv.ints
  obtain ⟨xs, hx⟩ := hi.allInts.items
  have hn : numsOf its.toArray.toList = ns := by rw [show its.toArray.toList = its from rfl, hi.numsOf]
  have ht' : s.heap.IsTuple a its.toArray := ht
  rw [hx] at ht' hn
  rw [nums_intItems] at hn
  refine PySem.W.ktm_sumG (I.ok.hd hc) ht' fun h' tk t' hk => ?_
  rw [preSum_eq, List.take_of_length_le (by simp), hn]
  exact ⟨.int _, H, I.kept hk, ⟨_, rfl⟩, q⟩
theorem boot_sum' : bootBuiltins "sum" = some (.builtin "sum") := by decide +kernel
theorem hu10 {X : Cx} (h : X.A.units + 64 < cLine) : X.A.units + 10 < cLine := by omega
end XL
namespace XL
open PySem PySem.Spec PyProof.Rows L2
/-! ### tuple + tuple, in one rule -/
def rCatU (K : PySem.W.Frag) : R2 := fun x y H Q => ∃ a b xs ys, x = .ref a ∧ y = .ref b ∧ SqT K H a xs ∧ SqT K H b ys ∧ xs.length + ys.length ≤ sizeLine ∧ ∀ p H', Same H H' → SqT K H' p (xs ++ ys) → Q (.ref p) H'
theorem op_catU {X : Cx} : OpR X (binaryOp .Add) (rCatU X.K) := by
  intro pins s σ H x y v u Q I rx ry h
  obtain ⟨a, b, xs, ys, e1, e2, ha, hb, hz, q⟩ := h
  refine op_catA pins s σ H x y v u Q I rx ry ⟨a, b, xs, ys, e1, e2, ha, hb, hz, fun e => ?_, fun _ e => ?_, fun _ _ p np => ?_⟩
  · subst e; exact q b H (Same.refl _) hb
  · subst e; exact q a H (Same.refl _) (by rw [List.append_nil]; exact ha)
  · exact q p _ (same_new np) (.inl (.inl upd_same))
end XL
namespace XL
open PySem PySem.Spec PyProof.Rows L2
section
variable {X : Cx} {W0 : CXT} {n : Nat} {f C : Addr} {fd : FuncData} {ps ks : List Str} {sp : Sp} {W : L2.St → XK} {E : XK} {m : Str} {at1 at2 : Pos} {ob e : Expr} {es : List Expr} {kws : List Keyword} {to : TE} {ta tk : TA} {pl : Sem Bool}
  {g : List Value → List Value → List Value} {gV : List V → List V → List V}
/-- a method called, its errors wished for where it's called -/
def tMx (C : Addr) (m : Str) (sp : Sp) (W : L2.St → XK) (to : TE) (ta : TA) : TE := fun σ H Q =>
  to σ H fun x H1 => ∃ p dx fs, x = .ref p ∧ H1 p = some (.ins C dx fs) ∧ fs.lookup m = none ∧ ta σ H1 fun vs H2 => sp (x :: vs) H2 Q (W σ)
theorem pe_mx (hob : PE X ob to) (cl : Cls X.K C) (hm : Meth X.K C m f) (F : FnOk X.prog X.w X.K X.mg X.base W0 n f fd ps sp) (room : Room n X.A) (hb : Binds X.K fd ps []) (hW : ∀ σ, PassesAt W0 X σ (W σ)) (ha : PA X (e :: es) ta)
    (h1 : starEach (e :: es) X.env = (false, eval e X.env) :: starEach es X.env := by rfl) (h2 : (backTo at2 (starEach es X.env)).any (·.1) = false := by rfl)
    (h3 : eval (.Call (.Attribute ob m at1) (e :: es) [] at2) X.env = (eval ob X.env >>= fun ov => standAt at1.atName >>= fun _ => holding [ov] (getMethod ov m pl) >>= fun q => callWith at2 q.1 q.2 (backTo at2 (starEach (e :: es) X.env)) (backToKw at2 (keywordEach [] X.env))) := by rfl) :
    PE X (.Call (.Attribute ob m at1) (e :: es) [] at2) (tMx C m sp W to ta) := by
  constructor
  intro pins s σ H Q inv h
  apply PySem.W.methodCall_KW (pl := pl) (he := h3)
  apply thn (hob.run pins s σ H _ inv h)
  rintro u s1 ⟨x, H1, inv1, rx, p, dx, fs, rfl, ep, nl, hq⟩
  obtain rfl : u = Value.ref p := rx
  apply getmeth_ok inv1 ep cl hm nl
  apply PySem.W.callWith_K (first := [Value.ref p]) (h₀ := X.base) inv.ok.mod.kin hm.kp _ h1 h2
  apply thn (ha.run at2 pins s1 σ H1 _ inv1 hq)
  rintro us s2 ⟨vs, H2, inv2, rv, hq2⟩
  exact ⟨inv2.kIn, run_fnS (us := .ref p :: us) (vs := .ref p :: vs) F room hb (hW σ) inv2 (.cons rfl rv) hq2⟩
/-- a def run on values ahead and by keywords -/
theorem run_kn {pins : List (Addr × Obj)} {σ : L2.St} {H : Hp} {s : Shared} {Q : VK} {us ws : List Value} {vs zs : List V} {j : Nat} (F : FnOk X.prog X.w X.K X.mg X.base W0 n f fd ps sp) (room : Room n X.A) (hb : KBn X.K fd ps j ks g gV) (hE : Passes W0 X E)
    (inv : Inv X pins σ H s) (rv : Vals vs us) (rz : Vals zs ws) (l1 : vs.length = j) (l2 : zs.length = ks.length) (h : sp (gV vs zs) H Q E) : wpAny (model X.prog X.w) X.A (call (.ref f) us (ks.zip ws)) (EP X pins σ Q) X.xe s := by
  have bd := hb.to s us ws inv.kIn (rv.length.symm.trans l1) (rz.length.symm.trans l2)
  have run := F.run X.A X.stack s H ⟨us, ks.zip ws⟩ (g us ws) (gV vs zs) Q E room inv.env0 bd (hb.rel rv rz) h
  apply wpAny_call
  apply codeAny_mono run
  intro z s' hz
  match z with
  | .error e => exact hE pins σ H s e s' inv hz
  | .ok (.ret u) => exact inv.after hz
  | .ok .next => exact False.elim hz
  | .ok .brk => exact False.elim hz
  | .ok .cont => exact False.elim hz
/-- a method called by keywords alone -/
def tMk (C : Addr) (m : Str) (sp : Sp) (j : Nat) (gV : List V → List V → List V) (E : XK) (to : TE) (tk : TA) : TE := fun σ H Q =>
  to σ H fun x H1 => ∃ p dx fs, x = .ref p ∧ H1 p = some (.ins C dx fs) ∧ fs.lookup m = none ∧ tk σ H1 fun zs H2 => zs.length = j ∧ sp (gV [x] zs) H2 Q E
theorem pe_mkw (hob : PE X ob to) (cl : Cls X.K C) (hm : Meth X.K C m f) (F : FnOk X.prog X.w X.K X.mg X.base W0 n f fd ps sp) (room : Room n X.A) (hb : KBn X.K fd ps 1 ks g gV) (hE : Passes W0 X E) (hk : PK X kws tk)
    (h1 : (backToKw at2 (keywordEach kws X.env)).all (·.1.isSome) = true := by rfl) (h2 : (backToKw at2 (keywordEach kws X.env)).filterMap (·.1) = ks := by rfl)
    (h4 : ((backTo at2 (starEach [] X.env)).any (·.1) || (backToKw at2 (keywordEach kws X.env)).any (·.1.isNone)) = false := by rfl)
    (h3 : eval (.Call (.Attribute ob m at1) [] kws at2) X.env = (eval ob X.env >>= fun ov => standAt at1.atName >>= fun _ => holding [ov] (getMethod ov m pl) >>= fun q => callWith at2 q.1 q.2 (backTo at2 (starEach [] X.env)) (backToKw at2 (keywordEach kws X.env))) := by rfl) :
    PE X (.Call (.Attribute ob m at1) [] kws at2) (tMk C m sp ks.length gV E to tk) := by
  constructor
  intro pins s σ H Q inv h
  apply PySem.W.methodCall_KW (pl := pl) (he := h3)
  apply thn (hob.run pins s σ H _ inv h)
  rintro u s1 ⟨x, H1, inv1, rx, p, dx, fs, rfl, ep, nl, hq⟩
  obtain rfl : u = Value.ref p := rx
  apply getmeth_ok inv1 ep cl hm nl
  apply PySem.W.callWith_KW0 (first := [Value.ref p]) (h₀ := X.base) inv.ok.mod.kin hm.kp h1 _ h4
  apply thn (hk.run at2 pins s1 σ H1 _ inv1 hq)
  rintro ws s2 ⟨zs, H2, inv2, rz, lz, hq2⟩
  refine ⟨inv2.kIn, ?_⟩
  rw [h2]
  exact run_kn (us := [Value.ref p]) (vs := [V.ref p]) F room hb hE inv2 (.cons rfl .nil) rz rfl lz hq2
end
/-! ### try .. finally, where what's tried may raise and what's done at the end raises nothing -/
/-- tb W: what's tried, its errors wished for by W; ta: the end behind it; tz: the end with an error on its way to Wo -/
def tEndly (tb : WX → TS) (ta tz : TS) (Wo : WX) : TS := fun D σ H => tb (wFin tz Wo) ⟨fun s1 h1 => ta D s1 h1, fun _ _ => False, fun _ _ => False, fun _ _ => False⟩ σ H
section
variable {X : Cx} {tried fins : List Stmt} {fin0 : Stmt} {at3 : Pos} {tb : WX → TS} {ta tz : TS} {Wo : WX}
theorem ps_endly (e1 : X.stack = X.env :: X.outer) (e2 : X.env.frame = some X.env.locals) (e3 : X.ex = []) (tk : Takes X Wo)
    (h1 : ∀ (W : WX) (pn : List (Addr × Obj)) (xe : Value → Shared → Prop), Takes (X.tr pn xe) W → PassesOwn (model X.prog X.w) X.A X.env xe → PSs (X.tr pn xe) tried (tb W))
    (h2 : PSs X.nox (fin0 :: fins) ta) (h3 : ∀ (b : Addr) (pn : List (Addr × Obj)), PSs (X.suite b pn) (fin0 :: fins) tz) : PS X (.Try tried [] [] (fin0 :: fins) at3) (tEndly tb ta tz Wo) := by
  constructor
  intro pins s σ H D inv h
  have okX := inv.ok
  apply wpAny_Try_finally
  let way := fun (y : Value) (t : Shared) => wpAny (model X.prog X.w) X.A (noteFrame y X.env) (fun _ t2 => FinallyRaised X.prog X.w X.A X.xe X.env (fin0 :: fins) (SP X pins D) y t2) (FinallyRaised X.prog X.w X.A X.xe X.env (fin0 :: fins) (SP X pins D)) t
  have takes : Takes (X.tr (X.pn ++ pins) way) (wFin tz Wo) := fun u t xx => fin_exc e1 e2 e3 okX tk h3 xx
  have run := (h1 (wFin tz Wo) (X.pn ++ pins) way takes PassesOwn.looking).run [] s σ H ⟨fun s1 h1 => ta D s1 h1, fun _ _ => False, fun _ _ => False, fun _ _ => False⟩ (inv.toTry _) h
  refine wpAny_mono run (fun fl t z => ?_) fun y t hy => hy
  match fl with
  | .ret u => obtain ⟨_, _, _, _, _, no⟩ := z; exact no.elim
  | .brk => obtain ⟨_, _, _, no⟩ := z; exact no.elim
  | .cont => obtain ⟨_, _, _, no⟩ := z; exact no.elim
  | .next =>
    obtain ⟨σ1, H1, J, q⟩ := z
    apply wpAny_execs_nil
    have end1 := h2.run pins t σ1 H1 D ((J.ofTry okX).wish _) q
    refine wpAny_mono end1 (fun fl2 t2 q2 => ?_) fun _ _ no => no.elim
    have q3 : SP X pins D fl2 t2 := q2.unwish
    match fl2, q3 with
    | .ret _, q3 => exact q3
    | .brk, q3 => exact q3
    | .cont, q3 => exact q3
    | .next, q3 => exact q3
end
end XL
namespace XL
open PySem PySem.Spec PyProof.Rows L2
section
variable {X : Cx} {CX : CXT} {n : Nat} {f C : Addr} {fd : FuncData} {ps : List Str} {sp : Sp} {E : XK}
/-- a op b, both of the class at C, which has a def for op -/
def rOwnI (C : Addr) (sp : Sp) (E : XK) : R2 := fun x y H Q => ∃ a dx fs b dy gs, x = .ref a ∧ y = .ref b ∧ H a = some (.ins C dx fs) ∧ H b = some (.ins C dy gs) ∧ sp [x, y] H Q E
theorem op_ownI {op : CmpOp} (hop : ∀ a b, compareOp op a b = richCompare op a b) (hs : PySem.W.findIn X.K (.ref C) (cmpInfo op).2.1 = some (some (.ref f))) (hf : PySem.W.isFn X.K (.ref f) = true)
    (F : FnOk X.prog X.w X.K X.mg X.base CX n f fd ps sp) (hr : Room n X.A) (hb : Binds X.K fd ps []) (hx : ∀ σ, PassesAt CX X σ E) : OpR X (compareOp op) (rOwnI C sp E) := by
  intro pins s σ H x y v u Q I rx ry h
  obtain ⟨a, dx, fs, b, dy, gs, rfl, rfl, ha, hb', q⟩ := h
  cases (show v = Value.ref a from rx)
  cases (show u = Value.ref b from ry)
  obtain ⟨mA, J, _⟩ := ins_get I.hok ha
  obtain ⟨mB, J', _⟩ := ins_get I.hok hb'
  obtain ⟨od, J, _⟩ := J.look
  obtain ⟨od', J', _⟩ := J'.look
  obtain ⟨m, hF⟩ := I.fr
  rw [hop]
  refine PySem.W.cmp_K (op := op) (tb := .ref C) hr.units0 hF I.ok.mod.kin J J'.type (by simp [PySem.W.notFirst]) hs hf ?_
  refine wpAny_mono (run_fnS (E := fun _ => E) (us := [.ref a, .ref b]) (vs := [.ref a, .ref b]) F hr hb (hx σ) I (.cons rfl (.cons rfl .nil)) q) (fun w s' z => ?_) fun _ _ x => x
  obtain ⟨z', H', I', rz, qz⟩ := z
  exact SlX.cmpback rz ⟨z', H', I', rz, qz⟩
/-! ### a != b by an own == -/
theorem ifBound_B {M : Model} {A : Around} {E : Value → Shared → Prop} {s : Shared} {K : PySem.W.Frag} {x C : Addr} {ox : Obj} {od : Option Obj} {name : Str} {id : String} {args : List Value} {Q : Option Value → Shared → Prop} (X : K.In s.heap) (I : PySem.W.InstAt s.heap x ox C od)
    (hs : PySem.W.findIn K (.ref C) name = some (some (.builtin id))) (hb : ∀ self, bindSpecial (.builtin id) self = pure (.builtin id, [self]))
    (h : wpAny M A (call (.builtin id) (.ref x :: args)) (fun v => Q (some v)) E s) : wpAny M A (callSpecialIfBound? (.ref x) name args) Q E s := by
  simp only [callSpecialIfBound?, bindSpecialIfBound?]
  refine wpAny_holding (wpAny_bind (wpAny_bind (wpAny_bind (I.type.here ((PySem.W.looks_findIn X hs).here ?_)))))
  refine wpAny_bind (wpAny_askSetting (wpAny_ite ?_))
  have fin : wpAny M A (call (.builtin id) ([.ref x] ++ args) >>= fun v => pure (some v)) Q E s := wpAny_bind (wpAny_mono h (fun v s' h' => wpAny_pure h') fun _ _ h' => h')
  split
  · exact wpAny_bind ((PySem.W.Looks.of_pure (hb _)).here (wpAny_pure (by exact fin)))
  · exact wpAny_tryCatch (wpAny_bind ((PySem.W.Looks.of_pure (hb _)).here (wpAny_pure (by exact fin))))
open Builtin in
theorem cmp_ne_own {prog : Program} {w : World} {A : Around} {E : Value → Shared → Prop} {s : Shared} {K : PySem.W.Frag} {x C L f : Addr} {h₀ : Heap} {m : Str → Option Value} {ox : Obj} {od : Option Obj} {b : Value} {Q : Value → Shared → Prop} (hu : A.units < cLine) (hu1 : A.in1.units < cLine) (F : Fr h₀ L s.heap m) (X₀ : K.In h₀)
    (I : PySem.W.InstAt s.heap x ox C od) (hb : PySem.W.Looks (model prog w) s.heap (typeOf b) (.ref C)) (hm : PySem.W.mroIn K C (.type "object") = some true)
    (hs : PySem.W.findIn K (.ref C) "__eq__" = some (some (.ref f))) (hf : PySem.W.isFn K (.ref f) = true) (hn : PySem.W.findIn K (.ref C) "__ne__" = some (some (.builtin "object.__ne__")))
    (h : wpAny (model prog w) A.in1 (call (.ref f) [.ref x, b]) (fun v s' => ∃ r, v = .bool r ∧ Q (.bool (!r)) s') E s) : wpAny (model prog w) A (richCompare .NotEq (.ref x) b) Q E s := by
  have X := X₀.keeps F.keep
  have one : wpAny (model prog w) A (tryCompare (.ref x) "__ne__" b) (fun r s' => ∃ r', r = some (.bool r') ∧ Q (.bool r') s') E s := by
    unfold tryCompare
    refine wpAny_bind (ifBound_B X I hn PySem.F.cmp_object.ne.bind (wpAny_call (codeAny_call_builtin PySem.F.cmp_object.ne.plain PySem.F.cmpEntry_ne
      (PySem.W.check_slot PySem.F.cmpKind_ne PySem.F.cmpSplit_ne (I.type.andThen (PySem.W.looks_mroIn X hm)) (PySem.F.cmpArgs_ne _ _) ?_))))
    unfold Builtin.«object.__ne__»
    refine wpAny_bind (m := slotArgs "__ne__" 1 _) (wpAny_pure ?_)
    refine wpAny_bind (m := cRoomFor _ _) (wpAny_cRoomFor hu1 ?_)
    refine wpAny_bind (m := callSpecialIfBound? (.ref x) (Str.ofString "__eq__") _) (PySem.W.ifBound_K X I hs hf (wpAny_mono h (fun r s' hq => ?_) fun _ _ y => y))
    obtain ⟨r, rfl, hq⟩ := hq
    refine wpAny_bind (m := truthy (.bool _)) (wpAny_truthy_bool ?_)
    refine wpAny_pure ?_
    exact wpAny_pure ⟨_, rfl, hq⟩
  unfold richCompare
  simp only [oneThing_ref]
  refine wpAny_holding (wpAny_bind (wpAny_cRoomFor hu ?_))
  refine wpAny_bind (I.type.here (wpAny_bind (hb.here ?_)))
  rw [show (Value.ref C != Value.ref C) = false from by simp]
  simp only [Bool.false_eq_true, if_false]
  refine wpAny_bind (wpAny_pure ?_)
  simp only [Bool.false_eq_true, if_false]
  refine wpAny_bind (wpAny_mono one (fun r s' z => ?_) fun _ _ e => e)
  obtain ⟨r', rfl, hq⟩ := z
  exact wpAny_pure hq
/-- a != b, both of the class at C, which has a def for == alone; it tells a truth -/
def rNeI (C : Addr) (sp : Sp) (E : XK) : R2 := fun x y H Q => ∃ a dx fs b dy gs, x = .ref a ∧ y = .ref b ∧ H a = some (.ins C dx fs) ∧ H b = some (.ins C dy gs) ∧ sp [x, y] H (fun v H' => ∃ r, v = .bl r ∧ Q (.bl (!r)) H') E
theorem run_below {pins : List (Addr × Obj)} {σ : L2.St} {H : Hp} {s : Shared} {Q : VK} {us : List Value} {vs : List V} {A : Around} (F : FnOk X.prog X.w X.K X.mg X.base CX n f fd ps sp) (hr : Room n A) (hA : A.frames = X.A.frames) (hb : Binds X.K fd ps []) (hx : PassesAt CX X σ E)
    (I : Inv X pins σ H s) (r : Vals vs us) (h : sp vs H Q E) : wpAny (model X.prog X.w) A (call (.ref f) us) (EP X pins σ Q) X.xe s := by
  have hl : us.length = ps.length := by rw [← r.length]; exact F.len _ _ _ _ h
  have b := hb s us I.kIn (by rw [List.append_nil]; exact hl)
  rw [List.append_nil] at b
  have e0 : Env0 X.prog X.w X.K X.mg X.base A X.stack s H := by
    have e := I.env0
    exact ⟨by rw [hA]; exact e.frames, e.mod, e.bs, e.bsz, e.funs, e.frf, e.hok, e.bare⟩
  refine wpAny_call (codeAny_mono (F.run A X.stack s H ⟨us, []⟩ us vs Q E hr e0 b r h) fun r s' hq => ?_)
  cases r with
  | error e => exact hx pins H s e s' I hq
  | ok fl =>
    cases fl with
    | ret u => exact I.after hq
    | next => exact False.elim hq
    | brk => exact False.elim hq
    | cont => exact False.elim hq
theorem op_neI (hm : PySem.W.mroIn X.K C (.type "object") = some true) (hs : PySem.W.findIn X.K (.ref C) "__eq__" = some (some (.ref f))) (hf : PySem.W.isFn X.K (.ref f) = true) (hn : PySem.W.findIn X.K (.ref C) "__ne__" = some (some (.builtin "object.__ne__")))
    (F : FnOk X.prog X.w X.K X.mg X.base CX n f fd ps sp) (hr : Room (n + 1) X.A) (hb : Binds X.K fd ps []) (hx : ∀ σ, PassesAt CX X σ E) : OpR X (compareOp .NotEq) (rNeI C sp E) := by
  intro pins s σ H x y v u Q I rx ry h
  obtain ⟨a, dx, fs, b, dy, gs, rfl, rfl, ha, hb', q⟩ := h
  cases (show v = Value.ref a from rx)
  cases (show u = Value.ref b from ry)
  obtain ⟨mA, J, _⟩ := ins_get I.hok ha
  obtain ⟨mB, J', _⟩ := ins_get I.hok hb'
  obtain ⟨od, J, _⟩ := J.look
  obtain ⟨od', J', _⟩ := J'.look
  obtain ⟨m, hF⟩ := I.fr
  show wpAny (model X.prog X.w) X.A (richCompare .NotEq (.ref a) (.ref b)) (EP X pins σ Q) X.xe s
  refine cmp_ne_own hr.units0 hr.in1.units0 hF I.ok.mod.kin J J'.type hm hs hf hn ?_
  refine wpAny_mono (run_below (us := [.ref a, .ref b]) (vs := [.ref a, .ref b]) F hr.in1 rfl hb (hx σ) I (.cons rfl (.cons rfl .nil)) q) (fun w s' z => ?_) fun _ _ x => x
  obtain ⟨z', H', I', rz, r, rfl, qz⟩ := z
  exact ⟨r, rz, .bl (!r), H', I', rfl, qz⟩
/-! ### len(o) by an own __len__ -/
def rLenI (C : Addr) (sp : Sp) (E : XK) : List V → Hp → VK → Prop := fun xs H Q => ∃ a dx fs, xs = [V.ref a] ∧ H a = some (.ins C dx fs) ∧ sp [.ref a] H (fun v H' => ∃ k : Nat, v = .int k ∧ k < 2 ^ 63 ∧ Q (.int k) H') E
theorem call_lenI (hs : PySem.W.findIn X.K (.ref C) "__len__" = some (some (.ref f))) (hf : PySem.W.isFn X.K (.ref f) = true)
    (F : FnOk X.prog X.w X.K X.mg X.base CX n f fd ps sp) (hr : Room (n + 1) X.A) (hb : Binds X.K fd ps []) (hx : ∀ σ, PassesAt CX X σ E) : CallR X (.builtin "len") (rLenI C sp E) := by
  intro pins s σ H xs us Q I r h
  obtain ⟨a, dx, fs, rfl, ha, q⟩ := h
  obtain ⟨u, rfl, ru⟩ := r.one
  cases (show u = Value.ref a from ru)
  obtain ⟨mA, J, _⟩ := ins_get I.hok ha
  obtain ⟨od, J, _⟩ := J.look
  obtain ⟨m, hF⟩ := I.fr
  refine PySem.W.len_K hF I.ok.mod.kin J hs hf ?_
  refine wpAny_mono (run_below (us := [.ref a]) (vs := [.ref a]) F hr.in1 rfl hb (hx σ) I (.cons rfl .nil) q) (fun w s' z => ?_) fun _ _ x => x
  obtain ⟨z', H', I', rz, k, rfl, hk, qz⟩ := z
  obtain ⟨t, e⟩ := (show ∃ t, w = Value.int k t from rz)
  cases e
  exact ⟨⟨by omega, by omega⟩, .int k, H', I'.tok _, ⟨_, rfl⟩, qz⟩
end
end XL
namespace XL
open PySem PySem.Spec PyProof.Rows L2
/-! ### an error with one field: kept, or made and not raised -/
def ErO (a C : Addr) (f : Str) (v : V) (H : Hp) : Prop := ∃ d, (H a = some (exk a (.ref C) (some d)) ∧ H d = some (.xd [(f, v)])) ∨ (H a = some (exo a C (some d)) ∧ H d = some (exd d [(f, v)]))
theorem ErO.same {a C : Addr} {f : Str} {v : V} {H H' : Hp} (h : ErO a C f v H) (s : Same H H') : ErO a C f v H' := by
  obtain ⟨d, h⟩ := h
  exact ⟨d, h.elim (fun h => .inl ⟨s _ _ h.1, s _ _ h.2⟩) fun h => .inr ⟨s _ _ h.1, s _ _ h.2⟩⟩
section
variable {X : Cx}
def rIsEo (K : PySem.W.Frag) : List V → Hp → VK → Prop := fun xs H Q => ∃ (a C : Addr) (f : Str) (v : V) (c : V) (u : Value) (b : Bool) (B newId initId : String) (bm : List Value), xs = [.ref a, c] ∧ ExF K C B newId initId bm ∧ ErO a C f v H ∧ ClsV c u ∧ PySem.W.kitOne K (.ref C) u = some b ∧ Q (.bl b) H
theorem call_isEo : CallR X (.builtin "isinstance") (rIsEo X.K) := by
  intro pins s σ H xs us Q I r h
  obtain ⟨a, C, f, v, c, u, b, B, newId, initId, bm, e, T, ⟨d, hd⟩, k, kt, q⟩ := h
  rcases hd with ⟨h1, h2⟩ | ⟨h1, h2⟩
  · exact call_isK pins s σ H xs us Q I r ⟨a, C, some d, c, u, b, B, newId, initId, bm, e, T, h1, fun dd z => by cases z; exact ⟨_, h2⟩, k, kt, q⟩
  · exact call_isiX pins s σ H xs us Q I r ⟨a, C, some d, c, u, b, B, newId, initId, bm, e, T, h1, fun dd z => by cases z; exact ⟨_, h2⟩, k, kt, q⟩
def rIsEoT (K : PySem.W.Frag) : List V → Hp → VK → Prop := fun xs H Q => ∃ (a C tp : Addr) (f : Str) (v : V) (cs : List V) (ws : List Value) (b : Bool) (B newId initId : String) (bm : List Value), xs = [.ref a, .ref tp] ∧ ExF K C B newId initId bm ∧ ErO a C f v H ∧ H tp = some (.tup cs) ∧ Paired ClsV cs ws ∧ PySem.W.kitAny K (.ref C) ws = some b ∧ Q (.bl b) H
theorem call_isEoT : CallR X (.builtin "isinstance") (rIsEoT X.K) := by
  intro pins s σ H xs us Q I r h
  obtain ⟨a, C, tp, f, v, cs, ws, b, B, newId, initId, bm, e, T, ⟨d, hd⟩, ht, k, kt, q⟩ := h
  rcases hd with ⟨h1, h2⟩ | ⟨h1, h2⟩
  · exact call_isKT pins s σ H xs us Q I r ⟨a, C, tp, some d, cs, ws, b, B, newId, initId, bm, e, T, h1, fun dd z => by cases z; exact ⟨_, h2⟩, ht, k, kt, q⟩
  · exact call_isiXT pins s σ H xs us Q I r ⟨a, C, tp, some d, cs, ws, b, B, newId, initId, bm, e, T, h1, fun dd z => by cases z; exact ⟨_, h2⟩, ht, k, kt, q⟩
theorem PE.or {e : Expr} {t1 t2 : TE} (h1 : PE X e t1) (h2 : PE X e t2) : PE X e (fun σ H Q => t1 σ H Q ∨ t2 σ H Q) := ⟨fun pins s σ H Q I h => h.elim (h1.run pins s σ H Q I) (h2.run pins s σ H Q I)⟩
def tEoGet (C : Addr) (n : Str) (te : TE) : TE := fun σ H Q => te σ H fun x H1 => ∃ a v, x = .ref a ∧ ErO a C n v H1 ∧ Q v H1
theorem pe_eoget {C : Addr} {B newId initId : String} {bm : List Value} {e : Expr} {te : TE} {pos : Pos} {n : Str} (T : ExF X.K C B newId initId bm) (hno : PySem.W.findIn X.K (.ref C) n = some none) (he : PE X e te) (hb : attributeBase e n X.env (eval e X.env) = eval e X.env := by rfl) :
    PE X (.Attribute e n pos) (tEoGet C n te) := by
  refine ⟨fun pins s σ H Q I h => attr_of hb (thn (he.run pins s σ H _ I h) fun u s1 hh => ?_)⟩
  obtain ⟨x, H1, I1, rx, a, v, ex, ⟨dd, hd⟩, q⟩ := hh
  subst ex
  obtain rfl : u = Value.ref a := rx
  have l : ([(n, v)] : List (Str × V)).lookup n = some v := by simp [List.lookup]
  rcases hd with ⟨ea, ed⟩ | ⟨ea, ed⟩
  · obtain ⟨oe, vs, ho, hc, hdd, hf⟩ := exk_at I1.hok ea
    obtain ⟨mA, hns, hr⟩ := (show ObjOk X.prog X.w H1 s1.heap dd (.xd [(n, v)]) from I1.hok dd _ ed)
    obtain ⟨od, hod, hl⟩ := lookIn_ns hns
    obtain ⟨u, hu, ru⟩ := RelO.some_of (v := v) (o := mA n) (by rw [← l]; exact hr n)
    have J : PySem.W.InstAt s1.heap a oe C (some od) := ⟨ho, hc, by unfold PySem.W.notCls; rw [hf], by rw [hdd]; exact hod⟩
    exact HandSPX.exc_get I1.kIn J T.ga T.gt T.exC (PySem.W.findObj_own T.hd hno rfl (by rw [hl, hu])) (handed_of ru) ⟨v, H1, I1.tok _, ru, q⟩
  · obtain ⟨t1, ho⟩ := exo_at I1.hok ea
    obtain ⟨mA, hns, hr⟩ := exd_at I1.hok ed
    obtain ⟨od, hod, hl⟩ := lookIn_ns hns
    obtain ⟨u, hu, ru⟩ := RelO.some_of (v := v) (o := mA n) (by rw [← l]; exact hr n)
    have J : PySem.W.InstAt s1.heap a { cls := .ref C, dict := some dd, data := .fields #[.ref t1, .none, .none, .none, .bool false, .none] } C (some od) := ⟨ho, rfl, rfl, hod⟩
    exact HandSPX.exc_get I1.kIn J T.ga T.gt T.exC (PySem.W.findObj_own T.hd hno rfl (by rw [hl, hu])) (handed_of ru) ⟨v, H1, I1.tok _, ru, q⟩
/-! ### [truths].count(a truth) -/
def rCntB (K : PySem.W.Frag) : V → List V → Hp → VK → Prop := fun x xs H Q => ∃ (p : Addr) (bs : List Bool) (c : Bool), x = .ref p ∧ xs = [.bl c] ∧ SqL K H p (bs.map V.bl) ∧ Q (.int (bs.countP (fun b => b == c) : Nat)) H
theorem mt_cntB : MtR X "list.count" (rCntB X.K) := by
  intro pins s σ H x xs v us Q I rx rxs h
  obtain ⟨p, bs, c, rfl, rfl, hs, q⟩ := h
  cases rx
  obtain ⟨u, rfl, ru⟩ := rxs.one
  obtain rfl : u = Value.bool c := ru
  obtain ⟨its, rv, ⟨⟨cls, dd, data, sl⟩, n, ho, hc, hdn, hd⟩, hlen⟩ := I.list hs
  simp only at hc hd
  subst hc hd
  have key : ∀ (bs : List Bool) (its : List Value), Vals (bs.map V.bl) its → its = bs.map Value.bool := by
    intro bs
    induction bs with
    | nil => intro its r; cases r; rfl
    | cons b bs ih =>
      intro its r
      rw [List.map_cons] at r
      cases r with
      | cons h t => rw [ih _ t, List.map_cons, show _ = Value.bool b from h]
  have hi := key bs its rv
  subst hi
  have ec : ((bs.map Value.bool).toArray.toList.countP fun v => match v with | .bool b => b == c | _ => false) = bs.countP (fun b => b == c) := by
    show (bs.map Value.bool).countP _ = _
    rw [List.countP_map]
    rfl
  refine call_meets PySem.F.slot_list_count ⟨_, ho, rfl⟩ PySem.F.entry_list_count (PySem.F.args_list_count_2 _ _)
    (SeqAt.list_countAt p (bs.map Value.bool).toArray n dd sl (.bool c) (fun v => match v with | .bool b => b == c | _ => false)) ⟨ho, fun y hy => ?_, ?_⟩
  · obtain ⟨b, _, rfl⟩ := List.mem_map.mp (show y ∈ bs.map Value.bool by simpa using hy)
    exact eqAt_V (y := .bl b) (x := .bl c) rfl rfl rfl rfl
  · refine ⟨.int (bs.countP (fun b => b == c) : Nat), H, I.tok _, ⟨s.toks, ?_⟩, q⟩
    rw [ec]
end
end XL
namespace XL
open PySem PySem.Spec PyProof.Rows L2
/-! ### list + list, whatever lists -/
def rCatL (K : PySem.W.Frag) : R2 := fun x y H Q => ∃ l b xs zs, x = .ref l ∧ y = .ref b ∧ SqL K H l xs ∧ SqL K H b zs ∧ xs.length + zs.length ≤ sizeLine ∧ ∀ p, H p = none → Q (.ref p) (upd H p (.lst (xs ++ zs)))
theorem op_catL {X : Cx} : OpR X (binaryOp .Add) (rCatL X.K) := by
  intro pins s σ H x y v u Q I rx ry h
  obtain ⟨l, b, xs, zs, rfl, rfl, h1, h2, hz, q⟩ := h
  cases rx
  cases ry
  obtain ⟨its, r, ⟨⟨c1, dd, data, sl⟩, n, e, hc, hd, hs⟩, z⟩ := I.list h1
  obtain ⟨its2, r2, ⟨⟨c2, dd2, data2, sl2⟩, n2, e2, hc2, hd2, hs2⟩, z2⟩ := I.list h2
  have l1 := r.length
  have l2 := r2.length
  dsimp only at hc hd hs hc2 hd2 hs2
  subst hc hd hs hc2 hd2 hs2
  have ea : its.toArray ++ its2.toArray = (its ++ its2).toArray := by simp
  refine concat_meets ⟨_, e, rfl⟩ ⟨_, e2, rfl⟩ noFill_list_add seq_list_add PySem.F.slot_list_add PySem.F.entry_list_add (PySem.F.args_list_add_2 _ _) (list_addW l b its.toArray its2.toArray n n2 none none sl sl2 (by rw [List.size_toArray, List.size_toArray]; omega)) ⟨e, e2, ?_⟩
  rw [ea]
  exact ⟨.ref _, _, I.lnew (t' := s.toks) (r.append r2) (by rw [List.length_append]; omega), rfl, q _ I.fresh⟩
end XL
namespace XL
open PySem PySem.Spec PySem.Calls PyProof.Rows PyProof.V L2 PySem.W
set_option maxHeartbeats 2000000 in
/-- five classes in an except -/
theorem ext5 (c1 c2 c3 c4 c5 : Value) : ExTup [c1, c2, c3, c4, c5] := by
  intro M K h cls tp e b X LT hp hx A Q E s k0 q
  obtain ⟨hh, g, dr, tk, os⟩ := s
  have up : ∀ a o, h.get? a = some o → hh.get? a = some o := k0
  have T1 : Looks M h (isInstance (.ref tp) (.type "tuple")) true :=
    ((Looks.ld hp).andThen .now).andThen (Looks.of_pure isSubtype_tuple_tuple)
  have T0 := T1.keeps up
  obtain ⟨b1, d1, x1, hx, z1⟩ := exmAny_cons hx
  obtain ⟨b2, d2, x2, hx, z2⟩ := exmAny_cons hx
  obtain ⟨b3, d3, x3, hx, z3⟩ := exmAny_cons hx
  obtain ⟨b4, d4, x4, hx, z4⟩ := exmAny_cons hx
  obtain ⟨b5, d5, x5, hx, z5⟩ := exmAny_cons hx
  have e1 := (exm_cls (M := M) X x1).1.keeps up
  have S1 := (exm_cls (M := M) X x1).2.keeps up
  have e2 := (exm_cls (M := M) X x2).1.keeps up
  have S2 := (exm_cls (M := M) X x2).2.keeps up
  have e3 := (exm_cls (M := M) X x3).1.keeps up
  have S3 := (exm_cls (M := M) X x3).2.keeps up
  have e4 := (exm_cls (M := M) X x4).1.keeps up
  have S4 := (exm_cls (M := M) X x4).2.keeps up
  have e5 := (exm_cls (M := M) X x5).1.keeps up
  have S5 := (exm_cls (M := M) X x5).2.keeps up
  cases (show some false = some d5 from hx)
  have LT := LT.keeps up
  have hq := up _ _ hp
  subst z1 z2 z3 z4 z5
  unfold excMatches
  refine wpAny_bind (T0.at ?_)
  dsimp only
  rw [if_pos rfl]
  first
    | refine wpAny_bind (wpAny_seqItems hq rfl ?_)
    | refine wpAny_bind (wpAny_bind (wpAny_seqItems hq rfl (wpAny_pure ?_)))
  dsimp only [Option.getD_some, Option.getD]
  cases b1
  · (repeat (first | simp only [List.forIn_cons, List.forIn_nil, Bool.not_true, Bool.false_eq_true, if_false, if_true] | lk)); cases b2
    · (repeat (first | simp only [List.forIn_cons, List.forIn_nil, Bool.not_true, Bool.false_eq_true, if_false, if_true] | lk)); cases b3
      · (repeat (first | simp only [List.forIn_cons, List.forIn_nil, Bool.not_true, Bool.false_eq_true, if_false, if_true] | lk)); cases b4
        · (repeat (first | simp only [List.forIn_cons, List.forIn_nil, Bool.not_true, Bool.false_eq_true, if_false, if_true] | lk)); cases b5 <;> ((repeat (first | simp only [List.forIn_cons, List.forIn_nil, Bool.not_true, Bool.false_eq_true, if_false, if_true] | lk)); exact q)
        · (repeat (first | simp only [List.forIn_cons, List.forIn_nil, Bool.not_true, Bool.false_eq_true, if_false, if_true] | lk)); exact q
      · (repeat (first | simp only [List.forIn_cons, List.forIn_nil, Bool.not_true, Bool.false_eq_true, if_false, if_true] | lk)); exact q
    · (repeat (first | simp only [List.forIn_cons, List.forIn_nil, Bool.not_true, Bool.false_eq_true, if_false, if_true] | lk)); exact q
  · (repeat (first | simp only [List.forIn_cons, List.forIn_nil, Bool.not_true, Bool.false_eq_true, if_false, if_true] | lk)); exact q
end XL
namespace XL
open PySem PySem.Spec PyProof.Rows L2
/-! ### a row of statements parted: what holds behind the first few, and what follows from it -/
section
variable {A1 A2 A3 A4 A5 A6 R : TS} {D : Ends} {σ : L2.St} {H : Hp}
theorem seq1 (Mid : L2.St → Hp → Prop) (h1 : ∀ N : L2.St → Hp → Prop, (∀ σ G, Mid σ G → N σ G) → A1 { D with nx := N } σ H) (h2 : ∀ σ G, Mid σ G → R D σ G) : tSeq A1 R D σ H := h1 (R D) h2
theorem seq2 (Mid : L2.St → Hp → Prop) (h1 : ∀ N : L2.St → Hp → Prop, (∀ σ G, Mid σ G → N σ G) → tSeq A1 A2 { D with nx := N } σ H) (h2 : ∀ σ G, Mid σ G → R D σ G) : tSeq A1 (tSeq A2 R) D σ H := h1 (R D) h2
theorem seq3 (Mid : L2.St → Hp → Prop) (h1 : ∀ N : L2.St → Hp → Prop, (∀ σ G, Mid σ G → N σ G) → tSeq A1 (tSeq A2 A3) { D with nx := N } σ H) (h2 : ∀ σ G, Mid σ G → R D σ G) : tSeq A1 (tSeq A2 (tSeq A3 R)) D σ H := h1 (R D) h2
theorem seq4 (Mid : L2.St → Hp → Prop) (h1 : ∀ N : L2.St → Hp → Prop, (∀ σ G, Mid σ G → N σ G) → tSeq A1 (tSeq A2 (tSeq A3 A4)) { D with nx := N } σ H) (h2 : ∀ σ G, Mid σ G → R D σ G) : tSeq A1 (tSeq A2 (tSeq A3 (tSeq A4 R))) D σ H := h1 (R D) h2
theorem seq5 (Mid : L2.St → Hp → Prop) (h1 : ∀ N : L2.St → Hp → Prop, (∀ σ G, Mid σ G → N σ G) → tSeq A1 (tSeq A2 (tSeq A3 (tSeq A4 A5))) { D with nx := N } σ H) (h2 : ∀ σ G, Mid σ G → R D σ G) : tSeq A1 (tSeq A2 (tSeq A3 (tSeq A4 (tSeq A5 R)))) D σ H := h1 (R D) h2
theorem seq6 (Mid : L2.St → Hp → Prop) (h1 : ∀ N : L2.St → Hp → Prop, (∀ σ G, Mid σ G → N σ G) → tSeq A1 (tSeq A2 (tSeq A3 (tSeq A4 (tSeq A5 A6)))) { D with nx := N } σ H) (h2 : ∀ σ G, Mid σ G → R D σ G) : tSeq A1 (tSeq A2 (tSeq A3 (tSeq A4 (tSeq A5 (tSeq A6 R))))) D σ H := h1 (R D) h2
end
end XL
namespace XL
open PySem PySem.Spec PyProof.Rows L2
section
variable {X : Cx} {CX : CXT} {n : Nat} {f C : Addr} {fd : FuncData} {ps : List Str} {sp : Sp} {E : XK}
/-! ### repr(o) by an own __repr__ -/
def rReprI (C : Addr) (sp : Sp) (E : XK) : List V → Hp → VK → Prop := fun xs H Q => ∃ a dx fs, xs = [V.ref a] ∧ H a = some (.ins C dx fs) ∧ sp [.ref a] H (fun v H' => ∃ x : Str, v = .str x ∧ Q (.str x) H') E
theorem call_reprI (hs : PySem.W.findIn X.K (.ref C) "__repr__" = some (some (.ref f))) (hf : PySem.W.isFn X.K (.ref f) = true)
    (F : FnOk X.prog X.w X.K X.mg X.base CX n f fd ps sp) (hr : Room (n + 1) X.A) (hb : Binds X.K fd ps []) (hx : ∀ σ, PassesAt CX X σ E) : CallR X (.builtin "repr") (rReprI C sp E) := by
  intro pins s σ H xs us Q I r h
  obtain ⟨a, dx, fs, rfl, ha, q⟩ := h
  obtain ⟨u, rfl, ru⟩ := r.one
  cases (show u = Value.ref a from ru)
  obtain ⟨mA, J, _⟩ := ins_get I.hok ha
  obtain ⟨od, J, _⟩ := J.look
  obtain ⟨m, hF⟩ := I.fr
  refine PySem.W.repr_K hr.in1.units0 hF I.ok.mod.kin J hs hf ?_
  refine wpAny_mono (run_below (us := [.ref a]) (vs := [.ref a]) F hr.in1 rfl hb (hx σ) I (.cons rfl .nil) q) (fun w s' z => ?_) fun _ _ x => x
  obtain ⟨z', H', I', rz, x, rfl, qz⟩ := z
  obtain ⟨t, e⟩ := (show ∃ t, w = Value.str x t from rz)
  cases e
  trace_state
  exact ⟨.str x, H', I', ⟨_, rfl⟩, qz⟩
end
end XL
namespace XL
open PySem PySem.Spec PyProof.Rows L2
/-! ### what repr may be asked of -/
structure Shw (x : PyData) (n w : Nat) : Prop where
  s : x.showable = true
  h : x.hasDict = false
  d : x.depth ≤ n
  l : x.leavesShort 13 = true
  g : x.weight ≤ w
structure ShwA (ds : List PyData) (n w : Nat) : Prop where
  s : PyData.showableAll ds = true
  h : PyData.hasDictAll ds = false
  d : PyData.depthAll ds ≤ n
  l : PyData.leavesShortAll 13 ds = true
  g : PyData.weightAll ds ≤ w
theorem shw_int {i : Int} (h : i.natAbs < 10 ^ 12) (n : Nat) : Shw (.int i) n 41 := by
  have hl : i.natAbs ≠ 0 → i.natAbs.log2 < 40 := fun h0 => (Nat.log2_lt h0).mpr (by omega)
  refine ⟨?_, rfl, Nat.zero_le _, ?_, ?_⟩
  · show decide (i.natAbs.log2 < 1920) = true
    refine decide_eq_true ?_
    by_cases h0 : i.natAbs = 0
    · rw [h0]; decide
    · have := hl h0; omega
  · show decide ((PyData.shown (.int i)).length ≤ 13) = true
    exact decide_eq_true (PyData.shown_int_le h)
  · show (if i == 0 then 0 else i.natAbs.log2 + 1) ≤ 41
    split
    · omega
    · rename_i h0
      have : i.natAbs ≠ 0 := fun e => h0 (by rw [Int.natAbs_eq_zero.mp e]; rfl)
      have := hl this; omega
theorem ShwA.nil {n w : Nat} : ShwA [] n w := ⟨rfl, rfl, Nat.zero_le _, rfl, Nat.zero_le _⟩
theorem ShwA.cons {d : PyData} {ds : List PyData} {n w w' : Nat} (a : Shw d n w) (b : ShwA ds n w') : ShwA (d :: ds) n (w + 1 + w') := by
  refine ⟨?_, ?_, ?_, ?_, ?_⟩
  · show (d.showable && PyData.showableAll ds) = true
    rw [a.s, b.s]; rfl
  · show (d.hasDict || PyData.hasDictAll ds) = false
    rw [a.h, b.h]; rfl
  · show max d.depth (PyData.depthAll ds) ≤ n
    exact Nat.max_le.mpr ⟨a.d, b.d⟩
  · show (d.leavesShort 13 && PyData.leavesShortAll 13 ds) = true
    rw [a.l, b.l]; rfl
  · show d.weight + 1 + PyData.weightAll ds ≤ _
    have h1 := a.g; have h2 := b.g; omega
theorem ShwA.of {n w : Nat} : ∀ {ds : List PyData}, (∀ d ∈ ds, Shw d n w) → ShwA ds n (ds.length * (w + 1))
  | [], _ => .nil
  | d :: ds, h => by
    have q := ShwA.cons (h d (List.mem_cons_self ..)) (ShwA.of fun e he => h e (List.mem_cons_of_mem _ he))
    rw [List.length_cons, Nat.succ_mul, Nat.add_comm]; exact q
theorem ShwA.mono {ds : List PyData} {n n' w w' : Nat} (a : ShwA ds n w) (hn : n ≤ n') (hw : w ≤ w') : ShwA ds n' w' := ⟨a.s, a.h, Nat.le_trans a.d hn, a.l, Nat.le_trans a.g hw⟩
theorem Shw.mono {d : PyData} {n n' w w' : Nat} (a : Shw d n w) (hn : n ≤ n') (hw : w ≤ w') : Shw d n' w' := ⟨a.s, a.h, Nat.le_trans a.d hn, a.l, Nat.le_trans a.g hw⟩
theorem ShwA.tup {ds : List PyData} {n w : Nat} (a : ShwA ds n w) : Shw (.tuple ds) (n + 1) w := ⟨a.s, a.h, Nat.succ_le_succ a.d, a.l, a.g⟩
theorem ShwA.lst {ds : List PyData} {n w : Nat} (a : ShwA ds n w) : Shw (.list ds) (n + 1) w := ⟨a.s, a.h, Nat.succ_le_succ a.d, a.l, a.g⟩
theorem Shw.fits {d : PyData} {n w : Nat} (a : Shw d n w) (hw : w ≤ 1048576) : d.shown.length ≤ sizeLine := PyData.shown_fits (B := 13) (by decide) (by decide) a.l (Nat.le_trans a.g (by omega))
theorem shw_lk {r b : Int} {l : Lk} (hr : r ≤ 100) (hb : b ≤ 100) (ok : okLk r b l) : Shw (lkD l) 1 168 := by
  have := ok.a0; have := ok.a1; have := ok.c0; have := ok.c1; have := ok.x0; have := ok.x1; have := ok.y0; have := ok.y1
  exact ((ShwA.cons (shw_int (by omega) 0) (.cons (shw_int (by omega) 0) (.cons (shw_int (by omega) 0) (.cons (shw_int (by omega) 0) (ShwA.nil (w := 0)))))).mono (Nat.le_refl _) (by omega)).tup
theorem shw_cn {c : Cn} (ok : okCn 100 100 c) : Shw (cnD c) 3 17100 := by
  have h1 := ok.r1; have h2 := ok.r2; have h3 := ok.b1; have h4 := ok.b2; have h5 := ok.n
  have hl : ShwA (c.ls.map lkD) 1 16900 := (ShwA.of (n := 1) (w := 168) fun d hd => by
    obtain ⟨l, hm, rfl⟩ := List.mem_map.mp hd
    exact shw_lk (by omega) (by omega) (ok.l l hm)).mono (Nat.le_refl _) (by rw [List.length_map]; omega)
  exact ((ShwA.cons (shw_int (by omega) 2) (.cons (shw_int (by omega) 2) (.cons hl.tup (ShwA.nil (w := 0))))).mono (Nat.le_refl _) (by omega)).tup
theorem shw_ints {zs : List Int} {m : Nat} (h : ∀ z ∈ zs, z.natAbs < 10 ^ 12) (hm : zs.length ≤ m) : Shw (.tuple (zs.map PyData.int)) 1 (m * 42) :=
  ((ShwA.of (n := 0) (w := 41) fun d hd => by
    obtain ⟨z, hz, rfl⟩ := List.mem_map.mp hd
    exact shw_int (h z hz) 0).mono (Nat.le_refl _) (by rw [List.length_map]; exact Nat.mul_le_mul_right _ hm)).tup
end XL
namespace XL
open PySem PySem.Spec PyProof.Rows L2
/-! ### repr of any data -/
def tRep2 (K : PySem.W.Frag) (te : TE) : TE := fun σ H Q => te σ H fun x H1 => ∃ d, Dp K H1 x d ∧ d.showable = true ∧ d.hasDict = false ∧ d.depth ≤ 50 ∧ d.shown.length ≤ sizeLine ∧ Q (.str d.shown) H1
theorem pe_rep2 {X : Cx} {k : Nat} {e : Expr} {te : TE} {p pos : Pos} (hG : X.A.guards = some []) (hr : Room k X.A) (hg : Gl X "repr") (hm : X.mg "repr" = none) (hb : bootBuiltins "repr" = some (.builtin "repr")) (ha : PE X e te)
    (he : starEach [e] X.env = (false, eval e X.env) :: starEach [] X.env := by rfl) : PE X (.Call (.Name "repr" p) [e] [] pos) (tRep2 X.K te) := by
  refine ⟨fun pins s σ H Q I h => wpAny_Call_Name_kw (ld_blt I hg hm hb ?_)⟩
  refine PyProof.Rows.callWith_builtin1 (args_cons (thn (ha.run pins s σ H _ I h) fun u s1 ⟨v, H1, I1, r1, q1⟩ => args_nil ?_) he) he rfl
  obtain ⟨d, hd, hs, hno, hdp, hz, q⟩ := q1
  have hu := hr.un
  have go : ∀ a, v = .ref a → wpAny (model X.prog X.w) X.A (call (.builtin "repr") [u]) (EP X pins σ Q) X.xe s1 := fun a ex => by
    subst ex
    obtain ⟨as, rd⟩ := Dp.reads I1 d _ u hd r1
    cases (show u = Value.ref a from r1)
    refine repr_of_reads' rd hs (fun z => absurd z (by rw [hno]; decide)) hG (by omega) (fun b o e => e) (fun h' u tk hk => ?_) hz
    exact ⟨.str d.shown, H1, I1.kept hk, ⟨_, rfl⟩, q⟩
  cases hd with
  | non => cases r1; exact PySem.P.repr_of_none ⟨.str _, H1, I1.tok _, ⟨_, rfl⟩, q⟩
  | bl b => cases r1; exact PySem.P.repr_of_bool ⟨.str _, H1, I1.tok _, ⟨_, rfl⟩, q⟩
  | int i =>
    obtain ⟨t, rfl⟩ := r1
    exact PySem.P.repr_of_int (of_decide_eq_true hs) ⟨.str _, H1, I1.tok _, ⟨_, rfl⟩, q⟩
  | str x =>
    obtain ⟨t, rfl⟩ := r1
    exact PySem.P.repr_of_str ⟨.str _, H1, I1.tok _, ⟨_, rfl⟩, q⟩ hz
  | lst h1 h2 => exact go _ rfl
  | tup h1 h2 => exact go _ rfl
/-! ### data whose leaves are small -/
mutual
def Gd (m : Nat) : PyData → Prop
  | .none => True
  | .bool _ => True
  | .int i => i.natAbs ≤ m
  | .str x => x.cps.toList.all (fun c => decide (c < 16 ^ 8)) = true
  | .list ds => Gds m ds
  | .tuple ds => Gds m ds
  | .dict _ => False
def Gds (m : Nat) : List PyData → Prop
  | [] => True
  | d :: ds => Gd m d ∧ Gds m ds
end
theorem Gds_iff {m : Nat} : ∀ {ds : List PyData}, Gds m ds ↔ ∀ d ∈ ds, Gd m d
  | [] => by simp [Gds]
  | d :: ds => by rw [Gds, Gds_iff]; simp
mutual
theorem Gd.mono {m m' : Nat} (h : m ≤ m') : ∀ d, Gd m d → Gd m' d
  | .none, _ => trivial
  | .bool _, _ => trivial
  | .int i, g => Nat.le_trans g h
  | .str _, g => g
  | .list ds, g => Gds.mono h ds g
  | .tuple ds, g => Gds.mono h ds g
  | .dict _, g => g.elim
theorem Gds.mono {m m' : Nat} (h : m ≤ m') : ∀ ds, Gds m ds → Gds m' ds
  | [], _ => trivial
  | d :: ds, g => ⟨Gd.mono h d g.1, Gds.mono h ds g.2⟩
end
theorem log_lt {n : Nat} (h : n ≤ 10 ^ 32) : n.log2 < 107 := by
  by_cases h0 : n = 0
  · rw [h0]; decide
  · exact (Nat.log2_lt h0).mpr (Nat.lt_of_le_of_lt h (by decide))
theorem short_int {i : Int} (h : i.natAbs ≤ 10 ^ 32) : (PyData.shown (.int i)).length ≤ 40 := by
  have e := int_text_length_le10 (k := 33) (by decide) (a := i) (Nat.lt_of_le_of_lt h (by decide))
  show (Str.ofString (toString i)).length ≤ 40
  rw [PySem.ofString_length]; omega
mutual
theorem Gd.shows {m : Nat} (h : m ≤ 10 ^ 32) : ∀ d, Gd m d → d.showable = true ∧ d.hasDict = false ∧ d.leavesShort 40 = true
  | .none, _ => ⟨rfl, rfl, rfl⟩
  | .bool _, _ => ⟨rfl, rfl, rfl⟩
  | .int i, g => ⟨decide_eq_true (Nat.lt_trans (log_lt (Nat.le_trans g h)) (by decide)), rfl, decide_eq_true (short_int (Nat.le_trans g h))⟩
  | .str _, g => ⟨rfl, rfl, g⟩
  | .list ds, g => Gds.shows h ds g
  | .tuple ds, g => Gds.shows h ds g
  | .dict _, g => g.elim
theorem Gds.shows {m : Nat} (h : m ≤ 10 ^ 32) : ∀ ds, Gds m ds → PyData.showableAll ds = true ∧ PyData.hasDictAll ds = false ∧ PyData.leavesShortAll 40 ds = true
  | [], _ => ⟨rfl, rfl, rfl⟩
  | d :: ds, g => by
    obtain ⟨a1, a2, a3⟩ := Gd.shows h d g.1
    obtain ⟨b1, b2, b3⟩ := Gds.shows h ds g.2
    refine ⟨?_, ?_, ?_⟩
    · show (d.showable && PyData.showableAll ds) = true
      rw [a1, b1]; rfl
    · show (d.hasDict || PyData.hasDictAll ds) = false
      rw [a2, b2]; rfl
    · show (d.leavesShort 40 && PyData.leavesShortAll 40 ds) = true
      rw [a3, b3]; rfl
end
theorem shown_fits40 {d : PyData} (hl : d.leavesShort 40 = true) (hw : d.weight ≤ 300000) : d.shown.length ≤ sizeLine := by
  have h := PyData.shown_le 40 (by decide) d hl
  rw [sizeLine_eq]
  omega
/-- weights and depths by elements -/
theorem weightAll_app : ∀ xs ys : List PyData, PyData.weightAll (xs ++ ys) = PyData.weightAll xs + PyData.weightAll ys
  | [], ys => by simp [PyData.weightAll]
  | x :: xs, ys => by simp only [List.cons_append, PyData.weightAll, weightAll_app xs ys]; omega
theorem depthAll_app : ∀ xs ys : List PyData, PyData.depthAll (xs ++ ys) = max (PyData.depthAll xs) (PyData.depthAll ys)
  | [], ys => by simp [PyData.depthAll]
  | x :: xs, ys => by simp only [List.cons_append, PyData.depthAll, depthAll_app xs ys]; omega
theorem Gds_app {m : Nat} {xs ys : List PyData} : Gds m (xs ++ ys) ↔ Gds m xs ∧ Gds m ys := by
  rw [Gds_iff, Gds_iff, Gds_iff]
  constructor
  · exact fun h => ⟨fun d hd => h d (List.mem_append_left _ hd), fun d hd => h d (List.mem_append_right _ hd)⟩
  · rintro ⟨h1, h2⟩ d hd
    rcases List.mem_append.mp hd with q | q
    · exact h1 d q
    · exact h2 d q
theorem split_at {α : Type} {xs : List α} {j : Nat} {x : α} (h : xs[j]? = some x) : xs = xs.take j ++ x :: xs.drop (j + 1) := by
  have hj : j < xs.length := by
    rcases Nat.lt_or_ge j xs.length with q | q
    · exact q
    · rw [List.getElem?_eq_none q] at h; cases h
  rw [List.getElem?_eq_getElem hj] at h
  have e : xs[j] = x := Option.some.inj h
  rw [← e, List.getElem_cons_drop, List.take_append_drop]
theorem set_at {α : Type} {xs : List α} {j : Nat} {x y : α} (h : xs[j]? = some x) : xs.set j y = xs.take j ++ y :: xs.drop (j + 1) := by
  have hj : j < xs.length := by
    rcases Nat.lt_or_ge j xs.length with q | q
    · exact q
    · rw [List.getElem?_eq_none q] at h; cases h
  exact List.set_eq_take_append_cons_drop.trans (if_pos hj)
end XL
namespace XL
open PySem PySem.Spec PyProof.Rows L2
def topS (i : Nat) : Stmt := PySem.Challenge.pw_crosslocks_k53_keeps_beside_books.main.body.getD i (.Pass ⟨0, 0, 0, 0⟩)
abbrev sTake : Stmt := topS 38
abbrev sOf : Stmt := topS 40
theorem atI_int {α : Type} {xs : List α} {i : Int} {v : α} (h0 : 0 ≤ i) (h : xs[i.toNat]? = some v) : atI xs i = some v := by
  have q := atI_nat h
  rwa [show ((i.toNat : Nat) : Int) = i by omega] at q
/-! ### the box: a list of three numbers -/
def Bx (H : Hp) (b : Addr) : Prop := ∃ x y z : Int, H b = some (.lst [.int x, .int y, .int z])
/-- all that was tracked but the box is as it was, the box is a box -/
structure Dr (b : Addr) (H H' : Hp) : Prop where
  box : Bx H' b
  same : ∀ a o, a ≠ b → H a = some o → H' a = some o
theorem Dr.refl {b : Addr} {H : Hp} (h : Bx H b) : Dr b H H := ⟨h, fun _ _ _ e => e⟩
theorem Dr.trans {b : Addr} {H H1 H2 : Hp} (p : Dr b H H1) (q : Dr b H1 H2) : Dr b H H2 := ⟨q.box, fun a o n e => q.same a o n (p.same a o n e)⟩
theorem Dr.new {b p : Addr} {H : Hp} {o : HO} (h : Bx H b) (n : H p = none) : Dr b H (upd H p o) := by
  obtain ⟨x, y, z, e⟩ := h
  exact ⟨⟨x, y, z, same_new n b _ e⟩, fun a o _ e => same_new n a o e⟩
theorem Dr.put {b : Addr} {H : Hp} {x y z : Int} : Dr b H (upd H b (.lst [.int x, .int y, .int z])) := ⟨⟨x, y, z, upd_same⟩, fun a o n e => by rw [upd_ne n]; exact e⟩
theorem Dr.of {b : Addr} {H H' : Hp} (h : Bx H b) (s : Same H H') : Dr b H H' := by
  obtain ⟨x, y, z, e⟩ := h
  exact ⟨⟨x, y, z, s _ _ e⟩, fun a o _ e => s a o e⟩
section
variable {P : Program} {w : World} {K : PySem.W.Frag} {mg : Str → Option Value} {base : Heap}
/-! ### _law_take -/
theorem scTake : FnScope ["_law_box_here", "_law_size", "_law_found", "_law_blend"] ["_law_box_here", "_law_size"] (defScope sTake) := ⟨rfl, rfl, rfl, by decide +kernel, rfl, by decide +kernel, by decide +kernel⟩
def spTake : Sp := fun vs H Q _ => ∃ (b : Addr) (n : Int), vs = [.ref b, .int n] ∧ Bx H b ∧ 0 < n ∧ n < 10000000000000 ∧ ∀ (v : Int) (H' : Hp), 0 ≤ v → v < n → Dr b H H' → Q (.int v) H'
theorem fmod_lt {a n : Int} (h : 0 < n) : 0 ≤ a.fmod n ∧ a.fmod n < n := by
  rw [Int.fmod_eq_emod_of_nonneg _ (Int.le_of_lt h)]
  exact ⟨Int.emod_nonneg _ (by omega), Int.emod_lt_of_pos _ h⟩
theorem div_log {n : Int} (h0 : 0 < n) (h1 : n < 10000000000000) : n.natAbs.log2 < 9000 := by
  have : n.natAbs.log2 < 44 := (Nat.log2_lt (by omega)).mpr (Nat.lt_trans (m := 10000000000000) (by omega) (by decide))
  omega
theorem ok_take {f : Addr} {fd : FuncData} {k : Nat} (F : Fun K "_law_take" "_law_take" sTake f fd) : FnOk P w K mg base CX0 (k + 1) f fd ["_law_box_here", "_law_size"] spTake := by
  refine F.ok scTake (fun vs H Q E h => ?_) (fun cdv A outer s H vs Q E hr h => ?_)
  · obtain ⟨b, n, rfl, _⟩ := h
    rfl
  obtain ⟨b, n, rfl, ⟨x, y, z, eb⟩, h0, h1, q⟩ := h
  refine ⟨_, pss_cons (ps_if (pt_cmpR op_gt (pe_ix ix_list (pv 0) pe_int (fun _ _ => rfl)) pe_int (nomark _))
      (pss_cons (ps_set (i := 2) scTake.nd rfl (.inl rfl) (pe_op op_modN (pe_ix ix_list (pv 0) pe_int (fun _ _ => rfl)) (pv 1)))
      (pss_cons (ps_asg (pe_op op_fdivW (pe_ix ix_list (pv 0) pe_int (fun _ _ => rfl)) (pv 1)) (pg_sub (pv 0) pe_int set_list))
      (pss_one (ps_ret (pv 2))))) pss_nil)
    (pss_cons (ps_asg (pe_op op_add (pe_ix ix_list (pv 0) pe_int (fun _ _ => rfl)) pe_int) (pg_sub (pv 0) pe_int set_list))
    (pss_cons (ps_set (i := 3) scTake.nd rfl (.inl rfl) (pe_op op_modN (pe_op op_add (pe_ix ix_list (pv 0) pe_int (fun _ _ => rfl)) (pe_op op_mul pe_int (pe_ix ix_list (pv 0) pe_int (fun _ _ => rfl)))) pe_int))
    (pss_cons (ps_set (i := 3) scTake.nd rfl (.inl rfl) (pe_op op_modN (pe_op op_add (pe_op op_add (pe_op op_mul (pv 3) (pv 3)) (pe_op op_mul pe_int (pe_ix ix_list (pv 0) pe_int (fun _ _ => rfl)))) pe_int) pe_int))
    (pss_cons (ps_set (i := 3) scTake.nd rfl (.inl rfl) (pe_op op_modN (pe_op op_add (pe_op op_mul (pv 3) (pe_op op_add (pe_op op_fdivN (pv 3) pe_int) pe_int)) (pe_ix ix_list (pv 0) pe_int (fun _ _ => rfl))) pe_int))
    (pss_one (ps_ret (pe_op op_modN (pe_op op_fdivN (pv 3) pe_int) (pv 1)))))))), ?_⟩
  have sq : SqL K H b [.int x, .int y, .int z] := SqL.of eb
  -- box[0] > 0
  refine ⟨_, rfl, b, _, _, _, rfl, rfl, sq, rfl, _, _, rfl, rfl, _, rfl, ite2 (fun c => ?_) (fun c => ?_)⟩
  · refine ⟨_, rfl, b, _, _, _, rfl, rfl, sq, rfl, _, rfl, _, _, rfl, rfl, by omega, ?_⟩
    refine ⟨_, rfl, b, _, _, _, rfl, rfl, sq, rfl, _, rfl, _, _, rfl, rfl, ⟨h0, div_log h0 h1⟩, ?_⟩
    refine ⟨_, rfl, b, _, _, 0, rfl, rfl, eb, rfl, ?_⟩
    refine ⟨_, rfl, ?_⟩
    exact q _ _ (fmod_lt h0).1 (fmod_lt h0).2 Dr.put
  · refine ⟨_, rfl, b, _, _, _, rfl, rfl, sq, rfl, _, _, rfl, rfl, ?_⟩
    refine ⟨_, rfl, b, _, _, 2, rfl, rfl, eb, rfl, ?_⟩
    have sq2 : SqL K (upd H b (.lst [.int x, .int y, .int (z + 1)])) b [.int x, .int y, .int (z + 1)] := SqL.of upd_same
    refine ⟨_, rfl, b, _, _, _, rfl, rfl, sq2, rfl, _, rfl, b, _, _, _, rfl, rfl, sq2, rfl, _, _, rfl, rfl, .inl ⟨by decide, by decide⟩, _, _, rfl, rfl, _, _, rfl, rfl, (by show (2305843009213693951 : Int) ≠ 0; decide), ?_⟩
    have m1 := fmod_lt (a := y + 1442695040888963407 * (z + 1)) (n := 2305843009213693951) (by decide)
    refine ⟨_, rfl, _, rfl, _, _, rfl, rfl, .inl ⟨by omega, by omega⟩, _, rfl, b, _, _, _, rfl, rfl, sq2, rfl, _, _, rfl, rfl, .inl ⟨by decide, by decide⟩, _, _, rfl, rfl, _, _, rfl, rfl, _, _, rfl, rfl, (by show (2305843009213693921 : Int) ≠ 0; decide), ?_⟩
    have m2 := fmod_lt (a := (y + 1442695040888963407 * (z + 1)).fmod 2305843009213693951 * (y + 1442695040888963407 * (z + 1)).fmod 2305843009213693951 + 39373 * (z + 1) + 7) (n := 2305843009213693921) (by decide)
    refine ⟨_, rfl, _, rfl, _, _, rfl, rfl, ⟨by decide, by decide⟩, _, _, rfl, rfl, _, _, rfl, rfl, .inl ⟨by omega, by omega⟩, _, rfl, b, _, _, _, rfl, rfl, sq2, rfl, _, _, rfl, rfl, _, _, rfl, rfl, (by show (2305843009213693907 : Int) ≠ 0; decide), ?_⟩
    refine ⟨_, rfl, _, _, rfl, rfl, ⟨by decide, by decide⟩, _, rfl, _, _, rfl, rfl, by omega, ?_⟩
    exact q _ _ (fmod_lt h0).1 (fmod_lt h0).2 Dr.put
/-! ### _law_of -/
theorem scOf : FnScope ["_law_box_here", "_law_some"] ["_law_box_here", "_law_some"] (defScope sOf) := ⟨rfl, rfl, rfl, by decide +kernel, rfl, by decide +kernel, by decide +kernel⟩
def spOf (K : PySem.W.Frag) : Sp := fun vs H Q _ => ∃ (b l : Addr) (xs : List V), vs = [.ref b, .ref l] ∧ Bx H b ∧ l ≠ b ∧ SqL K H l xs ∧ xs ≠ [] ∧ xs.length < 1000 ∧ ∀ (j : Nat) (v : V) (H' : Hp), xs[j]? = some v → Dr b H H' → Q v H'
theorem Dr.sqL {b a : Addr} {H H' : Hp} {xs : List V} (d : Dr b H H') (n : a ≠ b) (h : SqL K H a xs) : SqL K H' a xs := by
  rcases h with (h | ⟨o, h⟩) | h
  · exact .inl (.inl (d.same _ _ n h))
  · exact .inl (.inr ⟨o, d.same _ _ n h⟩)
  · exact .inr h
theorem Dr.sqT {b a : Addr} {H H' : Hp} {xs : List V} (d : Dr b H H') (n : a ≠ b) (h : SqT K H a xs) : SqT K H' a xs := by
  rcases h with (h | ⟨o, h⟩) | h
  · exact .inl (.inl (d.same _ _ n h))
  · exact .inl (.inr ⟨o, d.same _ _ n h⟩)
  · exact .inr h
theorem ok_of {f ft : Addr} {fd fdt : FuncData} {k : Nat} (F : Fun K "_law_of" "_law_of" sOf f fd) (FT : Fun K "_law_take" "_law_take" sTake ft fdt) (bT : Binds K fdt ["_law_box_here", "_law_size"] []) (gT : mg "_law_take" = some (.ref ft)) (ml : mg "len" = none) :
    FnOk P w K mg base CX0 (k + 1 + 1) f fd ["_law_box_here", "_law_some"] (spOf K) := by
  refine F.ok scOf (fun vs H Q E h => ?_) (fun cdv A outer s H vs Q E hr h => ?_)
  · obtain ⟨b, l, xs, rfl, _⟩ := h
    rfl
  obtain ⟨b, l, xs, rfl, hb, hlb, hl, hne, hz, q⟩ := h
  refine ⟨_, pss_one (ps_ret (pe_ix ix_list (pv 1) (pe_call (ok_take (k := k) FT) hr rfl gT FT.kp bT .nil pass0 (pa_cons (pv 0) (pa_cons (pe_callB call_len_seq rfl ml PySem.boot_len (pa_cons (pv 1) pa_nil)) pa_nil))) (fun _ _ => rfl))), ?_⟩
  have hpos : 0 < xs.length := List.length_pos_iff.mpr hne
  refine ⟨_, rfl, _, rfl, _, rfl, l, xs, rfl, .inl hl, b, _, rfl, hb, by omega, by omega, fun v H' v0 v1 d => ?_⟩
  have hj : v.toNat < xs.length := by omega
  have ha : atI xs v = some xs[v.toNat] := atI_int v0 (List.getElem?_eq_getElem hj)
  refine ⟨l, xs, v, _, rfl, rfl, d.sqL hlb hl, ha, ?_⟩
  exact q v.toNat _ _ (List.getElem?_eq_getElem hj) d
end
end XL
namespace XL
open PySem PySem.Spec PyProof.Rows L2
abbrev sLists : Stmt := topS 42
theorem boot_isinstance : bootBuiltins "isinstance" = some (.builtin "isinstance") := by decide +kernel
section
variable {P : Program} {w : World} {K : PySem.W.Frag} {mg : Str → Option Value} {base : Heap}
theorem no_fn {f : Addr} {fd : FuncData} {ps : List Str} {sp : Sp} (no : ∀ vs H Q E, ¬ sp vs H Q E) : FnOk P w K mg base CX0 0 f fd ps sp :=
  ⟨fun vs H Q E h => absurd h (no vs H Q E), fun A outer s H args us vs Q E _ _ _ _ h => absurd h (no vs H Q E)⟩
/-- the values of a list of data, mapped -/
theorem dpall_of {F : Hp} {f : PyData → PyData} : ∀ {ys : List V} {ds : List PyData}, ys.length = ds.length → (∀ (i : Nat) y, ys[i]? = some y → ∃ d, ds[i]? = some d ∧ Dp K F y (f d)) → DpAll K F ys (ds.map f)
  | [], [], _, _ => .nil
  | [], _ :: _, h, _ => by simp at h
  | _ :: _, [], h, _ => by simp at h
  | y :: ys, d :: ds, h, hi => by
    obtain ⟨d', e, p⟩ := hi 0 y rfl
    have e' : d = d' := by simpa using e
    subst e'
    exact .cons p (dpall_of (by simpa using h) fun i z q => by
      have := hi (i + 1) z (by simpa using q)
      simpa using this)
/-! ### data of lists alone, each a list of its own -/
mutual
inductive Dn (H : Hp) : V → PyData → Prop
  | non : Dn H .non .none
  | bl (b : Bool) : Dn H (.bl b) (.bool b)
  | int (i : Int) : Dn H (.int i) (.int i)
  | str (x : Str) : Dn H (.str x) (.str x)
  | lst {a : Addr} {xs : List V} {ds : List PyData} : H a = some (.lst xs) → DnAll H xs ds → Dn H (.ref a) (.list ds)
inductive DnAll (H : Hp) : List V → List PyData → Prop
  | nil : DnAll H [] []
  | cons {v : V} {vs : List V} {d : PyData} {ds : List PyData} : Dn H v d → DnAll H vs ds → DnAll H (v :: vs) (d :: ds)
end
mutual
theorem Dn.same {H H' : Hp} (s : Same H H') : ∀ {v : V} {d : PyData}, Dn H v d → Dn H' v d
  | _, _, .non => .non
  | _, _, .bl b => .bl b
  | _, _, .int i => .int i
  | _, _, .str x => .str x
  | _, _, .lst h1 h2 => .lst (s _ _ h1) (DnAll.same s h2)
theorem DnAll.same {H H' : Hp} (s : Same H H') : ∀ {vs : List V} {ds : List PyData}, DnAll H vs ds → DnAll H' vs ds
  | _, _, .nil => .nil
  | _, _, .cons h t => .cons (Dn.same s h) (DnAll.same s t)
end
mutual
theorem Dn.dp {H : Hp} : ∀ {v : V} {d : PyData}, Dn H v d → Dp K H v d
  | _, _, .non => .non
  | _, _, .bl b => .bl b
  | _, _, .int i => .int i
  | _, _, .str x => .str x
  | _, _, .lst h1 h2 => .lst (SqL.of h1) (DnAll.dp h2)
theorem DnAll.dp {H : Hp} : ∀ {vs : List V} {ds : List PyData}, DnAll H vs ds → DpAll K H vs ds
  | _, _, .nil => .nil
  | _, _, .cons h t => .cons (Dn.dp h) (DnAll.dp t)
end
theorem dnall_of {F : Hp} {f : PyData → PyData} : ∀ {ys : List V} {ds : List PyData}, ys.length = ds.length → (∀ (i : Nat) y, ys[i]? = some y → ∃ d, ds[i]? = some d ∧ Dn F y (f d)) → DnAll F ys (ds.map f)
  | [], [], _, _ => .nil
  | [], _ :: _, h, _ => by simp at h
  | _ :: _, [], h, _ => by simp at h
  | y :: ys, d :: ds, h, hi => by
    obtain ⟨d', e, p⟩ := hi 0 y rfl
    have e' : d = d' := by simpa using e
    subst e'
    exact .cons p (dnall_of (by simpa using h) fun i z q => by
      have := hi (i + 1) z (by simpa using q)
      simpa using this)
/-! ### _law_lists -/
theorem scLists : FnScope ["_law_what", "_law_part"] ["_law_what"] (defScope sLists) := ⟨rfl, rfl, rfl, by decide +kernel, rfl, by decide +kernel, by decide +kernel⟩
def spLists (K : PySem.W.Frag) (n : Nat) : Sp := fun vs H Q _ => ∃ (v : V) (d : PyData), vs = [v] ∧ Dp K H v d ∧ okD n d ∧ ∀ (v' : V) (H' : Hp), Same H H' → Dn (frh H H') v' (lstD d) → Q v' H'
theorem ok_lists {f : Addr} {fd : FuncData} (F : Fun K "_law_lists" "_law_lists" sLists f fd) (b : Binds K fd ["_law_what"] []) (gF : mg "_law_lists" = some (.ref f)) (mi : mg "isinstance" = none) (ml : mg "list" = none) (mt : mg "tuple" = none) :
    ∀ n : Nat, FnOk P w K mg base CX0 n f fd ["_law_what"] (spLists K n)
  | 0 => no_fn fun vs H Q E ⟨v, d, _, _, h, _⟩ => h
  | n + 1 => by
    have G := ok_lists F b gF mi ml mt n
    refine F.ok scLists (fun vs H Q E h => ?_) (fun cdv A outer s H vs Q E hr h => ?_)
    · obtain ⟨v, d, rfl, _⟩ := h
      rfl
    obtain ⟨v, d, rfl, hd, ok, q⟩ := h
    refine ⟨_, pss_one (ps_ret (pe_ifExp (pt_val (pe_callB call_isiT rfl mi boot_isinstance (pa_cons (pv 0) (pa_cons (pe_tup (pa_cons (pe_bltn (v := .ty "list") rfl ml boot_list rfl) (pa_cons (pe_bltn (v := .ty "tuple") rfl mt boot_tuple rfl) pa_nil))) pa_nil))))
        (pe_lc (own := [("_law_part", 1)]) (g := gName 1) (tt := tYes) rfl scLists.nd (pi_seq (pv 0)) (blkOk_by (own := [("_law_part", 1)]) (N := ["_law_what", "_law_part"]) (sc := defScope sLists) (by decide +kernel))
          (fun _ _ _ _ _ => pg_name (i := 1) scLists.nd rfl (Or.inl rfl)) (fun _ _ _ _ _ => pts_nil) (fun _ _ _ _ _ => pe_hide (pe_call G hr rfl gF F.kp b .nil pass0 (pa_cons (pv 1) pa_nil)))) (pv 0))), ?_⟩
    refine ⟨_, rfl, (by show 2 ≤ sizeLine; decide), fun tp np => ?_⟩
    have s1 : Same H (upd H tp (.tup [.ty "list", .ty "tuple"])) := same_new np
    refine ⟨v, tp, _, tyD d, _, isSeq d, rfl, upd_same, .cons (.ty _) (.cons (.ty _) .nil), tyx_of (Dp.same s1 d hd), seq_kit d (Dp.nodict hd), isSeq d, rfl, ?_⟩
    cases hsq : isSeq d with
    | false =>
      refine iteF ⟨_, rfl, ?_⟩
      have e : lstD d = d := by cases d <;> first | rfl | (simp [isSeq] at hsq)
      exact q _ _ s1 (by rw [e]; cases hd <;> first | exact .non | exact .bl _ | exact .int _ | exact .str _ | (simp [isSeq] at hsq))
    | true =>
      obtain ⟨a, xs, ds, rfl, hs, hall, het, hok, hlen⟩ : ∃ a xs ds, v = .ref a ∧ Sq2 K H a xs ∧ DpAll K H xs ds ∧ lstD d = .list (ds.map lstD) ∧ (∀ e ∈ ds, okD n e) ∧ ds.length ≤ 1000 := by
        cases hd with
        | lst h1 h2 => exact ⟨_, _, _, rfl, .inl h1, h2, by rw [lstD, lstDs_eq], ok.2, ok.1⟩
        | tup h1 h2 => exact ⟨_, _, _, rfl, .inr h1, h2, by rw [lstD, lstDs_eq], ok.2, ok.1⟩
        | _ => simp [isSeq] at hsq
      have hxl : xs.length = ds.length := DpAll.length hall
      refine iteT ⟨_, rfl, a, xs, rfl, Same.sq2 s1 hs, fun J wk => lc_map wk Same (fun a b => a.trans b) (fun i y F => ∃ d, ds[i]? = some d ∧ Dn (frh H F) y (lstD d)) (fun i y A B s ⟨d, e, p⟩ => ⟨d, e, Dn.same (frh_same s) p⟩) (by rw [hxl]; exact small1000 hlen) (Same.refl _) (fun F D acc sF nF => ?_) (fun i x D acc F H' hi nD sF nF hy B hB => ?_) (fun D ys F nD sF nF hl hR => ?_)⟩
      · have sD : Same _ (upd F D (.lst acc)) := sF.trans (same_new nF)
        exact ⟨fun _ z => sD.seq z, fun z => Same.tup sD z⟩
      · obtain ⟨rfl, hx⟩ := hy
        obtain ⟨e, he, hp⟩ := DpAll.get hall hx
        refine hB _ F rfl nF fun Qt hq => ?_
        refine ⟨x, rfl, x, e, rfl, Dp.same (s1.trans sF) e hp, hok e (List.mem_of_getElem? he), fun v' H' s' p' => hq _ _ s' ⟨e, he, Dn.same (frh_less (s1.trans sF)) p'⟩⟩
      · have sD : Same F (upd F D (.lst ys)) := same_new nF
        refine q _ _ (s1.trans (sF.trans sD)) ?_
        rw [het]
        exact .lst (frh_new ((s1.trans sF).free nF)) (DnAll.same (frh_same sD) (dnall_of (by rw [hl, hxl]) hR))
end
end XL
namespace XL
open PySem PySem.Spec PyProof.Rows L2
theorem boot_all : bootBuiltins "all" = some (.builtin "all") := by decide +kernel
theorem boot_bool' : bootBuiltins "bool" = some (.type "bool") := by decide +kernel
theorem boot_str' : bootBuiltins "str" = some (.type "str") := by decide +kernel
theorem boot_int' : bootBuiltins "int" = some (.type "int") := by decide +kernel
section
variable {P : Program} {w : World} {K : PySem.W.Frag} {mg : Str → Option Value} {base : Heap}
def isBS : PyData → Bool
  | .bool _ => true
  | .str _ => true
  | _ => false
def isB : PyData → Bool
  | .bool _ => true
  | _ => false
theorem kitf {a b : String} (h : kitB a b = some false) : PySem.W.kitOne K (.type a) (.type b) = some false := kit_ty h
theorem kitt {a b : String} (h : kitB a b = some true) : PySem.W.kitOne K (.type a) (.type b) = some true := kit_ty h
theorem kit_list (d : PyData) : ∃ b, PySem.W.kitOne K (tyD d) (.type "list") = some b := by cases d <;> first | exact ⟨false, kitf (by decide +kernel)⟩ | exact ⟨true, kitt (by decide +kernel)⟩
theorem kit_tuple (d : PyData) : ∃ b, PySem.W.kitOne K (tyD d) (.type "tuple") = some b := by cases d <;> first | exact ⟨false, kitf (by decide +kernel)⟩ | exact ⟨true, kitt (by decide +kernel)⟩
theorem kit_bool (d : PyData) : PySem.W.kitOne K (tyD d) (.type "bool") = some (isB d) := by cases d <;> first | exact kitf (by decide +kernel) | exact kitt (by decide +kernel)
theorem kit_int (i : Int) : PySem.W.kitOne K (tyD (.int i)) (.type "int") = some true := kitt (by decide +kernel)
theorem bs_kit (d : PyData) : PySem.W.kitAny K (tyD d) [.type "bool", .type "str"] = some (isBS d) := by
  cases d with
  | none => exact kit2 (a := false) (b := false) (by decide +kernel) (by decide +kernel)
  | bool b => exact kit2 (a := true) (b := false) (by decide +kernel) (by decide +kernel)
  | int i => exact kit2 (a := false) (b := false) (by decide +kernel) (by decide +kernel)
  | str x => exact kit2 (a := false) (b := true) (by decide +kernel) (by decide +kernel)
  | list ds => exact kit2 (a := false) (b := false) (by decide +kernel) (by decide +kernel)
  | tuple ds => exact kit2 (a := false) (b := false) (by decide +kernel) (by decide +kernel)
  | dict kvs => exact kit2 (a := false) (b := false) (by decide +kernel) (by decide +kernel)
theorem all_true : ∀ n : Nat, (List.replicate n true).all id = true
  | 0 => rfl
  | n + 1 => by rw [List.replicate_succ, List.all_cons, all_true n]; rfl
theorem eq_true_map : ∀ (ys : List V), (∀ (i : Nat) y, ys[i]? = some y → y = .bl true) → ys = (List.replicate ys.length true).map V.bl
  | [], _ => rfl
  | y :: ys, h => by
    have h0 := h 0 y rfl
    have r := eq_true_map ys fun i z e => h (i + 1) z (by simpa using e)
    rw [List.length_cons, List.replicate_succ, List.map_cons, ← r, h0]
theorem seq2_of {H : Hp} {v u : V} {d : PyData} (hv : Dp K H v d) (hu : Dp K H u d) (h : isSeq d = true) : ∃ a xs a2 xs2, v = .ref a ∧ u = .ref a2 ∧ ((SqL K H a xs ∧ SqL K H a2 xs2) ∨ (SqT K H a xs ∧ SqT K H a2 xs2)) ∧ DpAll K H xs (itemsD d) ∧ DpAll K H xs2 (itemsD d) := by
  cases d with
  | list ds => cases hv with
    | lst h1 h2 => cases hu with
      | lst h3 h4 => exact ⟨_, _, _, _, rfl, rfl, .inl ⟨h1, h3⟩, h2, h4⟩
  | tuple ds => cases hv with
    | tup h1 h2 => cases hu with
      | tup h3 h4 => exact ⟨_, _, _, _, rfl, rfl, .inr ⟨h1, h3⟩, h2, h4⟩
  | none => simp [isSeq] at h
  | bool b => simp [isSeq] at h
  | int b => simp [isSeq] at h
  | str b => simp [isSeq] at h
  | dict b => simp [isSeq] at h
end
end XL
namespace XL
open PySem PySem.Spec PyProof.Rows L2
abbrev sSame : Stmt := topS 41
section
variable {P : Program} {w : World} {K : PySem.W.Frag} {mg : Str → Option Value} {base : Heap}
theorem scSame : FnScope ["_law_found", "_law_due_here", "_law_mine", "_law_its"] ["_law_found", "_law_due_here"] (defScope sSame) := ⟨rfl, rfl, rfl, by decide +kernel, rfl, by decide +kernel, by decide +kernel⟩
def spSame (K : PySem.W.Frag) (n : Nat) : Sp := fun vs H Q _ => ∃ (v u : V) (d : PyData), vs = [v, u] ∧ Dp K H v d ∧ Dp K H u d ∧ okD n d ∧ ∀ H' : Hp, Same H H' → Q (.bl true) H'
theorem ok_same {f : Addr} {fd : FuncData} (F : Fun K "_law_same" "_law_same" sSame f fd) (b : Binds K fd ["_law_found", "_law_due_here"] []) (gF : mg "_law_same" = some (.ref f)) (mi : mg "isinstance" = none) (ml : mg "list" = none) (mt : mg "tuple" = none)
    (mz : mg "zip" = none) (me : mg "len" = none) (ma : mg "all" = none) (mb : mg "bool" = none) (ms : mg "str" = none) (mn : mg "int" = none) :
    ∀ n : Nat, FnOk P w K mg base CX0 n f fd ["_law_found", "_law_due_here"] (spSame K n)
  | 0 => no_fn fun vs H Q E ⟨v, u, d, _, _, _, h, _⟩ => h
  | n + 1 => by
    have G := ok_same F b gF mi ml mt mz me ma mb ms mn n
    refine F.ok scSame (fun vs H Q E h => ?_) (fun cdv A outer s H vs Q E hr h => ?_)
    · obtain ⟨v, u, d, rfl, _⟩ := h
      rfl
    obtain ⟨v, u, d, rfl, hv, hu, ok, q⟩ := h
    refine ⟨_, pss_cons (ps_if (pt_val (pe_callB call_isiT rfl mi boot_isinstance (pa_cons (pv 1) (pa_cons (pe_tup (pa_cons (pe_bltn (v := .ty "list") rfl ml boot_list rfl) (pa_cons (pe_bltn (v := .ty "tuple") rfl mt boot_tuple rfl) pa_nil))) pa_nil))))
        (pss_cons (ps_if (PW.pt (pw_or (pt_cmpR op_ne (pe_callB call_isi rfl mi boot_isinstance (pa_cons (pv 0) (pa_cons (pe_bltn (v := .ty "list") rfl ml boot_list rfl) pa_nil))) (pe_callB call_isi rfl mi boot_isinstance (pa_cons (pv 1) (pa_cons (pe_bltn (v := .ty "list") rfl ml boot_list rfl) pa_nil))) (nomark _))
              (pw_or1 (pt_cmpR op_ne (pe_callB call_isi rfl mi boot_isinstance (pa_cons (pv 0) (pa_cons (pe_bltn (v := .ty "tuple") rfl mt boot_tuple rfl) pa_nil))) (pe_callB call_isi rfl mi boot_isinstance (pa_cons (pv 1) (pa_cons (pe_bltn (v := .ty "tuple") rfl mt boot_tuple rfl) pa_nil))) (nomark _)))))
            (pss_one (ps_ret pe_bl)) pss_nil)
        (pss_one (ps_ret (pe_and (pe_cmpR op_eq (pe_callB call_len_seq rfl me PySem.boot_len (pa_cons (pv 0) pa_nil)) (pe_callB call_len_seq rfl me PySem.boot_len (pa_cons (pv 1) pa_nil)) (nomark _))
          (pe_one (pe_callB (cr_all rfl) rfl ma boot_all (pa_cons (pe_lc (own := [("_law_mine", 2), ("_law_its", 3)]) (g := gAny K 2 (gCons (gName 2) (gCons (gName 3) gNil))) (tt := tYes) rfl scSame.nd (pi_z2 rfl mz (pa_cons (pv 0) (pa_cons (pv 1) pa_nil)))
            (blkOk_by (own := [("_law_mine", 2), ("_law_its", 3)]) (N := ["_law_found", "_law_due_here", "_law_mine", "_law_its"]) (sc := defScope sSame) (by decide +kernel))
            (fun _ _ _ _ _ => pg_any rfl (pgs_cons (pg_name (i := 2) scSame.nd rfl (Or.inl rfl)) (pgs_cons (pg_name (i := 3) scSame.nd rfl (Or.inl rfl)) pgs_nil))) (fun _ _ _ _ _ => pts_nil)
            (fun _ _ _ _ _ => pe_hide (pe_call G hr rfl gF F.kp b .nil pass0 (pa_cons (pv 2) (pa_cons (pv 3) pa_nil))))) pa_nil))))))) pss_nil)
      (pss_cons (ps_if (PW.pt (pw_or (pt_cmpR op_isN (pv 1) pe_non (nomark _)) (pw_or1 (pt_val (pe_callB call_isiT rfl mi boot_isinstance (pa_cons (pv 1) (pa_cons (pe_tup (pa_cons (pe_bltn (v := .ty "bool") rfl mb boot_bool' rfl) (pa_cons (pe_bltn (v := .ty "str") rfl ms boot_str' rfl) pa_nil))) pa_nil)))))))
          (pss_one (ps_ret (pe_and (pe_cmpR op_eq (pe_callB call_isi rfl mi boot_isinstance (pa_cons (pv 0) (pa_cons (pe_bltn (v := .ty "bool") rfl mb boot_bool' rfl) pa_nil))) (pe_callB call_isi rfl mi boot_isinstance (pa_cons (pv 1) (pa_cons (pe_bltn (v := .ty "bool") rfl mb boot_bool' rfl) pa_nil))) (nomark _))
            (pe_and (pe_cmpR op_eq (pe_cmpR op_isN (pv 0) pe_non (nomark _)) (pe_cmpR op_isN (pv 1) pe_non (nomark _)) (nomark _)) (pe_one (pe_cmpR op_eq (pv 0) (pv 1) (nomark _))))))) pss_nil)
      (pss_one (ps_ret (pe_and (pe_callB call_isi rfl mi boot_isinstance (pa_cons (pv 0) (pa_cons (pe_bltn (v := .ty "int") rfl mn boot_int' rfl) pa_nil)))
        (pe_and (pe_not (pe_callB call_isi rfl mi boot_isinstance (pa_cons (pv 0) (pa_cons (pe_bltn (v := .ty "bool") rfl mb boot_bool' rfl) pa_nil)))) (pe_one (pe_cmpR op_eq (pv 0) (pv 1) (nomark _)))))))), ?_⟩
    refine ⟨_, rfl, (by show 2 ≤ sizeLine; decide), fun tp np => ?_⟩
    have s1 : Same H (upd H tp (.tup [.ty "list", .ty "tuple"])) := same_new np
    have hv1 := Dp.same s1 d hv
    have hu1 := Dp.same s1 d hu
    refine ⟨u, tp, _, tyD d, _, isSeq d, rfl, upd_same, .cons (.ty _) (.cons (.ty _) .nil), tyx_of hu1, seq_kit d (Dp.nodict hu), isSeq d, rfl, ?_⟩
    obtain ⟨kl, ekl⟩ := kit_list (K := K) d
    obtain ⟨kt, ekt⟩ := kit_tuple (K := K) d
    cases hsq : isSeq d with
    | true =>
      refine iteT ?_
      obtain ⟨a, xs, a2, xs2, rfl, rfl, hss, hall, hall2⟩ := seq2_of hv hu hsq
      have hs : Sq2 K H a xs := hss.imp (fun z => z.1) (fun z => z.1)
      have hs2 : Sq2 K H a2 xs2 := hss.imp (fun z => z.2) (fun z => z.2)
      obtain ⟨hok, hlen⟩ := okD_items ok hsq
      have hx1 : xs.length = (itemsD d).length := DpAll.length hall
      have hx2 : xs2.length = (itemsD d).length := DpAll.length hall2
      -- the kinds are alike
      refine ⟨_, rfl, _, _, _, _, kl, rfl, .ty _, tyx_of hv1, ekl, _, rfl, _, _, _, _, kl, rfl, .ty _, tyx_of hu1, ekl, rfl, _, rfl, iteNS rfl ?_⟩
      refine ⟨_, rfl, _, _, _, _, kt, rfl, .ty _, tyx_of hv1, ekt, _, rfl, _, _, _, _, kt, rfl, .ty _, tyx_of hu1, ekt, rfl, _, rfl, iteNS rfl ?_⟩
      refine ⟨_, rfl, a, xs, rfl, Same.sq2 s1 hs, _, rfl, a2, xs2, rfl, Same.sq2 s1 hs2, rfl, _, rfl, ?_⟩
      rw [decide_eq_true (show V.int ((xs.length : Nat) : Int) = V.int ((xs2.length : Nat) : Int) by rw [hx1, hx2])]
      have hn : min xs.length xs2.length = (itemsD d).length := by rw [hx1, hx2, Nat.min_self]
      refine iteT ⟨_, rfl, _, rfl, a, a2, xs, xs2, rfl, hss.imp (fun z => ⟨s1.seq z.1, s1.seq z.2⟩) (fun z => ⟨Same.tup s1 z.1, Same.tup s1 z.2⟩), fun J wk => lc_map wk Same (fun a b => a.trans b) (fun i y F => y = .bl true) (fun i y A B s p => p) (by rw [hn]; exact small1000 hlen) (Same.refl _) (fun F D acc sF nF => sF.trans (same_new nF)) (fun i x D acc F H' hi nD sF nF hy B hB => ?_) (fun D ys F nD sF nF hl hR => ?_)⟩
      · obtain ⟨T, x1, y1, rfl, nT, rfl, e1, e2⟩ := hy
        have hTD : T ≠ D := fun z => by rw [z, upd_same] at nT; cases nT
        rw [upd_ne hTD] at nT
        obtain ⟨d1, ed1, p1⟩ := DpAll.get hall e1
        obtain ⟨d2, ed2, p2⟩ := DpAll.get hall2 e2
        rw [ed1] at ed2
        cases ed2
        rw [upd_comm hTD]
        have sT : Same F (upd F T (.tup [x1, y1])) := same_new nT
        refine ⟨T, [x1, y1], rfl, .inr (.inl (.inl (by rw [upd_ne hTD, upd_same]))), rfl, x1, [y1], rfl, y1, [], rfl, rfl, ?_⟩
        refine hB _ (upd F T (.tup [x1, y1])) rfl (by rw [upd_ne (Ne.symm hTD)]; exact nF) fun Qt hq => ?_
        exact ⟨x1, rfl, y1, rfl, x1, y1, d1, rfl, Dp.same ((s1.trans sF).trans sT) _ p1, Dp.same ((s1.trans sF).trans sT) _ p2, hok _ (List.mem_of_getElem? ed1), fun H' s' => hq _ _ (sT.trans s') rfl⟩
      · refine ⟨D, List.replicate ys.length true, rfl, ?_, ?_⟩
        · rw [← eq_true_map ys hR]; exact SqL.of upd_same
        · rw [all_true]
          exact q _ (s1.trans (sF.trans (same_new nF)))
    | false =>
      refine iteF ?_
      have fin : ∀ H', Same H H' → Q (.bl true) H' := q
      cases d with
      | list ds => simp [isSeq] at hsq
      | tuple ds => simp [isSeq] at hsq
      | dict kvs => cases hv
      | none =>
        cases hv; cases hu
        refine ⟨_, rfl, rfl, _, rfl, iteT (iteT ?_)⟩
        refine ⟨_, rfl, _, _, _, _, _, rfl, .ty _, tyx_of hv1, kit_bool .none, _, rfl, _, _, _, _, _, rfl, .ty _, tyx_of hu1, kit_bool .none, rfl, _, rfl, iteT ?_⟩
        refine ⟨_, rfl, rfl, _, rfl, rfl, rfl, _, rfl, iteT ?_⟩
        refine ⟨_, rfl, _, rfl, rfl, ?_⟩
        exact fin _ s1
      | bool b0 =>
        cases hv; cases hu
        refine ⟨_, rfl, rfl, _, rfl, iteF ?_⟩
        refine ⟨_, rfl, (by show 2 ≤ sizeLine; decide), fun tq nq => ?_⟩
        have s2 : Same H (upd (upd H tp (.tup [.ty "list", .ty "tuple"])) tq (.tup [.ty "bool", .ty "str"])) := s1.trans (same_new nq)
        refine ⟨_, tq, _, _, _, _, rfl, upd_same, .cons (.ty _) (.cons (.ty _) .nil), tyx_of (Dp.bl b0), bs_kit (.bool b0), _, rfl, iteT ?_⟩
        refine ⟨_, rfl, _, _, _, _, _, rfl, .ty _, tyx_of (Dp.bl b0), kit_bool (.bool b0), _, rfl, _, _, _, _, _, rfl, .ty _, tyx_of (Dp.bl b0), kit_bool (.bool b0), rfl, _, rfl, iteT ?_⟩
        refine ⟨_, rfl, rfl, _, rfl, rfl, rfl, _, rfl, iteT ?_⟩
        refine ⟨_, rfl, _, rfl, rfl, ?_⟩
        have e : decide (V.bl b0 = V.bl b0) = true := decide_eq_true rfl
        have e2 := fin _ s2
        rw [← e] at e2
        exact e2
      | str x0 =>
        cases hv; cases hu
        refine ⟨_, rfl, rfl, _, rfl, iteF ?_⟩
        refine ⟨_, rfl, (by show 2 ≤ sizeLine; decide), fun tq nq => ?_⟩
        have s2 : Same H (upd (upd H tp (.tup [.ty "list", .ty "tuple"])) tq (.tup [.ty "bool", .ty "str"])) := s1.trans (same_new nq)
        refine ⟨_, tq, _, _, _, _, rfl, upd_same, .cons (.ty _) (.cons (.ty _) .nil), tyx_of (Dp.str x0), bs_kit (.str x0), _, rfl, iteT ?_⟩
        refine ⟨_, rfl, _, _, _, _, _, rfl, .ty _, tyx_of (Dp.str x0), kit_bool (.str x0), _, rfl, _, _, _, _, _, rfl, .ty _, tyx_of (Dp.str x0), kit_bool (.str x0), rfl, _, rfl, iteT ?_⟩
        refine ⟨_, rfl, rfl, _, rfl, rfl, rfl, _, rfl, iteT ?_⟩
        refine ⟨_, rfl, _, rfl, rfl, ?_⟩
        have e : decide (V.str x0 = V.str x0) = true := decide_eq_true rfl
        have e2 := fin _ s2
        rw [← e] at e2
        exact e2
      | int i0 =>
        cases hv; cases hu
        refine ⟨_, rfl, rfl, _, rfl, iteF ?_⟩
        refine ⟨_, rfl, (by show 2 ≤ sizeLine; decide), fun tq nq => ?_⟩
        have s2 : Same H (upd (upd H tp (.tup [.ty "list", .ty "tuple"])) tq (.tup [.ty "bool", .ty "str"])) := s1.trans (same_new nq)
        refine ⟨_, tq, _, _, _, _, rfl, upd_same, .cons (.ty _) (.cons (.ty _) .nil), tyx_of (Dp.int i0), bs_kit (.int i0), _, rfl, iteF ?_⟩
        refine ⟨_, rfl, _, _, _, _, _, rfl, .ty _, tyx_of (Dp.int i0), kit_int i0, _, rfl, iteT ?_⟩
        refine ⟨_, rfl, _, _, _, _, _, rfl, .ty _, tyx_of (Dp.int i0), kit_bool (.int i0), _, rfl, _, rfl, iteT ?_⟩
        refine ⟨_, rfl, _, rfl, rfl, ?_⟩
        have e : decide (V.int i0 = V.int i0) = true := decide_eq_true rfl
        have e2 := fin _ s2
        rw [← e] at e2
        exact e2
end
end XL
namespace XL
open PySem PySem.Spec PyProof.Rows L2
abbrev sCells : Stmt := topS 39
abbrev sBox : Stmt := topS 37
theorem boot_enumerate' : bootBuiltins "enumerate" = some (.type "enumerate") := by decide +kernel
theorem boot_abs' : bootBuiltins "abs" = some (.builtin "abs") := by decide +kernel
section
variable {P : Program} {w : World} {K : PySem.W.Frag} {mg : Str → Option Value} {base : Heap}
theorem cut_ints (ns : List Int) (lo hi : Option Int) : cutV (ns.map V.int) lo hi = ((ns.drop (HT.sIx ns.length 0 lo)).take (HT.sIx ns.length ns.length hi - HT.sIx ns.length 0 lo)).map V.int := by
  unfold cutV
  rw [List.length_map, List.map_take, List.map_drop]
theorem set_ints : ∀ (zs : List Int) (j : Nat) (v : Int), (zs.map V.int).set j (.int v) = (zs.set j v).map V.int
  | [], _, _ => rfl
  | z :: zs, 0, v => rfl
  | z :: zs, j + 1, v => by
    show .int z :: (zs.map V.int).set j (.int v) = .int z :: (zs.set j v).map V.int
    rw [set_ints zs j v]
/-! ### _law_cells -/
theorem scCells : FnScope ["_law_script", "_law_utmost", "_law_cells_here", "_law_k", "_law_cell"] ["_law_script", "_law_utmost"] (defScope sCells) := ⟨rfl, rfl, rfl, by decide +kernel, rfl, by decide +kernel, by decide +kernel⟩
def spCells (K : PySem.W.Frag) : Sp := fun vs H Q _ => ∃ (a : Addr) (ns : List Int) (m : Nat), vs = [.ref a, .int m] ∧ SqL K H a (ns.map V.int) ∧ ns.length ≤ 63 ∧ 1 ≤ m ∧ m ≤ 5 ∧
  ∀ (p : Addr) (zs : List Int) (H' : Hp), Same H H' → H p = none → H' p = some (.lst (zs.map V.int)) → 1 ≤ zs.length → zs.length ≤ m → Q (.ref p) H'
theorem ok_cells {f : Addr} {fd : FuncData} {k : Nat} (F : Fun K "_law_cells" "_law_cells" sCells f fd) (ml : mg "list" = none) (me : mg "enumerate" = none) : FnOk P w K mg base CX0 (k + 1) f fd ["_law_script", "_law_utmost"] (spCells K) := by
  refine F.ok scCells (fun vs H Q E h => ?_) (fun cdv A outer s H vs Q E hr h => ?_)
  · obtain ⟨a, ns, m, rfl, _⟩ := h
    rfl
  obtain ⟨a, ns, m, rfl, ha, hn, m1, m2, q⟩ := h
  have tail : ∃ t, PSs (cxOf CX0 P w K mg base ["_law_script", "_law_utmost", "_law_cells_here", "_law_k", "_law_cell"] "_law_cells" (defScope sCells) f cdv A outer s H E).nox ((defBody sCells).drop 1) t ∧
      ∀ (c : Addr) (zs : List Int) (H2 : Hp), Same H H2 → H c = none → H2 c = some (.lst (zs.map V.int)) → 1 ≤ zs.length → zs.length ≤ m → (m < ns.length → zs.length = m) →
        t { nx := fun _ H' => Q .non H', rt := Q } [some (.ref a), some (.int m), some (.ref c), none, none] H2 := by
    refine ⟨_, pss_cons (ps_for PassesOwn.never rfl (pi_enum (by rfl) me (pa_cons (pe_slice sl_list (pv 0) (po_some (pv 1)) (po_some pe_int)) pa_nil)) (pg_tup rfl (pgs_cons (pg_name (i := 3) scCells.nd rfl (.inl rfl)) (pgs_cons (pg_name (i := 4) scCells.nd rfl (.inl rfl)) pgs_nil)))
        (pss_one (ps_asg (pe_op op_add (pe_ix ix_list (pv 2) (pe_op op_modN (pv 3) (pv 1)) (fun _ _ => rfl)) (pe_op op_mul (pv 4) (pe_op op_add (pv 3) pe_int))) (pg_sub (pv 2) (pe_op op_modN (pv 3) (pv 1)) set_list))))
      (pss_one (ps_ret (pv 2))), fun c zs H2 s2 nc ec z1 z2 z3 => ?_⟩
    refine ⟨_, rfl, _, rfl, (m : Int), rfl, 63, rfl, a, _, rfl, s2.seq ha, fun p np => ?_⟩
    rw [cut_ints]
    generalize hes : ((ns.drop (HT.sIx ns.length 0 (some (m : Int)))).take (HT.sIx ns.length ns.length (some 63) - HT.sIx ns.length 0 (some (m : Int)))) = es
    have hel : 0 < es.length → m < ns.length := fun h => by
      rw [← hes, List.length_take, List.length_drop, HT.sIx_nat] at h
      omega
    have hel2 : es.length ≤ 63 := by
      rw [← hes, List.length_take, List.length_drop]
      omega
    have s3 : Same H (upd H2 p (.lst (es.map V.int))) := s2.trans (same_new np)
    have cp : c ≠ p := ne_of_none ec np
    refine ⟨p, es.map V.int, rfl, SqL.of upd_same, for_it (walk_enum (xs := es.map V.int)) (fun i σ H3 => ∃ (ws : List Int) (y3 y4 : Option V), σ = [some (.ref a), some (.int m), some (.ref c), y3, y4] ∧ Same H H3 ∧ H3 p = some (.lst (es.map V.int)) ∧ H3 c = some (.lst (ws.map V.int)) ∧ ws.length = zs.length)
      ⟨zs, none, none, rfl, s3, upd_same, by rw [upd_ne cp]; exact ec, rfl⟩ (fun i σ H3 _ h => ?_) (fun i x σ H3 H4 hi h hy => ?_) (fun σ H3 h => ?_)⟩
    · obtain ⟨_, _, _, _, _, e, _⟩ := h
      exact SqL.of e
    · obtain ⟨ws, y3, y4, rfl, sm, ep, ew, wl⟩ := h
      obtain ⟨T, x1, x2, rfl, nT, rfl, e1, e2⟩ := hy
      have hi' : i < es.length := by rw [List.length_map] at hi; exact hi
      have e1' : x1 = .int (i : Nat) := (Option.some.inj e1).symm
      have e2' : x2 = .int es[i] := by
        have e3 : (es.map V.int)[i]? = some x2 := e2
        rw [List.getElem?_map, List.getElem?_eq_getElem hi'] at e3
        exact (Option.some.inj e3).symm
      subst e1' e2'
      have sT : Same H3 (upd H3 T (.tup [.int (i : Nat), .int es[i]])) := same_new nT
      have wm : ws.length = m := by rw [wl]; exact z3 (hel (by omega))
      have fm := fmod_lt (a := (i : Int)) (n := (m : Int)) (by omega)
      have hj : ((i : Int).fmod (m : Int)).toNat < ws.length := by omega
      refine ⟨T, _, rfl, .inl (.inl upd_same), rfl, _, _, rfl, _, _, rfl, rfl, ?_⟩
      have ewT := sT _ _ ew
      have aw : atI (ws.map V.int) ((i : Int).fmod (m : Int)) = some (.int ws[((i : Int).fmod (m : Int)).toNat]) := atI_int fm.1 (by rw [List.getElem?_map, List.getElem?_eq_getElem hj]; rfl)
      refine ⟨_, rfl, _, rfl, _, rfl, _, _, rfl, rfl, by omega, c, _, _, _, rfl, rfl, SqL.of ewT, aw, _, rfl, _, rfl, _, _, rfl, rfl, _, _, rfl, rfl, .inr ⟨by omega, by omega⟩, _, _, rfl, rfl, ?_⟩
      refine ⟨_, rfl, _, rfl, _, rfl, _, _, rfl, rfl, by omega, c, _, _, ((i : Int).fmod (m : Int)).toNat, rfl, rfl, ewT, ?_, ?_⟩
      · unfold ixN
        rw [if_pos fm.1, if_pos (by rw [List.length_map]; omega)]
      · refine ⟨_, _, _, rfl, fun b o e => ?_, ?_, by rw [set_ints, upd_same], by rw [List.length_set]; exact wl⟩
        · rw [upd_ne (ne_of_none e nc)]; exact sT _ _ (sm _ _ e)
        · rw [upd_ne cp.symm]; exact sT _ _ ep
    · obtain ⟨ws, y3, y4, rfl, sm, ep, ew, wl⟩ := h
      exact ⟨_, rfl, q c ws H3 sm nc ew (by omega) (by omega)⟩
  obtain ⟨t, ht, hgo⟩ := tail
  refine ⟨_, pss_cons (ps_set (i := 2) scCells.nd rfl (.inl rfl) (pe_orT (pe_callTy call_list_of rfl ml boot_list (pa_cons (pe_slice sl_list (pv 0) po_none (po_some (pv 1))) pa_nil)) (pe_one (pe_lst (pa_cons pe_int pa_nil))))) ht, ?_⟩
  -- list(script[:utmost])
  refine ⟨_, rfl, _, rfl, (m : Int), rfl, a, _, rfl, ha, fun p np => ?_⟩
  have s1 : Same H (upd H p (.lst (cutV (ns.map V.int) none (some (m : Int))))) := same_new np
  refine ⟨p, _, rfl, .inl (SqL.of upd_same), fun c nc => ?_⟩
  have e0 : cutV (ns.map V.int) none (some (m : Int)) = (ns.take m).map V.int := by
    rw [cut_ints, HT.sIx_none, HT.sIx_nat, List.drop_zero, Nat.sub_zero]
    congr 1
    rcases Nat.le_total m ns.length with h | h
    · rw [Nat.min_eq_left h]
    · rw [Nat.min_eq_right h, List.take_of_length_le (Nat.le_refl _), List.take_of_length_le h]
  rw [e0] at nc s1 ⊢
  have s2 := s1.trans (same_new nc (o := .lst ((ns.take m).map V.int)))
  refine ⟨!((ns.take m).map V.int).isEmpty, .inl ⟨_, SqL.of upd_same, rfl⟩, ?_⟩
  cases hns : ns with
  | nil =>
    have em : ((([] : List Int).take m).map V.int) = [] := by rw [List.take_nil]; rfl
    rw [em]
    refine iteF ⟨(by show 1 ≤ sizeLine; decide), fun c2 nc2 => ?_⟩
    subst hns
    rw [em] at s2
    exact hgo c2 [0] _ (s2.trans (same_new nc2)) (s2.free nc2) upd_same (Nat.le_refl _) m1 (fun h => by simp at h)
  | cons n0 r =>
    obtain ⟨m', rfl⟩ : ∃ m', m = m' + 1 := ⟨m - 1, by omega⟩
    rw [← hns]
    have e1 : (ns.take (m' + 1)).map V.int ≠ [] := by rw [hns]; simp
    have e2 : (!((ns.take (m' + 1)).map V.int).isEmpty) = true := by
      cases h : (ns.take (m' + 1)).map V.int with
      | nil => exact absurd h e1
      | cons _ _ => rfl
    rw [e2]
    have hl : (ns.take (m' + 1)).length = min (m' + 1) ns.length := List.length_take
    have hn1 : 1 ≤ ns.length := by rw [hns]; simp
    exact iteT (hgo c (ns.take (m' + 1)) _ s2 (s1.free nc) upd_same (by omega) (by omega) (fun h => by omega))
/-! ### _law_box -/
theorem b01 (b : Bool) : -2 ^ 64 < (if b = true then (1 : Int) else 0) ∧ (if b = true then (1 : Int) else 0) < 2 ^ 64 := by cases b <;> decide
theorem scBox : FnScope ["_law_cells_here", "_law_k", "_law_cell"] ["_law_cells_here", "_law_k"] (defScope sBox) := ⟨rfl, rfl, rfl, by decide +kernel, rfl, by decide +kernel, by decide +kernel⟩
def spBox (K : PySem.W.Frag) : Sp := fun vs H Q _ => ∃ (a : Addr) (zs : List Int) (k : Nat), vs = [.ref a, .int k] ∧ SqL K H a (zs.map V.int) ∧ k < zs.length ∧
  ∀ (b : Addr) (x y : Int), H b = none → Q (.ref b) (upd H b (.lst [.int x, .int y, .int 0]))
theorem ok_box {f : Addr} {fd : FuncData} {k : Nat} (F : Fun K "_law_box" "_law_box" sBox f fd) (ma : mg "abs" = none) (mi : mg "int" = none) : FnOk P w K mg base CX0 (k + 1) f fd ["_law_cells_here", "_law_k"] (spBox K) := by
  refine F.ok scBox (fun vs H Q E h => ?_) (fun cdv A outer s H vs Q E hr h => ?_)
  · obtain ⟨a, zs, k, rfl, _⟩ := h
    rfl
  obtain ⟨a, zs, k, rfl, ha, hk, q⟩ := h
  refine ⟨_, pss_cons (ps_set (i := 2) scBox.nd rfl (.inl rfl) (pe_ix ix_list (pv 0) (pv 1) (fun _ _ => rfl)))
    (pss_one (ps_ret (pe_lst (pa_cons (pe_op op_mul (pe_callB call_abs rfl ma boot_abs' (pa_cons (pv 2) pa_nil)) (pe_callTy call_int1 rfl mi boot_int' (pa_cons (pe_cmpR op_ge (pe_callB call_abs rfl ma boot_abs' (pa_cons (pv 2) pa_nil)) (pe_op op_pow pe_int pe_int) (nomark _)) pa_nil)))
      (pa_cons (pe_op op_add (pe_op op_add (pe_op op_modN (pv 2) pe_int) (pe_op op_mul pe_int (pv 1))) pe_int) (pa_cons pe_int pa_nil)))))), ?_⟩
  have hx : atI (zs.map V.int) ((k : Nat) : Int) = some (.int zs[k]) := atI_nat (by rw [List.getElem?_map, List.getElem?_eq_getElem hk]; rfl)
  refine ⟨_, rfl, _, rfl, a, _, _, _, rfl, rfl, ha, hx, ?_⟩
  refine ⟨_, rfl, _, rfl, _, rfl, _, rfl, _, _, rfl, rfl, ⟨by decide, by decide, by decide⟩, _, _, rfl, rfl, .inr ⟨_, rfl, _, _, rfl, rfl, .inr ?_, ?_⟩⟩
  · exact b01 _
  · refine ⟨_, rfl, _, _, rfl, rfl, (by show (2305843009213693951 : Int) ≠ 0; decide), _, rfl, _, _, rfl, rfl, .inl ⟨by decide, by decide⟩, _, _, rfl, rfl, _, _, rfl, rfl, (by show 3 ≤ sizeLine; decide), fun b nb => ?_⟩
    exact q b _ _ nb
end
end XL
namespace XL
open PySem PySem.Spec PyProof.Rows L2
abbrev sCanal : Stmt := topS 43
theorem boot_range' : bootBuiltins "range" = some (.type "range") := by decide +kernel
section
variable {P : Program} {w : World} {K : PySem.W.Frag} {mg : Str → Option Value} {base : Heap}
theorem Dr.tp {b : Addr} {H H' : Hp} (h : Bx H b) (d : Dr b H H') : Tp H H' := by
  obtain ⟨x, y, z, e⟩ := h
  exact ⟨fun a xs q => d.same a _ (fun c => by rw [c, e] at q; cases q) q, fun a o xs q => d.same a _ (fun c => by rw [c, e] at q; cases q) q⟩
theorem Bx.ne {b p : Addr} {H : Hp} (h : Bx H b) (n : H p = none) : p ≠ b := fun e => by
  obtain ⟨x, y, z, q⟩ := h
  rw [e, q] at n; cases n
/-- a step besides the box: a new object, or one of ours written -/
theorem Dr.wr {b p : Addr} {H : Hp} {o : HO} (h : Bx H b) (n : p ≠ b) (hs : H p = none) : Dr b H (upd H p o) := Dr.new h hs
abbrev nCanal : List Str := ["_law_box_here", "_law_wide", "_law_utmost", "_law_sizes", "_law_mode", "_law_gates", "_law_k", "_law_ends", "_law_part", "_law_size"]
theorem scCanal : FnScope nCanal ["_law_box_here", "_law_wide", "_law_utmost"] (defScope sCanal) := ⟨rfl, rfl, rfl, by decide +kernel, rfl, by decide +kernel, by decide +kernel⟩
def spCanal (K : PySem.W.Frag) : Sp := fun vs H Q _ => ∃ (b : Addr) (wide utmost : Nat), vs = [.ref b, .int wide, .int utmost] ∧ Bx H b ∧ 1 ≤ wide ∧ wide ≤ 100 ∧ utmost ≤ 100 ∧
  ∀ (c : Cn) (v : V) (H' : Hp), okCn wide utmost c → Dr b H H' → Dp K H' v (cnD c) → Q v H'
/-- the four ends of a gate -/
def endsV (l : Lk) : List V := [.int l.1, .int l.2.1, .int l.2.2.1, .int l.2.2.2]
theorem dp_lk {H : Hp} {a : Addr} {l : Lk} (h : SqT K H a (endsV l)) : Dp K H (.ref a) (lkD l) := .tup h (.cons (.int _) (.cons (.int _) (.cons (.int _) (.cons (.int _) .nil))))
/-- between two turns: b the box, z the sizes, g the gates -/
structure Gt (K : PySem.W.Frag) (b z g : Addr) (s0 s1 : Int) (n : Nat) (H0 H : Hp) (vs : List V) (ls : List Lk) : Prop where
  box : Bx H b
  old : ∀ a o, a ≠ b → H0 a = some o → H a = some o
  ez : H z = some (.lst [.int s0, .int s1])
  eg : H g = some (.lst vs)
  dp : DpAll K H vs (ls.map lkD)
  len : ls.length = n
  ok : ∀ l ∈ ls, okLk s0 s1 l
theorem Gt.draw {b z g : Addr} {s0 s1 : Int} {n : Nat} {H0 H H' : Hp} {vs : List V} {ls : List Lk} (q : Gt K b z g s0 s1 n H0 H vs ls) (hz : z ≠ b) (hg : g ≠ b) (d : Dr b H H') : Gt K b z g s0 s1 n H0 H' vs ls :=
  ⟨d.box, fun a o na e => d.same a o na (q.old a o na e), d.same _ _ hz q.ez, d.same _ _ hg q.eg, DpAll.tp (d.tp q.box) _ (noLs_lk ls) q.dp, q.len, q.ok⟩
theorem Gt.new {b z g p : Addr} {s0 s1 : Int} {n : Nat} {H0 H : Hp} {vs : List V} {ls : List Lk} {o : HO} (q : Gt K b z g s0 s1 n H0 H vs ls) (hz : z ≠ b) (hg : g ≠ b) (np : H p = none) : Gt K b z g s0 s1 n H0 (upd H p o) vs ls := q.draw hz hg (Dr.new q.box np)
def fbody : Stmt → List Stmt
  | .For _ _ b _ _ => b
  | _ => []
abbrev slC (b : Addr) (wide utmost : Nat) (z : Addr) (kind : Int) (g : Addr) (y6 y7 y8 y9 : Option V) : L2.St := [some (.ref b), some (.int wide), some (.int utmost), some (.ref z), some (.int kind), some (.ref g), y6, y7, y8, y9]
theorem ok_canal {f ft fo : Addr} {fd fdt fdo : FuncData} {k : Nat} (F : Fun K "_law_canal" "_law_canal" sCanal f fd) (FT : Fun K "_law_take" "_law_take" sTake ft fdt) (bT : Binds K fdt ["_law_box_here", "_law_size"] []) (gT : mg "_law_take" = some (.ref ft))
    (FO : Fun K "_law_of" "_law_of" sOf fo fdo) (bO : Binds K fdo ["_law_box_here", "_law_some"] []) (gO : mg "_law_of" = some (.ref fo)) (me : mg "len" = none) (ml : mg "list" = none) (mt : mg "tuple" = none) (mr : mg "range" = none) :
    FnOk P w K mg base CX0 (k + 1 + 1 + 1) f fd ["_law_box_here", "_law_wide", "_law_utmost"] (spCanal K) := by
  have GT : FnOk P w K mg base CX0 (k + 1) ft fdt ["_law_box_here", "_law_size"] spTake := ok_take FT
  have GO : FnOk P w K mg base CX0 (k + 1 + 1) fo fdo ["_law_box_here", "_law_some"] (spOf K) := ok_of FO FT bT gT me
  refine F.ok scCanal (fun vs H Q E h => ?_) (fun cdv A outer s H vs Q E hr h => ?_)
  · obtain ⟨b, wide, utmost, rfl, _⟩ := h
    rfl
  obtain ⟨b, wide, utmost, rfl, hb, w1, w2, u2, q⟩ := h
  have hr1 : Room (k + 1) _ := hr.mono (Nat.le_succ _)
  -- one turn behind the choice of the ends
  have tail : ∃ t, PSs (cxOf CX0 P w K mg base nCanal "_law_canal" (defScope sCanal) f cdv A outer s H E).nox ((fbody ((defBody sCanal).getD 2 (.Pass ⟨0, 0, 0, 0⟩))).drop 1) t ∧
      ∀ (D : Ends) (z g e : Addr) (kind s0 s1 : Int) (i : Nat) (y6 y8 y9 : Option V) (l : Lk) (vs : List V) (ls : List Lk) (H3 : Hp), z ≠ b → g ≠ b → z ≠ g → e ≠ g → H z = none → H g = none → Gt K b z g s0 s1 i H H3 vs ls → i ≤ 200 → H3 e = some (.lst (endsV l)) → okLk s0 s1 l →
        (∀ vs' H4, Gt K b z g s0 s1 (i + 1) H H4 vs' (ls ++ [l]) → D.nx (slC b wide utmost z kind g y6 (some (.ref e)) y8 y9) H4) → t D (slC b wide utmost z kind g y6 (some (.ref e)) y8 y9) H3 := by
    refine ⟨_, pss_one (ps_expr (pe_bm PySem.F.plainAttrs_list PySem.F.slot_list_append PySem.F.type_list_append mt_append (pv 5) (pa_cons (pe_callTy call_tuple_of rfl mt boot_tuple (pa_cons (pv 7) pa_nil)) pa_nil))), ?_⟩
    intro D z g e kind s0 s1 i y6 y8 y9 l vs ls H3 hzb hgb hzg heg nz ng hG hi he hl hnx
    refine ⟨_, rfl, .inl ⟨rfl, _, SqL.of hG.eg⟩, _, rfl, e, _, rfl, .inl ⟨SqL.of he, fun t nt => ?_⟩⟩
    have G1 := hG.new hzb hgb (o := .tup (endsV l)) nt
    have lv : vs.length = i := by rw [DpAll.length hG.dp, List.length_map, hG.len]
    refine ⟨g, _, _, rfl, rfl, G1.eg, ?_, hnx _ _ ⟨?_, ?_, ?_, upd_same, ?_, ?_, ?_⟩⟩
    · rw [lv]; exact small1000 (by omega)
    · obtain ⟨x, y, w, e⟩ := G1.box
      exact ⟨x, y, w, by rw [upd_ne (fun q => hgb q.symm)]; exact e⟩
    · intro a o na e
      rw [upd_ne (ne_of_none e ng)]; exact G1.old a o na e
    · rw [upd_ne hzg]; exact G1.ez
    · rw [List.map_append]
      have tp : Tp _ (upd (upd H3 t (.tup (endsV l))) g (.lst (vs ++ [.ref t]))) := Tp.upd G1.eg
      exact DpAll.app (DpAll.tp tp _ (noLs_lk ls) G1.dp) (.cons (dp_lk (.inl (.inl (tp.t _ _ upd_same)))) .nil)
    · rw [List.length_append, hG.len]; rfl
    · intro l' h
      rcases List.mem_append.mp h with h | h
      · exact hG.ok l' h
      · rw [List.mem_singleton.mp h]; exact hl
  obtain ⟨t, ht, hgo⟩ := tail
  refine ⟨_, pss_cons (ps_par rfl scCanal.nd (i := 3) (j := 4) rfl rfl (by decide) rfl rfl
      (pa_cons (pe_lc (own := [("_law_part", 8)]) (g := gName 8) (tt := tYes) rfl scCanal.nd (pi_range1 rfl mr (pa_cons pe_int pa_nil)) (blkOk_by (own := [("_law_part", 8)]) (N := nCanal) (sc := defScope sCanal) (by decide +kernel))
          (fun _ _ _ _ _ => pg_name (i := 8) scCanal.nd rfl (Or.inl rfl)) (fun _ _ _ _ _ => pts_nil) (fun _ _ _ _ _ => pe_hide (pe_op op_add pe_int (pe_call GT hr1 rfl gT FT.kp bT .nil pass0 (pa_cons (pv 0) (pa_cons (pv 1) pa_nil))))))
        (pa_cons (pe_call GT hr1 rfl gT FT.kp bT .nil pass0 (pa_cons (pv 0) (pa_cons pe_int pa_nil))) pa_nil)) rfl)
    (pss_cons (ps_set (i := 5) scCanal.nd rfl (.inl rfl) (pe_lst pa_nil))
    (pss_cons (ps_for PassesOwn.never rfl (pi_range1 rfl mr (pa_cons (pe_call GT hr1 rfl gT FT.kp bT .nil pass0 (pa_cons (pv 0) (pa_cons (pe_op op_add (pv 2) pe_int) pa_nil))) pa_nil)) (pg_name (i := 6) scCanal.nd rfl (.inl rfl))
      (pss_cons (ps_if (PW.pt (pw_and (pt_cmpR op_eq (pv 4) pe_int (nomark _)) (pw_and1 (pt_cmpR (op_neD hr.units) (pv 5) (pe_lst pa_nil) (nomark _)))))
          (pss_one (ps_set (i := 7) scCanal.nd rfl (.inl rfl) (pe_op op_cat (pe_slice sl_list (pe_callTy call_list_of rfl ml boot_list (pa_cons (pe_ix ix_list (pv 5) (pe_un un_neg pe_int) (fun _ _ => rfl)) pa_nil)) po_none (po_some pe_int))
            (pe_lst (pa_cons (pe_call GT hr1 rfl gT FT.kp bT .nil pass0 (pa_cons (pv 0) (pa_cons (pe_ix ix_list (pv 3) pe_int (fun _ _ => rfl)) pa_nil))) (pa_cons (pe_call GT hr1 rfl gT FT.kp bT .nil pass0 (pa_cons (pv 0) (pa_cons (pe_ix ix_list (pv 3) pe_int (fun _ _ => rfl)) pa_nil))) pa_nil))))))
          (pss_one (ps_if (pt_cmpR op_eq (pv 4) pe_int (nomark _))
            (pss_one (ps_set (i := 7) scCanal.nd rfl (.inl rfl) (pe_lst (pa_cons (pe_op op_modN (pv 6) (pe_ix ix_list (pv 3) pe_int (fun _ _ => rfl))) (pa_cons (pe_op op_modN (pe_op op_add (pv 6) pe_int) (pe_ix ix_list (pv 3) pe_int (fun _ _ => rfl)))
              (pa_cons (pe_call GT hr1 rfl gT FT.kp bT .nil pass0 (pa_cons (pv 0) (pa_cons (pe_ix ix_list (pv 3) pe_int (fun _ _ => rfl)) pa_nil))) (pa_cons (pe_call GT hr1 rfl gT FT.kp bT .nil pass0 (pa_cons (pv 0) (pa_cons (pe_ix ix_list (pv 3) pe_int (fun _ _ => rfl)) pa_nil))) pa_nil)))))))
            (pss_one (ps_if (PW.pt (pw_and (pt_cmpR op_eq (pv 4) pe_int (nomark _)) (pw_and1 (pt_cmpR (op_neD hr.units) (pv 5) (pe_lst pa_nil) (nomark _)))))
              (pss_cons (ps_set (i := 7) scCanal.nd rfl (.inl rfl) (pe_callTy call_list_of rfl ml boot_list (pa_cons (pe_call GO hr rfl gO FO.kp bO .nil pass0 (pa_cons (pv 0) (pa_cons (pv 5) pa_nil))) pa_nil)))
                (pss_one (ps_asg pe_int (pg_sub (pv 7) (pe_call GT hr1 rfl gT FT.kp bT .nil pass0 (pa_cons (pv 0) (pa_cons pe_int pa_nil))) set_list))))
              (pss_one (ps_setLc (i := 7) (own := [("_law_size", 9)]) (g := gName 9) (tt := tYes) rfl scCanal.nd rfl rfl (sw_true rfl rfl rfl (by decide +kernel)) (pi_seq (pe_tup (pa_cons (pe_ix ix_list (pv 3) pe_int (fun _ _ => rfl)) (pa_cons (pe_ix ix_list (pv 3) pe_int (fun _ _ => rfl)) (pa_cons (pe_ix ix_list (pv 3) pe_int (fun _ _ => rfl)) (pa_cons (pe_ix ix_list (pv 3) pe_int (fun _ _ => rfl)) pa_nil))))))
                (blkOk_by (own := [("_law_size", 9)]) (N := nCanal) (sc := defScope sCanal) (by decide +kernel)) (fun _ _ _ _ _ => pg_name (i := 9) scCanal.nd rfl (Or.inl rfl)) (fun _ _ _ _ _ => pts_nil)
                (fun _ _ _ _ _ => pe_hide (pe_call GT hr1 rfl gT FT.kp bT .nil pass0 (pa_cons (pv 0) (pa_cons (pv 9) pa_nil)))))))))))
        ht))
    (pss_one (ps_ret (pe_tup (pa_cons (pe_ix ix_list (pv 3) pe_int (fun _ _ => rfl)) (pa_cons (pe_ix ix_list (pv 3) pe_int (fun _ _ => rfl)) (pa_cons (pe_callTy call_tuple_of rfl mt boot_tuple (pa_cons (pv 5) pa_nil)) pa_nil)))))))), ?_⟩
  refine ⟨2, rfl, by decide, by decide, lc_map walk_range (Dr b) (fun a b => a.trans b) (fun i y F => ∃ x : Int, y = .int x ∧ 1 ≤ x ∧ x ≤ wide) (fun i y A B _ p => p) (by decide) (Dr.refl hb) (fun _ _ _ _ _ => trivial) (fun i x D acc F H' hi nD dF nF hy B hB => ?_) (fun z ys F nz dF nF hl hR => ?_)⟩
  · obtain ⟨rfl, rfl⟩ := hy
    refine hB _ F rfl nF fun Qt hq => ?_
    refine ⟨_, rfl, _, rfl, b, _, rfl, dF.box, by omega, by omega, fun v F' v0 v1 d => ⟨_, _, rfl, rfl, hq _ _ d ⟨_, rfl, by omega, by omega⟩⟩⟩
  have hys : ∃ s0 s1 : Int, ys = [.int s0, .int s1] ∧ 1 ≤ s0 ∧ s0 ≤ wide ∧ 1 ≤ s1 ∧ s1 ≤ wide := by
    match ys, hl with
    | [y0, y1], _ =>
      obtain ⟨s0, rfl, a1, a2⟩ := hR 0 y0 rfl
      obtain ⟨s1, rfl, c1, c2⟩ := hR 1 y1 rfl
      exact ⟨s0, s1, rfl, a1, a2, c1, c2⟩
  obtain ⟨s0, s1, rfl, a1, a2, c1, c2⟩ := hys
  have hzb : z ≠ b := hb.ne nz
  have d1 : Dr b H (upd F z (.lst [.int s0, .int s1])) := dF.trans (Dr.new dF.box nF)
  refine ⟨_, rfl, b, 5, rfl, d1.box, by decide, by decide, fun kind H2 k0 k1 d2 => ?_⟩
  refine ⟨_, _, rfl, ?_⟩
  -- gates = []
  refine ⟨(by show 0 ≤ sizeLine; decide), fun g ng => ?_⟩
  have d12 := d1.trans d2
  have ez2 : H2 z = some (.lst [.int s0, .int s1]) := d2.same z _ hzb upd_same
  have hgb : g ≠ b := d2.box.ne ng
  have hzg : z ≠ g := ne_of_none ez2 ng
  have ngH : H g = none := by
    cases e : H g with
    | none => rfl
    | some o => rw [d12.same g o hgb e] at ng; cases ng
  have d3 : Dr b H (upd H2 g (.lst [])) := d12.trans (Dr.new d2.box ng)
  -- the number of gates
  refine ⟨_, rfl, _, rfl, _, _, rfl, rfl, b, _, rfl, d3.box, by omega, by omega, fun n H3 n0 n1 d4 => ?_⟩
  have d34 := d3.trans d4
  have G0 : Gt K b z g s0 s1 0 H H3 [] [] := ⟨d34.box, fun a o na e => d34.same a o na e, d4.same z _ hzb (by rw [upd_ne hzg]; exact ez2), d4.same g _ hgb upd_same, .nil, rfl, fun l h => by simp at h⟩
  refine ⟨n, rfl, by omega, by omega, for_it walk_range (fun i σ H4 => ∃ y6 y7 y8 y9 vs ls, σ = slC b wide utmost z kind g y6 y7 y8 y9 ∧ Gt K b z g s0 s1 i H H4 vs ls) ⟨none, none, none, none, [], [], rfl, G0⟩ (fun _ _ _ _ _ => trivial) (fun i x σ H4 H5 hi h hy => ?_) (fun σ H4 h => ?_)⟩
  · obtain ⟨y6, y7, y8, y9, vs, ls, rfl, hG⟩ := h
    obtain ⟨rfl, rfl⟩ := hy
    have hi2 : i ≤ 200 := by omega
    -- what is left, by the ends that were chosen
    have fin : ∀ (D : Ends) (e : Addr) (l : Lk) (y8 y9 : Option V) (H6 : Hp) (vs : List V) (ls : List Lk), D.nx = (fun σ H4 => ∃ y6 y7 y8 y9 vs ls, σ = slC b wide utmost z kind g y6 y7 y8 y9 ∧ Gt K b z g s0 s1 (i + 1) H H4 vs ls) →
        Gt K b z g s0 s1 i H H6 vs ls → e ≠ g → H6 e = some (.lst (endsV l)) → okLk s0 s1 l → t D (slC b wide utmost z kind g (some (.int (0 + i))) (some (.ref e)) y8 y9) H6 := by
      intro D e l y8 y9 H6 vs ls hD hG heg he hl
      refine hgo D z g e kind s0 s1 i _ y8 y9 l vs ls H6 hzb hgb hzg heg nz ngH hG hi2 he hl fun vs' H7 hG7 => ?_
      rw [hD]
      exact ⟨_, _, _, _, vs', _, rfl, hG7⟩
    -- two draws by the blues' size
    have draw1 : ∀ (H6 : Hp) (vs : List V) (ls : List Lk) (Q' : V → Hp → Prop), Gt K b z g s0 s1 i H H6 vs ls → (∀ (x : Int) (H7 : Hp), 0 ≤ x → x < s1 → Gt K b z g s0 s1 i H H7 vs ls → Dr b H6 H7 → Q' (.int x) H7) →
        spTake ([.ref b, .int s1] ++ []) H6 Q' E0 := by
      intro H6 vs ls Q' hG h
      exact ⟨b, s1, rfl, hG.box, by omega, by omega, fun v H7 v0 v1 d => h v H7 v0 v1 (hG.draw hzb hgb d) d⟩
    -- kind == 1 and gates != []
    have neq : ∀ (H6 : Hp) (vs : List V) (ls : List Lk) (p : Addr) (Q' : Bool → Hp → Prop), Gt K b z g s0 s1 i H H6 vs ls → H6 p = none → (∀ H7, Gt K b z g s0 s1 i H H7 vs ls → Q' (!ls.isEmpty) H7) →
        rNeD K (.ref g) (.ref p) (upd H6 p (.lst [])) (fun v H7 => ∃ k, v = .bl k ∧ Q' k H7) := by
      intro H6 vs ls p Q' hG np h
      have G7 := hG.new hzb hgb (o := .lst []) np
      refine ⟨.list (ls.map lkD), .list [], .lst (SqL.of G7.eg) G7.dp, .lst (SqL.of upd_same) .nil, lks_shaped ls, nil_shaped, _, rfl, ?_⟩
      rw [eqv_nil]
      exact h _ G7
    have fst : ∀ {xs : List V} {l : Lk} {a : Addr} {H6 : Hp}, Dp K H6 (.ref a) (lkD l) → SqT K H6 a (endsV l) := by
      intro xs l a H6 h
      cases h with
      | tup hs ha =>
        cases ha with
        | cons p1 ha => cases p1; cases ha with
          | cons p2 ha => cases p2; cases ha with
            | cons p3 ha => cases p3; cases ha with
              | cons p4 ha => cases p4; cases ha; exact hs
    have lkref : ∀ {v : V} {l : Lk} {H6 : Hp}, Dp K H6 v (lkD l) → ∃ a, v = .ref a ∧ SqT K H6 a (endsV l) := by
      intro v l H6 h
      have h' := h
      cases h with
      | tup hs ha => exact ⟨_, rfl, fst (xs := []) h'⟩
    refine ⟨_, rfl, rfl, _, rfl, ?_⟩
    by_cases hk1 : kind = 1
    · subst hk1
      refine iteT ⟨_, rfl, (by show 0 ≤ sizeLine; decide), fun p np => neq _ vs ls p _ hG np fun H6 G6 => ?_⟩
      cases ls with
      | nil =>
        refine iteF ⟨_, rfl, rfl, _, rfl, iteF ⟨_, rfl, rfl, _, rfl, iteF ?_⟩⟩
        refine ⟨_, rfl, z, _, _, _, rfl, rfl, SqL.of G6.ez, rfl, _, rfl, z, _, _, _, rfl, rfl, SqL.of G6.ez, rfl, _, rfl, z, _, _, _, rfl, rfl, SqL.of G6.ez, rfl, _, rfl, z, _, _, _, rfl, rfl, SqL.of G6.ez, rfl, (by show 4 ≤ sizeLine; decide), fun p np => ?_⟩
        have G8 := G6.new hzb hgb (o := .tup [.int s0, .int s0, .int s1, .int s1]) np
        have hpb : p ≠ b := G6.box.ne np
        refine ⟨p, [.int s0, .int s0, .int s1, .int s1], rfl, .inr (.inl (.inl upd_same)), fun J wk => lc_map wk (Dr b) (fun a b => a.trans b) (fun j y F => ∃ x : Int, y = .int x ∧ 0 ≤ x ∧ ∀ sz : Int, [s0, s0, s1, s1][j]? = some sz → x < sz) (fun j y A B _ p => p) (by show 4 < sizeLine; decide) (Dr.refl G8.box) (fun F D acc dF nF => ?_) (fun j x D acc F H' hj nD dF nF hy B hB => ?_) (fun D ys F nD dF nF hl hR => ?_)⟩
        · exact ⟨fun _ h => (same_new nF).seq (dF.sqL hpb h), fun h => Same.tup (same_new nF) (dF.sqT hpb h)⟩
        · obtain ⟨rfl, hx⟩ := hy
          have hx' : ∃ sz : Int, x = .int sz ∧ [s0, s0, s1, s1][j]? = some sz ∧ 1 ≤ sz ∧ sz ≤ wide := by
            match j, hj, hx with
            | 0, _, hx => exact ⟨s0, (Option.some.inj hx).symm, rfl, a1, a2⟩
            | 1, _, hx => exact ⟨s0, (Option.some.inj hx).symm, rfl, a1, a2⟩
            | 2, _, hx => exact ⟨s1, (Option.some.inj hx).symm, rfl, c1, c2⟩
            | 3, _, hx => exact ⟨s1, (Option.some.inj hx).symm, rfl, c1, c2⟩
          obtain ⟨sz, rfl, hsz, z1, z2⟩ := hx'
          refine hB _ F rfl nF fun Qt hq => ?_
          exact ⟨_, rfl, _, rfl, b, sz, rfl, dF.box, by omega, by omega, fun v F' v0 v1 d => hq _ _ d ⟨v, rfl, v0, fun sz' e => by rw [hsz] at e; cases e; exact v1⟩⟩
        · have hys : ∃ l : Lk, ys = endsV l ∧ okLk s0 s1 l := by
            match ys, hl with
            | [y0, y1, y2, y3], _ =>
              obtain ⟨x0, rfl, p0, q0⟩ := hR 0 _ rfl
              obtain ⟨x1, rfl, p1, q1⟩ := hR 1 _ rfl
              obtain ⟨x2, rfl, p2, q2⟩ := hR 2 _ rfl
              obtain ⟨x3, rfl, p3, q3⟩ := hR 3 _ rfl
              exact ⟨(x0, x1, x2, x3), rfl, ⟨p0, q0 _ rfl, p1, q1 _ rfl, p2, q2 _ rfl, p3, q3 _ rfl⟩⟩
          obtain ⟨l, rfl, okl⟩ := hys
          have G9 := (G8.draw hzb hgb dF).new hzb hgb (o := .lst (endsV l)) nF
          exact fin _ D l _ _ _ _ _ rfl G9 (fun e => by rw [e, G8.eg] at nD; cases nD) upd_same okl
      | cons l0 lr =>
        refine iteT ?_
        obtain ⟨vs', v', rfl⟩ : ∃ vs' v', vs = vs' ++ [v'] := by
          have hv : vs ≠ [] := fun e => by have := DpAll.length G6.dp; rw [e] at this; simp at this
          exact ⟨vs.dropLast, vs.getLast hv, (List.dropLast_concat_getLast hv).symm⟩
        have hvl : (vs' ++ [v']).length = (l0 :: lr).length := by rw [DpAll.length G6.dp, List.length_map]
        obtain ⟨d, ed, pd⟩ := DpAll.get G6.dp (i := vs'.length) (v := v') (by rw [List.getElem?_append_right (Nat.le_refl _), Nat.sub_self]; rfl)
        rw [List.getElem?_map] at ed
        cases el : (l0 :: lr)[vs'.length]? with
        | none => rw [el] at ed; cases ed
        | some l =>
          rw [el] at ed
          cases ed
          have okl := G6.ok l (List.mem_of_getElem? el)
          obtain ⟨a, rfl, ha⟩ := lkref pd
          refine ⟨_, rfl, 1, rfl, g, _, _, _, rfl, rfl, SqL.of G6.eg, atI_last _ _, a, _, rfl, .inr ha, fun c nc => ?_⟩
          have G7 := G6.new hzb hgb (o := .lst (endsV l)) nc
          refine ⟨2, rfl, c, _, rfl, SqL.of upd_same, fun c2 nc2 => ?_⟩
          have G8 := G7.new hzb hgb (o := .lst [.int l.1, .int l.2.1]) nc2
          have hc2b : c2 ≠ b := G7.box.ne nc2
          refine ⟨_, rfl, _, rfl, z, _, _, _, rfl, rfl, SqL.of G8.ez, rfl, b, s1, rfl, G8.box, by omega, by omega, fun x H7 x0 x1 dd1 => ?_⟩
          have G9 := G8.draw hzb hgb dd1
          refine ⟨_, rfl, _, rfl, z, _, _, _, rfl, rfl, SqL.of G9.ez, rfl, b, s1, rfl, G9.box, by omega, by omega, fun y H8 y0 y1 dd2 => ?_⟩
          have G10 := G9.draw hzb hgb dd2
          refine ⟨(by show 2 ≤ sizeLine; decide), fun c3 nc3 => ?_⟩
          have G11 := G10.new hzb hgb (o := .lst [.int x, .int y]) nc3
          have ec2 : H8 c2 = some (.lst [.int l.1, .int l.2.1]) := dd2.same _ _ hc2b (dd1.same _ _ hc2b upd_same)
          refine ⟨c2, c3, [.int l.1, .int l.2.1], [.int x, .int y], rfl, rfl, by rw [upd_ne (ne_of_none ec2 nc3)]; exact ec2, upd_same, (by show 2 + 2 ≤ sizeLine; decide), fun c4 nc4 => ?_⟩
          have G12 := G11.new hzb hgb (o := .lst (endsV (l.1, l.2.1, x, y))) nc4
          exact fin _ c4 (l.1, l.2.1, x, y) _ _ _ _ _ rfl G12 (fun e => by rw [e, G11.eg] at nc4; cases nc4) upd_same ⟨okl.a0, okl.a1, okl.c0, okl.c1, x0, x1, y0, y1⟩
    · have e1 : decide (V.int kind = V.int 1) = false := decide_eq_false fun e => hk1 (V.int.inj e)
      rw [e1]
      refine iteF (iteF ⟨_, rfl, rfl, _, rfl, ?_⟩)
      by_cases hk2 : kind = 2
      · subst hk2
        have f1 := fmod_lt (a := 0 + (i : Int)) (n := s0) (by omega)
        have f2 := fmod_lt (a := 0 + (i : Int) + 1) (n := s0) (by omega)
        refine iteT ⟨_, rfl, _, rfl, z, _, _, _, rfl, rfl, SqL.of hG.ez, rfl, _, _, rfl, rfl, by omega, _, rfl, _, _, rfl, rfl, _, rfl, z, _, _, _, rfl, rfl, SqL.of hG.ez, rfl, _, _, rfl, rfl, by omega, ?_⟩
        refine ⟨_, rfl, _, rfl, z, _, _, _, rfl, rfl, SqL.of hG.ez, rfl, b, s1, rfl, hG.box, by omega, by omega, fun x H7 x0 x1 dd1 => ?_⟩
        have G9 := hG.draw hzb hgb dd1
        refine ⟨_, rfl, _, rfl, z, _, _, _, rfl, rfl, SqL.of G9.ez, rfl, b, s1, rfl, G9.box, by omega, by omega, fun y H8 y0 y1 dd2 => ?_⟩
        have G10 := G9.draw hzb hgb dd2
        refine ⟨(by show 4 ≤ sizeLine; decide), fun c3 nc3 => ?_⟩
        have G11 := G10.new hzb hgb (o := .lst (endsV ((0 + (i : Int)).fmod s0, (0 + (i : Int) + 1).fmod s0, x, y))) nc3
        exact fin _ c3 ((0 + (i : Int)).fmod s0, (0 + (i : Int) + 1).fmod s0, x, y) _ _ _ _ _ rfl G11 (fun e => by rw [e, G10.eg] at nc3; cases nc3) upd_same ⟨f1.1, f1.2, f2.1, f2.2, x0, x1, y0, y1⟩
      · have e2 : decide (V.int kind = V.int 2) = false := decide_eq_false fun e => hk2 (V.int.inj e)
        rw [e2]
        refine iteF ⟨_, rfl, rfl, _, rfl, ?_⟩
        by_cases hk3 : kind = 3
        · subst hk3
          refine iteT ⟨_, rfl, (by show 0 ≤ sizeLine; decide), fun p np => neq _ vs ls p _ hG np fun H6 G6 => ?_⟩
          cases ls with
          | nil =>
            refine iteF ?_
            refine ⟨_, rfl, z, _, _, _, rfl, rfl, SqL.of G6.ez, rfl, _, rfl, z, _, _, _, rfl, rfl, SqL.of G6.ez, rfl, _, rfl, z, _, _, _, rfl, rfl, SqL.of G6.ez, rfl, _, rfl, z, _, _, _, rfl, rfl, SqL.of G6.ez, rfl, (by show 4 ≤ sizeLine; decide), fun p np => ?_⟩
            have G8 := G6.new hzb hgb (o := .tup [.int s0, .int s0, .int s1, .int s1]) np
            have hpb : p ≠ b := G6.box.ne np
            refine ⟨p, [.int s0, .int s0, .int s1, .int s1], rfl, .inr (.inl (.inl upd_same)), fun J wk => lc_map wk (Dr b) (fun a b => a.trans b) (fun j y F => ∃ x : Int, y = .int x ∧ 0 ≤ x ∧ ∀ sz : Int, [s0, s0, s1, s1][j]? = some sz → x < sz) (fun j y A B _ p => p) (by show 4 < sizeLine; decide) (Dr.refl G8.box) (fun F D acc dF nF => ?_) (fun j x D acc F H' hj nD dF nF hy B hB => ?_) (fun D ys F nD dF nF hl hR => ?_)⟩
            · exact ⟨fun _ h => (same_new nF).seq (dF.sqL hpb h), fun h => Same.tup (same_new nF) (dF.sqT hpb h)⟩
            · obtain ⟨rfl, hx⟩ := hy
              have hx' : ∃ sz : Int, x = .int sz ∧ [s0, s0, s1, s1][j]? = some sz ∧ 1 ≤ sz ∧ sz ≤ wide := by
                match j, hj, hx with
                | 0, _, hx => exact ⟨s0, (Option.some.inj hx).symm, rfl, a1, a2⟩
                | 1, _, hx => exact ⟨s0, (Option.some.inj hx).symm, rfl, a1, a2⟩
                | 2, _, hx => exact ⟨s1, (Option.some.inj hx).symm, rfl, c1, c2⟩
                | 3, _, hx => exact ⟨s1, (Option.some.inj hx).symm, rfl, c1, c2⟩
              obtain ⟨sz, rfl, hsz, z1, z2⟩ := hx'
              refine hB _ F rfl nF fun Qt hq => ?_
              exact ⟨_, rfl, _, rfl, b, sz, rfl, dF.box, by omega, by omega, fun v F' v0 v1 d => hq _ _ d ⟨v, rfl, v0, fun sz' e => by rw [hsz] at e; cases e; exact v1⟩⟩
            · have hys : ∃ l : Lk, ys = endsV l ∧ okLk s0 s1 l := by
                match ys, hl with
                | [y0, y1, y2, y3], _ =>
                  obtain ⟨x0, rfl, p0, q0⟩ := hR 0 _ rfl
                  obtain ⟨x1, rfl, p1, q1⟩ := hR 1 _ rfl
                  obtain ⟨x2, rfl, p2, q2⟩ := hR 2 _ rfl
                  obtain ⟨x3, rfl, p3, q3⟩ := hR 3 _ rfl
                  exact ⟨(x0, x1, x2, x3), rfl, ⟨p0, q0 _ rfl, p1, q1 _ rfl, p2, q2 _ rfl, p3, q3 _ rfl⟩⟩
              obtain ⟨l, rfl, okl⟩ := hys
              have G9 := (G8.draw hzb hgb dF).new hzb hgb (o := .lst (endsV l)) nF
              exact fin _ D l _ _ _ _ _ rfl G9 (fun e => by rw [e, G8.eg] at nD; cases nD) upd_same okl
          | cons l0 lr =>
            refine iteT ?_
            have hv : vs ≠ [] := fun e => by have := DpAll.length G6.dp; rw [e] at this; simp at this
            have hvl : vs.length ≤ 200 := by rw [DpAll.length G6.dp, List.length_map, G6.len]; exact hi2
            refine ⟨_, rfl, _, rfl, b, g, vs, rfl, G6.box, hgb, SqL.of G6.eg, hv, by omega, fun j v H7 ej dd => ?_⟩
            have G7 := G6.draw hzb hgb dd
            obtain ⟨d, ed, pd⟩ := DpAll.get G7.dp ej
            rw [List.getElem?_map] at ed
            cases el : (l0 :: lr)[j]? with
            | none => rw [el] at ed; cases ed
            | some l =>
              rw [el] at ed
              cases ed
              have okl := G7.ok l (List.mem_of_getElem? el)
              obtain ⟨a, rfl, ha⟩ := lkref pd
              refine ⟨a, _, rfl, .inr ha, fun c nc => ?_⟩
              have G8 := G7.new hzb hgb (o := .lst (endsV l)) nc
              have hcb : c ≠ b := G7.box.ne nc
              have hcg : c ≠ g := fun e => by rw [e, G7.eg] at nc; cases nc
              have hcz : c ≠ z := fun e => by rw [e, G7.ez] at nc; cases nc
              refine ⟨_, rfl, _, rfl, b, 4, rfl, G8.box, by decide, by decide, fun j2 H9 j0 j1 dd2 => ?_⟩
              have G9 := G8.draw hzb hgb dd2
              have ec : H9 c = some (.lst (endsV l)) := dd2.same c _ hcb upd_same
              refine ⟨c, _, _, j2.toNat, rfl, rfl, ec, ?_, ?_⟩
              · unfold ixN
                rw [if_pos j0, if_pos (by show j2 < 4; exact j1)]
              · have G10 : Gt K b z g s0 s1 i H (upd H9 c (.lst ((endsV l).set j2.toNat (.int 0)))) vs (l0 :: lr) := by
                  refine ⟨?_, fun a o na e => ?_, ?_, ?_, DpAll.tp (Tp.upd ec) _ (noLs_lk _) G9.dp, G9.len, G9.ok⟩
                  · obtain ⟨x, y, w, e⟩ := G9.box
                    exact ⟨x, y, w, by rw [upd_ne (fun q => hcb q.symm)]; exact e⟩
                  · by_cases hac : a = c
                    · exfalso
                      rw [hac] at e
                      rw [G7.old c o hcb e] at nc; cases nc
                    · rw [upd_ne hac]; exact G9.old a o na e
                  · rw [upd_ne (fun q => hcz q.symm)]; exact G9.ez
                  · rw [upd_ne (fun q => hcg q.symm)]; exact G9.eg
                have hset : ∃ l2 : Lk, (endsV l).set j2.toNat (.int 0) = endsV l2 ∧ okLk s0 s1 l2 := by
                  have hj : j2.toNat = 0 ∨ j2.toNat = 1 ∨ j2.toNat = 2 ∨ j2.toNat = 3 := by omega
                  rcases hj with e | e | e | e <;> rw [e]
                  · exact ⟨(0, l.2.1, l.2.2.1, l.2.2.2), rfl, ⟨Int.le_refl 0, by show 0 < s0; omega, okl.c0, okl.c1, okl.x0, okl.x1, okl.y0, okl.y1⟩⟩
                  · exact ⟨(l.1, 0, l.2.2.1, l.2.2.2), rfl, ⟨okl.a0, okl.a1, Int.le_refl 0, by show 0 < s0; omega, okl.x0, okl.x1, okl.y0, okl.y1⟩⟩
                  · exact ⟨(l.1, l.2.1, 0, l.2.2.2), rfl, ⟨okl.a0, okl.a1, okl.c0, okl.c1, Int.le_refl 0, by show 0 < s1; omega, okl.y0, okl.y1⟩⟩
                  · exact ⟨(l.1, l.2.1, l.2.2.1, 0), rfl, ⟨okl.a0, okl.a1, okl.c0, okl.c1, okl.x0, okl.x1, Int.le_refl 0, by show 0 < s1; omega⟩⟩
                obtain ⟨l2, el2, ok2⟩ := hset
                rw [el2] at G10 ⊢
                exact fin _ c l2 _ _ _ _ _ rfl G10 hcg upd_same ok2
        · have e3 : decide (V.int kind = V.int 3) = false := decide_eq_false fun e => hk3 (V.int.inj e)
          rw [e3]
          refine iteF (iteF ?_)
          refine ⟨_, rfl, z, _, _, _, rfl, rfl, SqL.of hG.ez, rfl, _, rfl, z, _, _, _, rfl, rfl, SqL.of hG.ez, rfl, _, rfl, z, _, _, _, rfl, rfl, SqL.of hG.ez, rfl, _, rfl, z, _, _, _, rfl, rfl, SqL.of hG.ez, rfl, (by show 4 ≤ sizeLine; decide), fun p np => ?_⟩
          have G8 := hG.new hzb hgb (o := .tup [.int s0, .int s0, .int s1, .int s1]) np
          have hpb : p ≠ b := hG.box.ne np
          refine ⟨p, [.int s0, .int s0, .int s1, .int s1], rfl, .inr (.inl (.inl upd_same)), fun J wk => lc_map wk (Dr b) (fun a b => a.trans b) (fun j y F => ∃ x : Int, y = .int x ∧ 0 ≤ x ∧ ∀ sz : Int, [s0, s0, s1, s1][j]? = some sz → x < sz) (fun j y A B _ p => p) (by show 4 < sizeLine; decide) (Dr.refl G8.box) (fun F D acc dF nF => ?_) (fun j x D acc F H' hj nD dF nF hy B hB => ?_) (fun D ys F nD dF nF hl hR => ?_)⟩
          · exact ⟨fun _ h => (same_new nF).seq (dF.sqL hpb h), fun h => Same.tup (same_new nF) (dF.sqT hpb h)⟩
          · obtain ⟨rfl, hx⟩ := hy
            have hx' : ∃ sz : Int, x = .int sz ∧ [s0, s0, s1, s1][j]? = some sz ∧ 1 ≤ sz ∧ sz ≤ wide := by
              match j, hj, hx with
              | 0, _, hx => exact ⟨s0, (Option.some.inj hx).symm, rfl, a1, a2⟩
              | 1, _, hx => exact ⟨s0, (Option.some.inj hx).symm, rfl, a1, a2⟩
              | 2, _, hx => exact ⟨s1, (Option.some.inj hx).symm, rfl, c1, c2⟩
              | 3, _, hx => exact ⟨s1, (Option.some.inj hx).symm, rfl, c1, c2⟩
            obtain ⟨sz, rfl, hsz, z1, z2⟩ := hx'
            refine hB _ F rfl nF fun Qt hq => ?_
            exact ⟨_, rfl, _, rfl, b, sz, rfl, dF.box, by omega, by omega, fun v F' v0 v1 d => hq _ _ d ⟨v, rfl, v0, fun sz' e => by rw [hsz] at e; cases e; exact v1⟩⟩
          · have hys : ∃ l : Lk, ys = endsV l ∧ okLk s0 s1 l := by
              match ys, hl with
              | [y0, y1, y2, y3], _ =>
                obtain ⟨x0, rfl, p0, q0⟩ := hR 0 _ rfl
                obtain ⟨x1, rfl, p1, q1⟩ := hR 1 _ rfl
                obtain ⟨x2, rfl, p2, q2⟩ := hR 2 _ rfl
                obtain ⟨x3, rfl, p3, q3⟩ := hR 3 _ rfl
                exact ⟨(x0, x1, x2, x3), rfl, ⟨p0, q0 _ rfl, p1, q1 _ rfl, p2, q2 _ rfl, p3, q3 _ rfl⟩⟩
            obtain ⟨l, rfl, okl⟩ := hys
            have G9 := (G8.draw hzb hgb dF).new hzb hgb (o := .lst (endsV l)) nF
            exact fin _ D l _ _ _ _ _ rfl G9 (fun e => by rw [e, G8.eg] at nD; cases nD) upd_same okl
  · obtain ⟨y6, y7, y8, y9, vs, ls, rfl, hG⟩ := h
    refine ⟨_, rfl, z, _, _, _, rfl, rfl, SqL.of hG.ez, rfl, _, rfl, z, _, _, _, rfl, rfl, SqL.of hG.ez, rfl, _, rfl, g, _, rfl, .inl ⟨SqL.of hG.eg, fun t nt => ?_⟩⟩
    refine ⟨(by show 3 ≤ sizeLine; decide), fun r nr => ?_⟩
    have s1' : Same H4 (upd H4 t (.tup vs)) := same_new nt
    have s2' : Same _ (upd (upd H4 t (.tup vs)) r (.tup [.int s0, .int s1, .ref t])) := same_new nr
    refine q ⟨s0, s1, ls⟩ _ _ ⟨a1, a2, c1, c2, by rw [hG.len]; omega, hG.ok⟩ (Dr.trans (b := b) (H1 := H4) ⟨hG.box, hG.old⟩ (Dr.of hG.box (s1'.trans s2'))) ?_
    exact .tup (.inl (.inl upd_same)) (.cons (.int _) (.cons (.int _) (.cons (.tup (.inl (.inl (s2' _ _ upd_same))) (DpAll.same (s1'.trans s2') _ hG.dp)) .nil)))
end
end XL
namespace XL
open PySem PySem.Spec PyProof.Rows L2
abbrev sLying : Stmt := topS 44
/-! ### standings as data -/
structure Sn where
  rs : List Int
  bs : List Int
  ls : List Int
def intsD (zs : List Int) : List PyData := zs.map PyData.int
def snD (s : Sn) : PyData := .tuple [.tuple (intsD s.rs), .tuple (intsD s.bs), .tuple (intsD s.ls)]
structure okSn (c : Cn) (most : Int) (s : Sn) : Prop where
  r : (s.rs.length : Int) = c.r
  b : (s.bs.length : Int) = c.b
  n : s.ls.length = c.ls.length
  r0 : ∀ x ∈ s.rs, 0 ≤ x ∧ x ≤ most
  b0 : ∀ x ∈ s.bs, 0 ≤ x ∧ x ≤ most
  l0 : ∀ x ∈ s.ls, x = 0 ∨ x = 1
theorem noLs_ints : ∀ zs : List Int, noLs (intsD zs) = true
  | [] => rfl
  | z :: zs => by show noLs (.int z :: intsD zs) = true; rw [noLs, noLs_ints zs]; rfl
theorem noL_sn (s : Sn) : noL (snD s) = true := by
  show noLs [.tuple (intsD s.rs), .tuple (intsD s.bs), .tuple (intsD s.ls)] = true
  simp [noLs, noL, noLs_ints]
section
variable {P : Program} {w : World} {K : PySem.W.Frag} {mg : Str → Option Value} {base : Heap}
theorem dp_ints {H : Hp} : ∀ zs : List Int, DpAll K H (zs.map V.int) (intsD zs)
  | [] => .nil
  | z :: zs => .cons (.int z) (dp_ints zs)
theorem dp_tints {H : Hp} {a : Addr} {zs : List Int} (h : SqT K H a (zs.map V.int)) : Dp K H (.ref a) (.tuple (intsD zs)) := .tup h (dp_ints zs)
theorem ints_of : ∀ {ys : List V}, (∀ (i : Nat) y, ys[i]? = some y → ∃ x : Int, y = .int x) → ∃ zs : List Int, ys = zs.map V.int
  | [], _ => ⟨[], rfl⟩
  | y :: ys, h => by
    obtain ⟨x, rfl⟩ := h 0 y rfl
    obtain ⟨zs, rfl⟩ := ints_of (ys := ys) fun i z e => h (i + 1) z (by simpa using e)
    exact ⟨x :: zs, rfl⟩
theorem cn_of {H : Hp} {v : V} {c : Cn} (h : Dp K H v (cnD c)) : ∃ a g vs, v = .ref a ∧ SqT K H a [.int c.r, .int c.b, .ref g] ∧ SqT K H g vs ∧ DpAll K H vs (c.ls.map lkD) := by
  cases h with
  | tup hs ha =>
    cases ha with
    | cons p1 ha => cases p1; cases ha with
      | cons p2 ha => cases p2; cases ha with
        | cons p3 ha =>
          cases ha
          cases p3 with
          | tup hg hl => exact ⟨_, _, _, rfl, hs, hg, hl⟩
abbrev nLying : List Str := ["_law_box_here", "_law_ship_way", "_law_most", "_law_boats", "_law_size", "_law_spot", "_law_gate"]
theorem scLying : FnScope nLying ["_law_box_here", "_law_ship_way", "_law_most"] (defScope sLying) := ⟨rfl, rfl, rfl, by decide +kernel, rfl, by decide +kernel, by decide +kernel⟩
def spLying (K : PySem.W.Frag) : Sp := fun vs H Q _ => ∃ (b : Addr) (v : V) (c : Cn) (most : Int), vs = [.ref b, v, .int most] ∧ Bx H b ∧ Dp K H v (cnD c) ∧ okCn 100 100 c ∧ 0 ≤ most ∧ most ≤ 1000000000000 ∧
  ∀ (s : Sn) (v' : V) (H' : Hp), okSn c (most + 1) s → Dr b H H' → Dp K H' v' (snD s) → Q v' H'
theorem ok_lying {f ft fo : Addr} {fd fdt fdo : FuncData} {k : Nat} (F : Fun K "_law_lying" "_law_lying" sLying f fd) (FT : Fun K "_law_take" "_law_take" sTake ft fdt) (bT : Binds K fdt ["_law_box_here", "_law_size"] []) (gT : mg "_law_take" = some (.ref ft))
    (FO : Fun K "_law_of" "_law_of" sOf fo fdo) (bO : Binds K fdo ["_law_box_here", "_law_some"] []) (gO : mg "_law_of" = some (.ref fo)) (me : mg "len" = none) (mt : mg "tuple" = none) (mr : mg "range" = none) :
    FnOk P w K mg base CX0 (k + 1 + 1 + 1) f fd ["_law_box_here", "_law_ship_way", "_law_most"] (spLying K) := by
  have GT : FnOk P w K mg base CX0 (k + 1) ft fdt ["_law_box_here", "_law_size"] spTake := ok_take FT
  have GO : FnOk P w K mg base CX0 (k + 1 + 1) fo fdo ["_law_box_here", "_law_some"] (spOf K) := ok_of FO FT bT gT me
  refine F.ok scLying (fun vs H Q E h => ?_) (fun cdv A outer s H vs Q E hr h => ?_)
  · obtain ⟨b, v, c, most, rfl, _⟩ := h
    rfl
  obtain ⟨b, v, c, most, rfl, hb, hv, okc, m1, m2, q⟩ := h
  have hr1 : Room (k + 1) _ := hr.mono (Nat.le_succ _)
  refine ⟨_, pss_cons (ps_setLc (i := 3) (own := [("_law_size", 4)]) (g := gName 4) (tt := tYes) rfl scLying.nd rfl rfl (sw_true rfl rfl rfl (by decide +kernel)) (pi_seq (pe_slice sl_tupA (pv 1) po_none (po_some pe_int)))
      (blkOk_by (own := [("_law_size", 4)]) (N := nLying) (sc := defScope sLying) (by decide +kernel)) (fun _ _ _ _ _ => pg_name (i := 4) scLying.nd rfl (Or.inl rfl)) (fun _ _ _ _ _ => pts_nil)
      (fun _ _ _ _ _ => pe_hide (pe_lc (own := [("_law_spot", 5)]) (g := gName 5) (tt := tYes) rfl scLying.nd (pi_range1 rfl mr (pa_cons (pv 4) pa_nil)) (blkOk_by (own := [("_law_spot", 5)]) (N := nLying) rfl)
        (fun _ _ _ _ _ => pg_name (i := 5) scLying.nd rfl (Or.inl rfl)) (fun _ _ _ _ _ => pts_nil)
        (fun _ _ _ _ _ => pe_hide (pe_call GO hr rfl gO FO.kp bO .nil pass0 (pa_cons (pv 0) (pa_cons (pe_lst (pa_cons pe_int (pa_cons (pe_call GT hr1 rfl gT FT.kp bT .nil pass0 (pa_cons (pv 0) (pa_cons (pe_op op_add (pv 2) pe_int) pa_nil))) (pa_cons pe_int pa_nil)))) pa_nil)))))))
    (pss_one (ps_ret (pe_tup (pa_cons (pe_callTy call_tuple_of rfl mt boot_tuple (pa_cons (pe_ix ix_list (pv 3) pe_int (fun _ _ => rfl)) pa_nil)) (pa_cons (pe_callTy call_tuple_of rfl mt boot_tuple (pa_cons (pe_ix ix_list (pv 3) pe_int (fun _ _ => rfl)) pa_nil))
      (pa_cons (pe_callTy call_tuple_of rfl mt boot_tuple (pa_cons (pe_lc (own := [("_law_gate", 6)]) (g := gName 6) (tt := tYes) rfl scLying.nd (pi_seq (pe_ix ix_tup (pv 1) pe_int (fun _ _ => rfl))) (blkOk_by (own := [("_law_gate", 6)]) (N := nLying) (sc := defScope sLying) (by decide +kernel))
        (fun _ _ _ _ _ => pg_name (i := 6) scLying.nd rfl (Or.inl rfl)) (fun _ _ _ _ _ => pts_nil) (fun _ _ _ _ _ => pe_hide (pe_call GT hr1 rfl gT FT.kp bT .nil pass0 (pa_cons (pv 0) (pa_cons pe_int pa_nil))))) pa_nil)) pa_nil)))))), ?_⟩
  obtain ⟨a, g, gs, rfl, ha, hg, hgs⟩ := cn_of hv
  -- ship_way[:2]
  refine ⟨_, rfl, 2, rfl, a, _, rfl, ha, fun e => absurd e.2 (by show ¬ (2 = 3); decide), fun _ p np => ?_⟩
  have d1 : Dr b H (upd H p (.tup [.int c.r, .int c.b])) := Dr.new hb np
  have hpb : p ≠ b := hb.ne np
  have okr : 1 ≤ c.r ∧ c.r ≤ 100 := ⟨okc.r1, okc.r2⟩
  have okb : 1 ≤ c.b ∧ c.b ≤ 100 := ⟨okc.b1, okc.b2⟩
  refine ⟨p, [.int c.r, .int c.b], rfl, .inr (.inl (.inl upd_same)), fun J wk => lc_map wk (Dr b) (fun a b => a.trans b)
    (fun i y F => ∃ (l : Addr) (zs : List Int), y = .ref l ∧ l ≠ b ∧ F l = some (.lst (zs.map V.int)) ∧ (∀ n : Int, [c.r, c.b][i]? = some n → (zs.length : Int) = n) ∧ ∀ z ∈ zs, 0 ≤ z ∧ z ≤ most + 1)
    (fun i y A B d ⟨l, zs, e, n, el, r⟩ => ⟨l, zs, e, n, d.same l _ n el, r⟩) (by show 2 < sizeLine; decide) (Dr.refl d1.box) (fun F D acc dF nF => ?_) (fun i x D acc F H' hi nD dF nF hy B hB => ?_) (fun D ys F nD dF nF hl hR => ?_)⟩
  · exact ⟨fun _ h => (same_new nF).seq (dF.sqL hpb h), fun h => Same.tup (same_new nF) (dF.sqT hpb h)⟩
  · obtain ⟨rfl, hx⟩ := hy
    have hx' : ∃ n : Int, x = .int n ∧ [c.r, c.b][i]? = some n ∧ 1 ≤ n ∧ n ≤ 100 := by
      match i, hi, hx with
      | 0, _, hx => exact ⟨c.r, (Option.some.inj hx).symm, rfl, okr⟩
      | 1, _, hx => exact ⟨c.b, (Option.some.inj hx).symm, rfl, okb⟩
    obtain ⟨n, rfl, hn, n1, n2⟩ := hx'
    refine hB _ F rfl nF fun Qt hq => ?_
    -- the inner row
    refine ⟨_, rfl, n, rfl, by omega, by omega, lc_map walk_range (Dr b) (fun a b => a.trans b) (fun j y F => ∃ z : Int, y = .int z ∧ 0 ≤ z ∧ z ≤ most + 1) (fun j y A B _ p => p) (small1000 (by omega)) (Dr.refl dF.box) (fun _ _ _ _ _ => trivial) (fun j x D2 acc2 F2 H2 hj nD2 dF2 nF2 hy B hB => ?_) (fun D2 ys F2 nD2 dF2 nF2 hl hR => ?_)⟩
    · obtain ⟨rfl, rfl⟩ := hy
      refine hB _ F2 rfl nF2 fun Qt hq => ?_
      refine ⟨_, rfl, _, rfl, _, rfl, _, _, rfl, rfl, b, _, rfl, dF2.box, by omega, by omega, fun v F3 v0 v1 d3 => ?_⟩
      refine ⟨(by show 3 ≤ sizeLine; decide), fun l nl => ?_⟩
      have d4 : Dr b F3 (upd F3 l (.lst [.int 0, .int v, .int 1])) := Dr.new d3.box nl
      refine ⟨b, l, [.int 0, .int v, .int 1], rfl, d4.box, d3.box.ne nl, SqL.of upd_same, by simp, by show 3 < 1000; decide, fun j2 u F5 ej d5 => ?_⟩
      refine hq _ _ (d3.trans (d4.trans d5)) ?_
      match j2, ej with
      | 0, ej => exact ⟨0, (Option.some.inj ej).symm, by omega, by omega⟩
      | 1, ej => exact ⟨v, (Option.some.inj ej).symm, v0, by omega⟩
      | 2, ej => exact ⟨1, (Option.some.inj ej).symm, by omega, by omega⟩
    · obtain ⟨zs, rfl⟩ := ints_of fun j y e => let ⟨z, ez, _⟩ := hR j y e; ⟨z, ez⟩
      refine hq _ _ (dF2.trans (Dr.new dF2.box nF2)) ⟨D2, zs, rfl, dF.box.ne nD2, upd_same, fun n' e => ?_, fun z hz => ?_⟩
      · rw [hn] at e; cases e
        rw [List.length_map] at hl
        rw [hl]; omega
      · obtain ⟨j, ej⟩ := List.getElem?_of_mem hz
        obtain ⟨z', e', h1, h2⟩ := hR j (.int z) (by rw [List.getElem?_map, ej]; rfl)
        cases e'
        exact ⟨h1, h2⟩
  · -- boats
    have hys : ∃ (l0 l1 : Addr) (z0 z1 : List Int), ys = [.ref l0, .ref l1] ∧ l0 ≠ b ∧ l1 ≠ b ∧ F l0 = some (.lst (z0.map V.int)) ∧ F l1 = some (.lst (z1.map V.int)) ∧ (z0.length : Int) = c.r ∧ (z1.length : Int) = c.b ∧ (∀ z ∈ z0, 0 ≤ z ∧ z ≤ most + 1) ∧ (∀ z ∈ z1, 0 ≤ z ∧ z ≤ most + 1) := by
      match ys, hl with
      | [y0, y1], _ =>
        obtain ⟨l0, z0, rfl, n0, e0, r0, w0⟩ := hR 0 _ rfl
        obtain ⟨l1, z1, rfl, n1, e1, r1, w1⟩ := hR 1 _ rfl
        exact ⟨l0, l1, z0, z1, rfl, n0, n1, e0, e1, r0 _ rfl, r1 _ rfl, w0, w1⟩
    obtain ⟨l0, l1, z0, z1, rfl, n0, n1, e0, e1, r0, r1, w0, w1⟩ := hys
    have sD : Same F (upd F D (.lst [.ref l0, .ref l1])) := same_new nF
    have dD : Dr b H (upd F D (.lst [.ref l0, .ref l1])) := d1.trans (dF.trans (Dr.new dF.box nF))
    refine ⟨_, rfl, D, _, _, _, rfl, rfl, SqL.of upd_same, rfl, l0, _, rfl, .inl ⟨SqL.of (sD _ _ e0), fun t0 nt0 => ?_⟩⟩
    have s0 : Same _ (upd (upd F D (.lst [.ref l0, .ref l1])) t0 (.tup (z0.map V.int))) := same_new nt0
    refine ⟨_, rfl, D, _, _, _, rfl, rfl, SqL.of (s0 _ _ upd_same), rfl, l1, _, rfl, .inl ⟨SqL.of (s0 _ _ (sD _ _ e1)), fun t1 nt1 => ?_⟩⟩
    have s1 : Same _ (upd (upd (upd F D (.lst [.ref l0, .ref l1])) t0 (.tup (z0.map V.int))) t1 (.tup (z1.map V.int))) := same_new nt1
    have d2 : Dr b H (upd (upd (upd F D (.lst [.ref l0, .ref l1])) t0 (.tup (z0.map V.int))) t1 (.tup (z1.map V.int))) := dD.trans (Dr.of dD.box (s0.trans s1))
    have tpH := Dr.tp hb d2
    have hgb : SqT K _ g gs := tpH.sqT hg
    refine ⟨_, rfl, a, _, _, _, rfl, rfl, tpH.sqT ha, rfl, g, gs, rfl, .inr hgb, fun J wk => lc_map wk (Dr b) (fun a b => a.trans b) (fun j y F => ∃ z : Int, y = .int z ∧ (z = 0 ∨ z = 1)) (fun j y A B _ p => p) (by rw [DpAll.length hgs, List.length_map]; exact small1000 (by have := okc.n; omega)) (Dr.refl d2.box) (fun F2 D2 acc dF2 nF2 => ?_) (fun i x D2 acc F2 H' hi nD2 dF2 nF2 hy B hB => ?_) (fun D2 ys2 F2 nD2 dF2 nF2 hl2 hR2 => ?_)⟩
    · exact ⟨fun n _ => absurd hgb n, fun h => Same.tup (same_new nF2) ((Dr.tp d2.box dF2).sqT h)⟩
    · obtain ⟨rfl, hx⟩ := hy
      refine hB _ F2 rfl nF2 fun Qt hq => ?_
      exact ⟨_, rfl, b, 2, rfl, dF2.box, by decide, by decide, fun v F' v0 v1 d => hq _ _ d ⟨v, rfl, by omega⟩⟩
    · obtain ⟨zs, rfl⟩ := ints_of fun j y e => let ⟨z, ez, _⟩ := hR2 j y e; ⟨z, ez⟩
      refine ⟨D2, _, rfl, .inl ⟨SqL.of upd_same, fun t2 nt2 => ⟨(by show 3 ≤ sizeLine; decide), fun r nr => ?_⟩⟩⟩
      have sa : Same F2 (upd F2 D2 (.lst (zs.map V.int))) := same_new nF2
      have sb : Same _ (upd (upd F2 D2 (.lst (zs.map V.int))) t2 (.tup (zs.map V.int))) := same_new nt2
      have sc : Same _ (upd (upd (upd F2 D2 (.lst (zs.map V.int))) t2 (.tup (zs.map V.int))) r (.tup [.ref t0, .ref t1, .ref t2])) := same_new nr
      have tp3 := (Dr.tp d2.box dF2).trans (Tp.of (sa.trans (sb.trans sc)))
      refine q ⟨z0, z1, zs⟩ _ _ ⟨r0, r1, ?_, w0, w1, fun x hx => ?_⟩ (d2.trans (dF2.trans (Dr.of dF2.box (sa.trans (sb.trans sc))))) ?_
      · rw [List.length_map, DpAll.length hgs, List.length_map] at hl2; exact hl2
      · obtain ⟨j, ej⟩ := List.getElem?_of_mem hx
        obtain ⟨z', e', h1⟩ := hR2 j (.int x) (by rw [List.getElem?_map, ej]; rfl)
        cases e'
        exact h1
      · exact .tup (.inl (.inl upd_same)) (.cons (dp_tints (.inl (.inl (tp3.t _ _ (s1 _ _ upd_same))))) (.cons (dp_tints (.inl (.inl (tp3.t _ _ upd_same)))) (.cons (dp_tints (.inl (.inl (sc _ _ upd_same)))) .nil)))
end
end XL
namespace XL
open PySem PySem.Spec PyProof.Rows L2
abbrev sEnds : Stmt := topS 8
abbrev sFT : Stmt := topS 16
abbrev sHas : Stmt := topS 17
section
variable {P : Program} {w : World} {K : PySem.W.Frag} {mg : Str → Option Value} {base : Heap}
/-- a canal of tuples or of lists -/
structure CnAny (K : PySem.W.Frag) (H : Hp) (v : V) (c : Cn) : Prop where
  ex : ∃ a g vs, v = .ref a ∧ Sq2 K H a [.int c.r, .int c.b, .ref g] ∧ Sq2 K H g vs ∧ vs.length = c.ls.length ∧ ∀ (i : Nat) u, vs[i]? = some u → ∃ l t, c.ls[i]? = some l ∧ u = .ref t ∧ Sq2 K H t (endsV l)
theorem ends_of {H : Hp} {v : V} {l : Lk} (h : Dp K H v (lkD l)) : ∃ a, v = .ref a ∧ SqT K H a (endsV l) := by
  cases h with
  | tup hs ha =>
    cases ha with
    | cons p1 ha => cases p1; cases ha with
      | cons p2 ha => cases p2; cases ha with
        | cons p3 ha => cases p3; cases ha with
          | cons p4 ha => cases p4; cases ha; exact ⟨_, rfl, hs⟩
theorem ends_of' {H : Hp} {v : V} {l : Lk} (h : Dp K H v (lstD (lkD l))) : ∃ a, v = .ref a ∧ SqL K H a (endsV l) := by
  have e : lstD (lkD l) = .list [.int l.1, .int l.2.1, .int l.2.2.1, .int l.2.2.2] := rfl
  rw [e] at h
  cases h with
  | lst hs ha =>
    cases ha with
    | cons p1 ha => cases p1; cases ha with
      | cons p2 ha => cases p2; cases ha with
        | cons p3 ha => cases p3; cases ha with
          | cons p4 ha => cases p4; cases ha; exact ⟨_, rfl, hs⟩
theorem cnAny_t {H : Hp} {v : V} {c : Cn} (h : Dp K H v (cnD c)) : CnAny K H v c := by
  obtain ⟨a, g, vs, e, ha, hg, hl⟩ := cn_of h
  refine ⟨a, g, vs, e, .inr ha, .inr hg, by rw [DpAll.length hl, List.length_map], fun i u hu => ?_⟩
  obtain ⟨d, ed, pd⟩ := DpAll.get hl hu
  rw [List.getElem?_map] at ed
  cases el : c.ls[i]? with
  | none => rw [el] at ed; cases ed
  | some l =>
    rw [el] at ed
    cases ed
    obtain ⟨t, et, ht⟩ := ends_of pd
    exact ⟨l, t, rfl, et, .inr ht⟩
theorem cnAny_l {H : Hp} {v : V} {c : Cn} (h : Dp K H v (lstD (cnD c))) : CnAny K H v c := by
  have e : lstD (cnD c) = .list [.int c.r, .int c.b, .list ((c.ls.map lkD).map lstD)] := by
    show PyData.list [.int c.r, .int c.b, .list (lstDs (c.ls.map lkD))] = _
    rw [lstDs_eq]
  rw [e] at h
  cases h with
  | lst hs ha =>
    cases ha with
    | cons p1 ha => cases p1; cases ha with
      | cons p2 ha => cases p2; cases ha with
        | cons p3 ha =>
          cases ha
          cases p3 with
          | lst hg hl =>
            refine ⟨_, _, _, rfl, .inl hs, .inl hg, by rw [DpAll.length hl, List.length_map, List.length_map], fun i u hu => ?_⟩
            obtain ⟨d, ed, pd⟩ := DpAll.get hl hu
            rw [List.map_map, List.getElem?_map] at ed
            cases el : c.ls[i]? with
            | none => rw [el] at ed; cases ed
            | some l =>
              rw [el] at ed
              cases ed
              obtain ⟨t, et, ht⟩ := ends_of' pd
              exact ⟨l, t, rfl, et, .inl ht⟩
theorem CnAny.same {H H' : Hp} {v : V} {c : Cn} (h : CnAny K H v c) (s : Same H H') : CnAny K H' v c := by
  obtain ⟨a, g, vs, e, ha, hg, hl, hv⟩ := h.ex
  refine ⟨a, g, vs, e, Same.sq2 s ha, Same.sq2 s hg, hl, fun i u hu => ?_⟩
  obtain ⟨l, t, h1, h2, h3⟩ := hv i u hu
  exact ⟨l, t, h1, h2, Same.sq2 s h3⟩
/-! ### waters, basins, ends -/
def isRed (w : Str) : Bool := decide (V.str w = V.str "red")
def basW (r : Bool) (c : Cn) : Int := if r = true then c.r else c.b
def endW (r : Bool) (l : Lk) : Int × Int := if r = true then (l.1, l.2.1) else (l.2.2.1, l.2.2.2)
def wS (r : Bool) : Str := if r = true then "red" else "blue"
theorem isRed_wS (r : Bool) : isRed (wS r) = r := by cases r <;> decide +kernel
abbrev nEnds : List Str := ["lock", "water", "a", "c", "x", "y"]
theorem scEnds : FnScope nEnds ["lock", "water"] (defScope sEnds) := ⟨rfl, rfl, rfl, by decide +kernel, rfl, by decide +kernel, by decide +kernel⟩
def prV (p : Int × Int) : List V := [.int p.1, .int p.2]
def spEnds (K : PySem.W.Frag) : Sp := fun vs H Q _ => ∃ (t : Addr) (w : Str) (l : Lk), vs = [.ref t, .str w] ∧ Sq2 K H t (endsV l) ∧ ∀ p, H p = none → Q (.ref p) (upd H p (.tup (prV (endW (isRed w) l))))
theorem ok_ends {f : Addr} {fd : FuncData} {k : Nat} {tR : Tok} (F : Fun K "ends_of" "ends_of" sEnds f fd) (gRED : mg "RED" = some (.str "red" tR)) : FnOk P w K mg base CX0 (k + 1) f fd ["lock", "water"] (spEnds K) := by
  refine F.ok scEnds (fun vs H Q E h => ?_) (fun cdv A outer s H vs Q E hr h => ?_)
  · obtain ⟨v, w, c, rfl, _⟩ := h
    rfl
  obtain ⟨t, w, l, rfl, ht, q⟩ := h
  refine ⟨_, (pss_cons (ps_asg (pv 0) (pg_any rfl (pgs_cons (pg_name (i := 2) scEnds.nd rfl (.inl rfl)) (pgs_cons (pg_name (i := 3) scEnds.nd rfl (.inl rfl)) (pgs_cons (pg_name (i := 4) scEnds.nd rfl (.inl rfl)) (pgs_cons (pg_name (i := 5) scEnds.nd rfl (.inl rfl)) pgs_nil))))))
    (pss_one (ps_ret (pe_ifExp (pt_cmpR op_eq (pv 1) (pe_glob (v := .str "red") rfl gRED ⟨_, rfl⟩) (nomark _)) (pe_tup (pa_cons (pv 2) (pa_cons (pv 3) pa_nil))) (pe_tup (pa_cons (pv 4) (pa_cons (pv 5) pa_nil))))))), ?_⟩
  refine ⟨_, rfl, t, _, rfl, ht, rfl, _, _, rfl, _, _, rfl, _, _, rfl, _, _, rfl, rfl, ?_⟩
  refine at_s (σ' := [some (.ref t), some (.str w), some (.int l.1), some (.int l.2.1), some (.int l.2.2.1), some (.int l.2.2.2)]) rfl ?_
  refine ⟨_, rfl, rfl, _, rfl, ite2 (fun e => ?_) (fun e => ?_)⟩
  · refine ⟨_, rfl, _, rfl, (by show 2 ≤ sizeLine; decide), fun p np => ?_⟩
    have q' := q p np
    have e2 : isRed w = true := e
    rw [e2] at q'; exact q'
  · refine ⟨_, rfl, _, rfl, (by show 2 ≤ sizeLine; decide), fun p np => ?_⟩
    have q' := q p np
    have e2 : isRed w = false := by cases z : isRed w; rfl; exact absurd z e
    rw [e2] at q'; exact q'
/-! ### standings of tuples or of lists -/
structure SnAny (K : PySem.W.Frag) (H : Hp) (v : V) (s : Sn) : Prop where
  ex : ∃ a ar ab al, v = .ref a ∧ Sq2 K H a [.ref ar, .ref ab, .ref al] ∧ Sq2 K H ar (s.rs.map V.int) ∧ Sq2 K H ab (s.bs.map V.int) ∧ Sq2 K H al (s.ls.map V.int)
theorem SnAny.same {H H' : Hp} {v : V} {s : Sn} (h : SnAny K H v s) (e : Same H H') : SnAny K H' v s := by
  obtain ⟨a, ar, ab, al, e1, h1, h2, h3, h4⟩ := h.ex
  exact ⟨a, ar, ab, al, e1, Same.sq2 e h1, Same.sq2 e h2, Same.sq2 e h3, Same.sq2 e h4⟩
theorem ints_inv {H : Hp} : ∀ {vs : List V} {zs : List Int}, DpAll K H vs (intsD zs) → vs = zs.map V.int
  | _, [], h => by cases h; rfl
  | _, z :: zs, h => by
    cases h with
    | cons p r => cases p; rw [ints_inv r]; rfl
theorem snAny_t {H : Hp} {v : V} {s : Sn} (h : Dp K H v (snD s)) : SnAny K H v s := by
  cases h with
  | tup hs ha =>
    cases ha with
    | cons p1 ha => cases ha with
      | cons p2 ha => cases ha with
        | cons p3 ha =>
          cases ha
          cases p1 with
          | tup a1 b1 => cases p2 with
            | tup a2 b2 => cases p3 with
              | tup a3 b3 =>
                rw [ints_inv b1] at a1; rw [ints_inv b2] at a2; rw [ints_inv b3] at a3
                exact ⟨_, _, _, _, rfl, .inr hs, .inr a1, .inr a2, .inr a3⟩
theorem map_li : ∀ zs : List Int, (intsD zs).map lstD = intsD zs
  | [] => rfl
  | z :: zs => by show lstD (.int z) :: (intsD zs).map lstD = _; rw [map_li zs]; rfl
theorem snAny_l {H : Hp} {v : V} {s : Sn} (h : Dp K H v (lstD (snD s))) : SnAny K H v s := by
  have e : lstD (snD s) = .list [.list (intsD s.rs), .list (intsD s.bs), .list (intsD s.ls)] := by
    show PyData.list [.list (lstDs (intsD s.rs)), .list (lstDs (intsD s.bs)), .list (lstDs (intsD s.ls))] = _
    rw [lstDs_eq, lstDs_eq, lstDs_eq, map_li, map_li, map_li]
  rw [e] at h
  cases h with
  | lst hs ha =>
    cases ha with
    | cons p1 ha => cases ha with
      | cons p2 ha => cases ha with
        | cons p3 ha =>
          cases ha
          cases p1 with
          | lst a1 b1 => cases p2 with
            | lst a2 b2 => cases p3 with
              | lst a3 b3 =>
                rw [ints_inv b1] at a1; rw [ints_inv b2] at a2; rw [ints_inv b3] at a3
                exact ⟨_, _, _, _, rfl, .inl hs, .inl a1, .inl a2, .inl a3⟩
/-! ### goings -/
def gt (zs : List Int) (j : Int) : Int := zs.getD j.toNat 0
theorem gt_get {zs : List Int} {j : Int} (h0 : 0 ≤ j) (h1 : j < zs.length) : zs[j.toNat]? = some (gt zs j) := by
  unfold gt
  rw [List.getD_eq_getElem?_getD, List.getElem?_eq_getElem (show j.toNat < zs.length by omega)]; rfl
theorem gt_at {zs : List Int} {j : Int} (h0 : 0 ≤ j) (h1 : j < zs.length) : atI (zs.map V.int) j = some (.int (gt zs j)) := atI_int h0 (by rw [List.getElem?_map, gt_get h0 h1]; rfl)
def lk0 : Lk := (0, 0, 0, 0)
def lkAt (c : Cn) (i : Nat) : Lk := c.ls.getD i lk0
theorem lkAt_get {c : Cn} {i : Nat} (h : i < c.ls.length) : c.ls[i]? = some (lkAt c i) := by
  unfold lkAt
  rw [List.getD_eq_getElem?_getD, List.getElem?_eq_getElem h]; rfl
def boatsW (r : Bool) (s : Sn) : List Int := if r = true then s.rs else s.bs
/-- from and to -/
def fromTo (c : Cn) (s : Sn) (i : Nat) (r : Bool) : Int × Int := if gt s.ls i = 0 then endW r (lkAt c i) else ((endW r (lkAt c i)).2, (endW r (lkAt c i)).1)
def hasB (c : Cn) (s : Sn) (i : Nat) (r : Bool) : Bool := decide (gt (boatsW r s) (fromTo c s i r).1 > 0)
def mov (zs : List Int) (p : Int × Int) : List Int :=
  let b1 := zs.set p.1.toNat (gt zs p.1 - 1)
  b1.set p.2.toNat (gt b1 p.2 + 1)
def flip1 (zs : List Int) (i : Nat) : List Int := zs.set i (1 - gt zs i)
def goneS (c : Cn) (s : Sn) (i : Nat) (r : Bool) : Sn :=
  if r = true then ⟨mov s.rs (fromTo c s i r), s.bs, flip1 s.ls i⟩ else ⟨s.rs, mov s.bs (fromTo c s i r), flip1 s.ls i⟩
theorem mov_len (zs : List Int) (p : Int × Int) : (mov zs p).length = zs.length := by unfold mov; rw [List.length_set, List.length_set]
theorem flip_len (zs : List Int) (i : Nat) : (flip1 zs i).length = zs.length := by unfold flip1; rw [List.length_set]
theorem mem_set_or {α : Type} {l : List α} {i : Nat} {a x : α} (h : x ∈ l.set i a) : x ∈ l ∨ x = a := by
  rcases List.mem_or_eq_of_mem_set h with q | q
  · exact .inl q
  · exact .inr q
theorem gt_mem {zs : List Int} {j : Int} (h0 : 0 ≤ j) (h1 : j < zs.length) : gt zs j ∈ zs := List.mem_of_getElem? (gt_get h0 h1)
theorem mov_bd {zs : List Int} {p : Int × Int} {B : Int} (h0 : 0 ≤ p.1) (h1 : p.1 < zs.length) (h2 : 0 ≤ p.2) (h3 : p.2 < zs.length) (hb : ∀ x ∈ zs, 0 ≤ x ∧ x ≤ B) (hp : gt zs p.1 > 0) : ∀ x ∈ mov zs p, 0 ≤ x ∧ x ≤ B + 1 := by
  intro x hx
  have k1 : ∀ y ∈ zs.set p.1.toNat (gt zs p.1 - 1), 0 ≤ y ∧ y ≤ B := fun y hy => by
    rcases mem_set_or hy with q | q
    · exact hb y q
    · have := hb _ (gt_mem h0 h1); omega
  unfold mov at hx
  rcases mem_set_or hx with q | q
  · have := k1 x q; omega
  · have := k1 _ (gt_mem (zs := zs.set p.1.toNat (gt zs p.1 - 1)) (j := p.2) h2 (by rw [List.length_set]; exact h3)); omega
theorem endW_ok {c : Cn} {W U : Nat} (ok : okCn W U c) {i : Nat} (hi : i < c.ls.length) (r : Bool) : (0 ≤ (endW r (lkAt c i)).1 ∧ (endW r (lkAt c i)).1 < basW r c) ∧ (0 ≤ (endW r (lkAt c i)).2 ∧ (endW r (lkAt c i)).2 < basW r c) := by
  have o := ok.l _ (List.mem_of_getElem? (lkAt_get hi))
  cases r with
  | true => exact ⟨⟨o.a0, o.a1⟩, o.c0, o.c1⟩
  | false => exact ⟨⟨o.x0, o.x1⟩, o.y0, o.y1⟩
theorem fromTo_ok {c : Cn} {W U : Nat} (ok : okCn W U c) {s : Sn} {i : Nat} (hi : i < c.ls.length) (r : Bool) : (0 ≤ (fromTo c s i r).1 ∧ (fromTo c s i r).1 < basW r c) ∧ (0 ≤ (fromTo c s i r).2 ∧ (fromTo c s i r).2 < basW r c) := by
  have h := endW_ok ok hi r
  unfold fromTo
  split
  · exact h
  · exact ⟨h.2, h.1⟩
theorem boats_len {c : Cn} {B : Int} {s : Sn} (ok : okSn c B s) (r : Bool) : ((boatsW r s).length : Int) = basW r c := by
  cases r with
  | true => exact ok.r
  | false => exact ok.b
theorem goneS_ok {c : Cn} {W U : Nat} {B : Int} {s : Sn} (okc : okCn W U c) (ok : okSn c B s) {i : Nat} (hi : i < c.ls.length) (r : Bool) (h : hasB c s i r = true) : okSn c (B + 1) (goneS c s i r) := by
  have f := fromTo_ok okc (s := s) hi r
  have hp : gt (boatsW r s) (fromTo c s i r).1 > 0 := of_decide_eq_true h
  have hl := boats_len ok r
  have fl : ∀ x ∈ flip1 s.ls i, x = 0 ∨ x = 1 := fun x hx => by
    unfold flip1 at hx
    rcases mem_set_or hx with q | q
    · exact ok.l0 x q
    · have hm := gt_mem (zs := s.ls) (j := (i : Int)) (by omega) (by rw [ok.n]; omega)
      rcases ok.l0 _ hm with z | z <;> omega
  have up : ∀ {zs : List Int}, (∀ x ∈ zs, 0 ≤ x ∧ x ≤ B) → ∀ x ∈ zs, 0 ≤ x ∧ x ≤ B + 1 := fun h x hx => by have := h x hx; omega
  cases r with
  | true => exact ⟨by show ((mov s.rs _).length : Int) = _; rw [mov_len]; exact ok.r, ok.b, by show (flip1 s.ls i).length = _; rw [flip_len]; exact ok.n, mov_bd f.1.1 (by rw [show (s.rs.length : Int) = basW true c from hl]; exact f.1.2) f.2.1 (by rw [show (s.rs.length : Int) = basW true c from hl]; exact f.2.2) ok.r0 hp, up ok.b0, fl⟩
  | false => exact ⟨ok.r, by show ((mov s.bs _).length : Int) = _; rw [mov_len]; exact ok.b, by show (flip1 s.ls i).length = _; rw [flip_len]; exact ok.n, up ok.r0, mov_bd f.1.1 (by rw [show (s.bs.length : Int) = basW false c from hl]; exact f.1.2) f.2.1 (by rw [show (s.bs.length : Int) = basW false c from hl]; exact f.2.2) ok.b0 hp, fl⟩
/-- the goings that may be, lock by lock, red ahead of blue -/
abbrev Mv := Nat × Bool
def mvV (m : Mv) : List V := [.int m.1, .str (wS m.2)]
def mvD (m : Mv) : PyData := .tuple [.int m.1, .str (wS m.2)]
def mayL (c : Cn) (s : Sn) (i : Nat) : List Mv := [true, false].filterMap fun r => if hasB c s i r = true then some (i, r) else none
def may (c : Cn) (s : Sn) (n : Nat) : List Mv := (List.range n).flatMap (mayL c s)
theorem may_succ (c : Cn) (s : Sn) (n : Nat) : may c s (n + 1) = may c s n ++ mayL c s n := by
  unfold may
  rw [List.range_succ, List.flatMap_append]
  simp
theorem mayL_eq (c : Cn) (s : Sn) (i : Nat) : mayL c s i = (if hasB c s i true = true then [(i, true)] else []) ++ (if hasB c s i false = true then [(i, false)] else []) := by
  unfold mayL
  by_cases h1 : hasB c s i true = true <;> by_cases h2 : hasB c s i false = true <;> simp [h1, h2]
theorem mem_may {c : Cn} {s : Sn} {m : Mv} : ∀ {n : Nat}, m ∈ may c s n ↔ m.1 < n ∧ hasB c s m.1 m.2 = true
  | 0 => by simp [may]
  | n + 1 => by
    rw [may_succ, List.mem_append, mem_may (n := n), mayL_eq]
    obtain ⟨i, r⟩ := m
    constructor
    · rintro (h | h)
      · exact ⟨by have := h.1; omega, h.2⟩
      · rcases List.mem_append.mp h with h | h
        · by_cases h1 : hasB c s n true = true
          · rw [if_pos h1] at h
            have e : (i, r) = (n, true) := by simpa using h
            cases e; exact ⟨Nat.lt_succ_self _, h1⟩
          · rw [if_neg h1] at h; simp at h
        · by_cases h1 : hasB c s n false = true
          · rw [if_pos h1] at h
            have e : (i, r) = (n, false) := by simpa using h
            cases e; exact ⟨Nat.lt_succ_self _, h1⟩
          · rw [if_neg h1] at h; simp at h
    · intro ⟨h1, h2⟩
      by_cases e : i = n
      · refine .inr ?_
        have e' : i = n := e
        subst e'
        have h2' : hasB c s i r = true := h2
        cases r with
        | true => rw [if_pos h2']; exact List.mem_append_left _ (by simp)
        | false => rw [if_pos h2']; exact List.mem_append_right _ (by simp)
      · exact .inl ⟨by have : i < n + 1 := h1; show i < n; omega, h2⟩
theorem may_len (c : Cn) (s : Sn) : ∀ n : Nat, (may c s n).length ≤ 2 * n
  | 0 => by simp [may]
  | n + 1 => by
    have h := may_len c s n
    rw [may_succ, List.length_append, mayL_eq, List.length_append]
    have h1 : (if hasB c s n true = true then [(n, true)] else ([] : List Mv)).length ≤ 1 := by split <;> simp
    have h2 : (if hasB c s n false = true then [(n, false)] else ([] : List Mv)).length ≤ 1 := by split <;> simp
    omega
/-! ### from_and_to, has_boat, may_go -/
abbrev nFT : List Str := ["canal", "standing", "lock", "water", "start", "end"]
theorem scFT : FnScope nFT ["canal", "standing", "lock", "water"] (defScope sFT) := ⟨rfl, rfl, rfl, by decide +kernel, rfl, by decide +kernel, by decide +kernel⟩
def spFT (K : PySem.W.Frag) : Sp := fun vs H Q _ => ∃ (v u : V) (i : Nat) (r : Bool) (c : Cn) (s : Sn), vs = [v, u, .int i, .str (wS r)] ∧ CnAny K H v c ∧ SnAny K H u s ∧ i < c.ls.length ∧ i < s.ls.length ∧ ∀ p H', Same H H' → H p = none → H' p = some (.tup (prV (fromTo c s i r))) → Q (.ref p) H'
theorem ok_ft {f fe : Addr} {fd fde : FuncData} {k : Nat} (F : Fun K "from_and_to" "from_and_to" sFT f fd) (En : Fns P w K mg base k "ends_of" ["lock", "water"] (spEnds K) fe fde) : FnOk P w K mg base CX0 (k + 1) f fd ["canal", "standing", "lock", "water"] (spFT K) := by
  refine F.ok scFT (fun vs H Q E h => ?_) (fun cdv A outer s H vs Q E hr h => ?_)
  · obtain ⟨v, u, i, r, c, s, rfl, _⟩ := h
    rfl
  obtain ⟨v, u, i, r, c, s, rfl, hc, hs, hi, hi2, q⟩ := h
  obtain ⟨a, g, vs, rfl, ha, hg, hl, hv⟩ := hc.ex
  obtain ⟨b, br, bb, bl, rfl, hb, hbr, hbb, hbl⟩ := hs.ex
  refine ⟨_, (pss_cons (ps_asg (pe_fn En hr rfl (pa_cons (pe_ix (r := rIxA K) ix_any (pe_ix (r := rIxA K) ix_any (pv 0) pe_int (fun _ _ => rfl)) (pv 2) (fun _ _ => rfl)) (pa_cons (pv 3) pa_nil))) (pg_any rfl (pgs_cons (pg_name (i := 4) scFT.nd rfl (.inl rfl)) (pgs_cons (pg_name (i := 5) scFT.nd rfl (.inl rfl)) pgs_nil))))
    (pss_one (ps_ret (pe_ifExp (pt_cmpR op_eq (pe_ix (r := rIxA K) ix_any (pe_ix (r := rIxA K) ix_any (pv 1) pe_int (fun _ _ => rfl)) (pv 2) (fun _ _ => rfl)) pe_int (nomark _)) (pe_tup (pa_cons (pv 4) (pa_cons (pv 5) pa_nil))) (pe_tup (pa_cons (pv 5) (pa_cons (pv 4) pa_nil))))))), ?_⟩
  have hvi : i < vs.length := by rw [hl]; exact hi
  obtain ⟨l, t, el, et, ht⟩ := hv i _ (List.getElem?_eq_getElem hvi)
  have el' : l = lkAt c i := by rw [lkAt_get hi] at el; exact (Option.some.inj el).symm
  subst el'
  refine ⟨_, rfl, a, _, _, _, rfl, rfl, ha, rfl, _, rfl, g, _, _, _, rfl, rfl, hg, atI_nat (List.getElem?_eq_getElem hvi), _, rfl, t, wS r, lkAt c i, by rw [et]; rfl, ht, fun p np => ?_⟩
  rw [isRed_wS]
  have s1 : Same H (upd H p (.tup (prV (endW r (lkAt c i))))) := same_new np
  refine ⟨p, _, rfl, .inr (.inl (.inl upd_same)), rfl, _, _, rfl, _, _, rfl, rfl, ?_⟩
  refine at_s (σ' := [some (.ref a), some (.ref b), some (.int i), some (.str (wS r)), some (.int (endW r (lkAt c i)).1), some (.int (endW r (lkAt c i)).2)]) rfl ?_
  refine ⟨_, rfl, b, _, _, _, rfl, rfl, Same.sq2 s1 hb, rfl, _, rfl, bl, _, _, _, rfl, rfl, Same.sq2 s1 hbl, gt_at (by omega) (by omega), rfl, _, rfl, ite2 (fun e => ?_) (fun e => ?_)⟩
  · refine ⟨_, rfl, _, rfl, (by show 2 ≤ sizeLine; decide), fun p2 np2 => ?_⟩
    have e' : gt s.ls (i : Int) = 0 := V.int.inj (of_decide_eq_true e)
    refine q p2 _ (s1.trans (same_new np2)) (s1.free np2) ?_
    rw [upd_same]; unfold fromTo; rw [if_pos e']; rfl
  · refine ⟨_, rfl, _, rfl, (by show 2 ≤ sizeLine; decide), fun p2 np2 => ?_⟩
    have e' : ¬ gt s.ls (i : Int) = 0 := fun z => e (decide_eq_true (by rw [z]))
    refine q p2 _ (s1.trans (same_new np2)) (s1.free np2) ?_
    rw [upd_same]; unfold fromTo; rw [if_neg e']; rfl
abbrev nHas : List Str := ["canal", "standing", "lock", "water", "start", "boats"]
theorem scHas : FnScope nHas ["canal", "standing", "lock", "water"] (defScope sHas) := ⟨rfl, rfl, rfl, by decide +kernel, rfl, by decide +kernel, by decide +kernel⟩
def spHas (K : PySem.W.Frag) : Sp := fun vs H Q _ => ∃ (v u : V) (i : Nat) (r : Bool) (c : Cn) (s : Sn) (B : Int), vs = [v, u, .int i, .str (wS r)] ∧ CnAny K H v c ∧ SnAny K H u s ∧ i < c.ls.length ∧ okCn 100 100 c ∧ okSn c B s ∧ ∀ H', Same H H' → Q (.bl (hasB c s i r)) H'
theorem ok_has {f fe : Addr} {fd fde : FuncData} {k : Nat} {tR : Tok} (F : Fun K "has_boat" "has_boat" sHas f fd) (FT : Fns P w K mg base k "from_and_to" ["canal", "standing", "lock", "water"] (spFT K) fe fde) (gRED : mg "RED" = some (.str "red" tR)) : FnOk P w K mg base CX0 (k + 1) f fd ["canal", "standing", "lock", "water"] (spHas K) := by
  refine F.ok scHas (fun vs H Q E h => ?_) (fun cdv A outer s H vs Q E hr h => ?_)
  · obtain ⟨v, u, i, r, c, s, B, rfl, _⟩ := h
    rfl
  obtain ⟨v, u, i, r, c, s, B, rfl, hc, hs, hi, okc, oks, q⟩ := h
  obtain ⟨b, br, bb, bl, rfl, hb, hbr, hbb, hbl⟩ := hs.ex
  refine ⟨_, (pss_cons (ps_set (i := 4) scHas.nd rfl (.inl rfl) (pe_ix (r := rIxA K) ix_any (pe_fn FT hr rfl (pa_cons (pv 0) (pa_cons (pv 1) (pa_cons (pv 2) (pa_cons (pv 3) pa_nil))))) pe_int (fun _ _ => rfl)))
    (pss_cons (ps_set (i := 5) scHas.nd rfl (.inl rfl) (pe_ifExp (pt_cmpR op_eq (pv 3) (pe_glob (v := .str "red") rfl gRED ⟨_, rfl⟩) (nomark _)) (pe_ix (r := rIxA K) ix_any (pv 1) pe_int (fun _ _ => rfl)) (pe_ix (r := rIxA K) ix_any (pv 1) pe_int (fun _ _ => rfl))))
    (pss_one (ps_ret (pe_cmpR op_gt (pe_ix (r := rIxA K) ix_any (pv 5) (pv 4) (fun _ _ => rfl)) pe_int (nomark _)))))), ?_⟩
  refine ⟨_, rfl, _, rfl, _, rfl, _, rfl, v, .ref b, i, r, c, s, rfl, hc, hs, hi, by rw [oks.n]; exact hi, fun p H1 s1 np ep => ?_⟩
  refine ⟨p, _, _, _, rfl, rfl, .inr (.inl (.inl ep)), rfl, ?_⟩
  have f := fromTo_ok okc (s := s) hi r
  have hl := boats_len oks r
  have g1 : atI ((boatsW r s).map V.int) (fromTo c s i r).1 = some (.int (gt (boatsW r s) (fromTo c s i r).1)) := gt_at f.1.1 (by rw [hl]; exact f.1.2)
  refine at_g (σ' := [some v, some (.ref b), some (.int i), some (.str (wS r)), some (.int (fromTo c s i r).1), none]) rfl ?_
  refine ⟨_, rfl, rfl, _, rfl, ite2 (fun e => ?_) (fun e => ?_)⟩
  · have er : r = true := by rw [← isRed_wS r]; exact e
    subst er
    refine ⟨_, rfl, b, _, _, _, rfl, rfl, Same.sq2 s1 hb, rfl, ?_⟩
    exact ⟨_, rfl, _, rfl, br, _, _, _, rfl, rfl, Same.sq2 s1 hbr, g1, _, _, rfl, rfl, q _ s1⟩
  · have er : r = false := by
      cases r with
      | false => rfl
      | true => exact absurd (isRed_wS true) e
    subst er
    refine ⟨_, rfl, b, _, _, _, rfl, rfl, Same.sq2 s1 hb, rfl, ?_⟩
    exact ⟨_, rfl, _, rfl, bb, _, _, _, rfl, rfl, Same.sq2 s1 hbb, g1, _, _, rfl, rfl, q _ s1⟩
/-- a list of goings, tuples all -/
structure MvAt (H : Hp) (a : Addr) (ms : List Mv) (us : List V) : Prop where
  e : H a = some (.lst us)
  l : us.length = ms.length
  d : ∀ (j : Nat) u, us[j]? = some u → ∃ t m, u = .ref t ∧ ms[j]? = some m ∧ H t = some (.tup (mvV m))
theorem MvAt.dp {H : Hp} {a : Addr} : ∀ {ms : List Mv} {us : List V}, us.length = ms.length → (∀ (j : Nat) u, us[j]? = some u → ∃ t m, u = .ref t ∧ ms[j]? = some m ∧ H t = some (.tup (mvV m))) → DpAll K H us (ms.map mvD)
  | [], [], _, _ => .nil
  | [], _ :: _, h, _ => by simp at h
  | _ :: _, [], h, _ => by simp at h
  | m :: ms, u :: us, h, hd => by
    obtain ⟨t, m', e, em, et⟩ := hd 0 u rfl
    have e' : m = m' := by simpa using em
    subst e'
    rw [e]
    exact .cons (.tup (.inl (.inl et)) (.cons (.int _) (.cons (.str _) .nil))) (MvAt.dp (a := a) (by simpa using h) fun j u q => by simpa using hd (j + 1) u (by simpa using q))
theorem MvAt.snoc {H H' : Hp} {a t : Addr} {ms : List Mv} {us : List V} {m : Mv} (h : MvAt H a ms us) (hk : ∀ (b : Addr) xs, H b = some (.tup xs) → H' b = some (.tup xs)) (et : H' t = some (.tup (mvV m))) (ea : H' a = some (.lst (us ++ [.ref t]))) : MvAt H' a (ms ++ [m]) (us ++ [.ref t]) := by
  refine ⟨ea, by rw [List.length_append, List.length_append, h.l]; rfl, fun j u hu => ?_⟩
  by_cases hj : j < us.length
  · rw [List.getElem?_append_left hj] at hu
    obtain ⟨t', m', e1, e2, e3⟩ := h.d j u hu
    exact ⟨t', m', e1, by rw [List.getElem?_append_left (by rw [← h.l]; exact hj)]; exact e2, hk _ _ e3⟩
  · rw [List.getElem?_append_right (by omega)] at hu
    have hj0 : j - us.length = 0 := by
      rcases Nat.eq_zero_or_pos (j - us.length) with q | q
      · exact q
      · rw [List.getElem?_eq_none (by simp; omega)] at hu; cases hu
    rw [hj0] at hu
    have e : V.ref t = u := by simpa using hu
    refine ⟨t, m, e.symm, ?_, et⟩
    rw [List.getElem?_append_right (by rw [← h.l]; omega), ← h.l, hj0]; rfl
end
end XL
namespace XL
open PySem PySem.Spec PyProof.Rows L2
abbrev sGone : Stmt := topS 18
abbrev sIB : Stmt := inClass (topS 13) 0
section
variable {P : Program} {w : World} {K : PySem.W.Frag} {mg : Str → Option Value} {base : Heap}
theorem scIB : FnScope ["self", "going"] ["self", "going"] (defScope sIB) := ⟨rfl, rfl, rfl, by decide +kernel, rfl, by decide +kernel, by decide +kernel⟩
theorem ok_IB {f c : Addr} {fd : FuncData} (F : Fun K "__init__" "NoBoat.__init__" sIB f fd) (T : ExK K c 2) (no : PySem.W.findIn K (.ref c) "going" = some none) (mB : mg "RuntimeError" = none) : FnOk P w K mg base CX0 1 f fd ["self", "going"] (spI c "going") := by
  refine F.ok scIB (fun vs H Q E h => ?_) (fun cdv A outer s H vs Q E hr h => ?_)
  · obtain ⟨a, y, rfl, _⟩ := h
    rfl
  obtain ⟨a, y, rfl, ea, q⟩ := h
  refine ⟨_, pss_cons (ps_expr (pe_binit (B := "RuntimeError") (newId := bW 2) (initId := "RuntimeError.__init__") (bm := bM 2) rfl mB boot_RuntimeError tyf_RuntimeError fnd_RuntimeError (pa_cons (pv 0) (pa_cons pe_str pa_nil)) (by decide) (by decide) stb_RuntimeError hnd_RuntimeError))
    (pss_one (ps_os1 (B := "RuntimeError") (newId := bW 2) (initId := "RuntimeError.__init__") (bm := bM 2) (pv 0) (pv 1))), ?_⟩
  refine ⟨_, rfl, a, c, _, rfl, (by show 1 ≤ 1000; decide), T, ea, ?_⟩
  exact ⟨_, rfl, _, rfl, a, c, rfl, T, no, ea, fun dx n ne => q dx n ne⟩
/-! ### gone -/
abbrev nGone : List Str := ["canal", "standing", "going", "lock", "water", "start", "end", "reds", "blues", "stands", "boats"]
theorem scGone : FnScope nGone ["canal", "standing", "going"] (defScope sGone) := ⟨rfl, rfl, rfl, by decide +kernel, rfl, by decide +kernel, by decide +kernel⟩
def spGone (K : PySem.W.Frag) (CB : Addr) : Sp := fun vs H Q E => ∃ (v u : V) (g : Addr) (i : Nat) (r : Bool) (c : Cn) (s : Sn) (B : Int), vs = [v, u, .ref g] ∧ CnAny K H v c ∧ SnAny K H u s ∧ Sq2 K H g (mvV (i, r)) ∧ i < c.ls.length ∧ okCn 100 100 c ∧ okSn c B s ∧
  (hasB c s i r = true → ∀ v' H', Same H H' → Dp K H' v' (snD (goneS c s i r)) → Q v' H') ∧
  (hasB c s i r = false → ∀ d t H', Same H H' → H d = none → H' d = some (.xd [("going", .ref t)]) → H' t = some (.tup (mvV (i, r))) → E (.ref CB) (some d) H')
theorem set_ix {zs : List Int} {j x : Int} (h0 : 0 ≤ j) (h1 : j < zs.length) : ixN (zs.map V.int).length j = some j.toNat := by
  unfold ixN
  rw [if_pos h0, if_pos (by rw [List.length_map]; omega)]
theorem ok_gone {f fh ft fB CB : Addr} {fd fdh fdt fdB : FuncData} {k : Nat} {tR : Tok} (F : Fun K "gone" "gone" sGone f fd) (Ha : Fns P w K mg base (k + 1) "has_boat" ["canal", "standing", "lock", "water"] (spHas K) fh fdh) (FT : Fns P w K mg base (k + 1) "from_and_to" ["canal", "standing", "lock", "water"] (spFT K) ft fdt)
    (TB : Er P w K mg base "NoBoat" 2 CB fB fdB ["self", "going"] (spI CB "going")) (gRED : mg "RED" = some (.str "red" tR)) (m_list : mg "list" = none) (m_tuple : mg "tuple" = none) : FnOk P w K mg base (L2.CX P w) (k + 2 + 1) f fd ["canal", "standing", "going"] (spGone K CB) := by
  refine F.okX scGone (fun vs H Q E h => ?_) (fun cdv A outer s H vs Q E hr2 h => ?_)
  · obtain ⟨v, u, g, i, r, c, s, B, rfl, _⟩ := h
    rfl
  obtain ⟨v, u, g, i, r, c, s, B, rfl, hc, hs, hg, hi, okc, oks, qy, qn⟩ := h
  have hr : Room (k + 1) _ := hr2.mono (Nat.le_succ _)
  have hrB : Room (1 + 1) _ := hr2.mono (by omega)
  have FB := TB.ok
  have bB := TB.bi
  refine ⟨_, (pss_cons (ps_asg (pv 2) (pg_any rfl (pgs_cons (pg_name (i := 3) scGone.nd rfl (.inl rfl)) (pgs_cons (pg_name (i := 4) scGone.nd rfl (.inl rfl)) pgs_nil))))
    (pss_cons (ps_if (pt_not (pt_val (pe_fn Ha hr rfl (pa_cons (pv 0) (pa_cons (pv 1) (pa_cons (pv 3) (pa_cons (pv 4) pa_nil))))))) (pss_one (ps_raise rfl (takes_of rfl rfl rfl rfl) (pmk_ex TB.ex TB.ty TB.ini TB.tI FB hrB bB rfl TB.g (pa_cons (pe_tup (pa_cons (pv 3) (pa_cons (pv 4) pa_nil))) pa_nil)))) pss_nil)
    (pss_cons (ps_asg (pe_fn FT hr rfl (pa_cons (pv 0) (pa_cons (pv 1) (pa_cons (pv 3) (pa_cons (pv 4) pa_nil))))) (pg_any rfl (pgs_cons (pg_name (i := 5) scGone.nd rfl (.inl rfl)) (pgs_cons (pg_name (i := 6) scGone.nd rfl (.inl rfl)) pgs_nil))))
    (pss_cons (ps_par3 (i := 7) (j := 8) (l := 9) rfl scGone.nd rfl rfl rfl (by decide) (by decide) (by decide) rfl rfl rfl (pa_cons (pe_callTy (r := rLstA K) call_listA rfl m_list boot_list (pa_cons (pe_ix (r := rIxA K) ix_any (pv 1) pe_int (fun _ _ => rfl)) pa_nil)) (pa_cons (pe_callTy (r := rLstA K) call_listA rfl m_list boot_list (pa_cons (pe_ix (r := rIxA K) ix_any (pv 1) pe_int (fun _ _ => rfl)) pa_nil)) (pa_cons (pe_callTy (r := rLstA K) call_listA rfl m_list boot_list (pa_cons (pe_ix (r := rIxA K) ix_any (pv 1) pe_int (fun _ _ => rfl)) pa_nil)) pa_nil))) rfl)
    (pss_cons (ps_set (i := 10) scGone.nd rfl (.inl rfl) (pe_ifExp (pt_cmpR op_eq (pv 4) (pe_glob (v := .str "red") rfl gRED ⟨_, rfl⟩) (nomark _)) (pv 7) (pv 8)))
    (pss_cons (ps_augS (pv 10) (pv 5) get_list pe_int ip_sub set_list)
    (pss_cons (ps_augS (pv 10) (pv 6) get_list pe_int ip_add set_list)
    (pss_cons (ps_asg (pe_op op_sub pe_int (pe_ix (r := rIxA K) ix_any (pv 9) (pv 3) (fun _ _ => rfl))) (pg_sub (pv 9) (pv 3) set_list))
    (pss_one (ps_ret (pe_tup (pa_cons (pe_callTy (r := rTupA K) call_tupleA rfl m_tuple boot_tuple (pa_cons (pv 7) pa_nil)) (pa_cons (pe_callTy (r := rTupA K) call_tupleA rfl m_tuple boot_tuple (pa_cons (pv 8) pa_nil)) (pa_cons (pe_callTy (r := rTupA K) call_tupleA rfl m_tuple boot_tuple (pa_cons (pv 9) pa_nil)) pa_nil)))))))))))))), ?_⟩
  refine ⟨_, rfl, g, _, rfl, hg, rfl, _, _, rfl, _, _, rfl, rfl, ?_⟩
  refine at_s (σ' := [some v, some u, some (.ref g), some (.int i), some (.str (wS r)), none, none, none, none, none, none]) rfl ?_
  refine ⟨_, rfl, _, rfl, _, rfl, _, rfl, v, u, i, r, c, s, B, rfl, hc, hs, hi, okc, oks, fun H1 s1 => ⟨_, rfl, ?_⟩⟩
  cases hb : hasB c s i r with
  | false =>
    refine iteT ?_
    refine ⟨_, rfl, _, rfl, (by show 2 ≤ sizeLine; decide), fun t nt => ⟨(by show 1 ≤ 1000; decide), fun a na => ?_⟩⟩
    have st : Same H1 (upd H1 t (.tup (mvV (i, r)))) := same_new nt
    refine ⟨a, .ref t, rfl, upd_same, fun dx nx nxa => ⟨rfl, dx, [("going", .ref t)], upd_same, by rw [upd_ne nxa, upd_same], by rw [upd_ne nxa] at nx; exact nx, ?_⟩⟩
    have nx' : (upd H1 t (.tup (mvV (i, r)))) dx = none := by rw [upd_ne nxa] at nx; exact nx
    rw [del_upd' na nxa]
    exact qn hb dx t _ (s1.trans (st.trans (same_new nx'))) (s1.free (st.free nx')) upd_same ((same_new nx') _ _ upd_same)
  | true =>
    refine iteF ?_
    have qy := qy hb
    have fo := fromTo_ok okc (s := s) hi r
    have hl := boats_len oks r
    refine ⟨_, rfl, _, rfl, _, rfl, _, rfl, v, u, i, r, c, s, rfl, hc.same s1, hs.same s1, hi, by rw [oks.n]; exact hi, fun p H2 s2 np ep => ?_⟩
    have s12 := s1.trans s2
    refine ⟨p, _, rfl, .inr (.inl (.inl ep)), rfl, _, _, rfl, _, _, rfl, rfl, ?_⟩
    refine at_s (σ' := [some v, some u, some (.ref g), some (.int i), some (.str (wS r)), some (.int (fromTo c s i r).1), some (.int (fromTo c s i r).2), none, none, none, none]) rfl ?_
    obtain ⟨b, br, bb, bl, rfl, hb', hbr, hbb, hbl⟩ := (hs.same s12).ex
    refine ⟨_, rfl, b, _, _, _, rfl, rfl, hb', rfl, br, _, rfl, hbr, fun l1 n1 => ?_⟩
    have t1 : Same H2 (upd H2 l1 (.lst (s.rs.map V.int))) := same_new n1
    refine ⟨_, rfl, b, _, _, _, rfl, rfl, Same.sq2 t1 hb', rfl, bb, _, rfl, Same.sq2 t1 hbb, fun l2 n2 => ?_⟩
    have t2 : Same _ (upd (upd H2 l1 (.lst (s.rs.map V.int))) l2 (.lst (s.bs.map V.int))) := same_new n2
    have t12 := t1.trans t2
    refine ⟨_, rfl, b, _, _, _, rfl, rfl, Same.sq2 t12 hb', rfl, bl, _, rfl, Same.sq2 t12 hbl, fun l3 n3 => ?_⟩
    have t3 : Same _ (upd (upd (upd H2 l1 (.lst (s.rs.map V.int))) l2 (.lst (s.bs.map V.int))) l3 (.lst (s.ls.map V.int))) := same_new n3
    have e1 := t2 _ _ (show (upd H2 l1 (.lst (s.rs.map V.int))) l1 = _ from upd_same)
    have e2 := t3 _ _ (show (upd (upd H2 l1 (.lst (s.rs.map V.int))) l2 (.lst (s.bs.map V.int))) l2 = _ from upd_same)
    have e1' := t3 _ _ e1
    have d12 : l1 ≠ l2 := fun z => by rw [← z, upd_same] at n2; cases n2
    have d13 : l1 ≠ l3 := fun z => by rw [← z, e1] at n3; cases n3
    have d23 : l2 ≠ l3 := fun z => by rw [← z, upd_same] at n3; cases n3
    have hn1 : H2 l1 = none := n1
    have hn2 : H2 l2 = none := t1.free n2
    have hn3 : H2 l3 = none := t12.free n3
    have e3 : (upd (upd (upd H2 l1 (.lst (s.rs.map V.int))) l2 (.lst (s.bs.map V.int))) l3 (.lst (s.ls.map V.int))) l3 = some (.lst (s.ls.map V.int)) := upd_same
    have tt : Same H2 (upd (upd (upd H2 l1 (.lst (s.rs.map V.int))) l2 (.lst (s.bs.map V.int))) l3 (.lst (s.ls.map V.int))) := t12.trans t3
    refine ⟨_, _, _, rfl, ?_⟩
    refine at_s (σ' := [some v, some (.ref b), some (.ref g), some (.int i), some (.str (wS r)), some (.int (fromTo c s i r).1), some (.int (fromTo c s i r).2), some (.ref l1), some (.ref l2), some (.ref l3), none]) rfl ?_
    generalize upd (upd (upd H2 l1 (.lst (s.rs.map V.int))) l2 (.lst (s.bs.map V.int))) l3 (.lst (s.ls.map V.int)) = H3 at e1' e2 e3 tt
    -- the three lists are our own
    have s3i : (i : Int) < s.ls.length := by rw [oks.n]; omega
    -- what follows, by the boats' list
    have tail : ∀ (D : Ends) (lw : Addr) (H4 : Hp) (zr zb : List Int), D.rt = Q → Same H2 H4 → H4 l1 = some (.lst (zr.map V.int)) → H4 l2 = some (.lst (zb.map V.int)) → H4 l3 = some (.lst ((flip1 s.ls i).map V.int)) → (goneS c s i r) = ⟨zr, zb, flip1 s.ls i⟩ →
        (tRet (tTup (tCons (tCB (rTupA K) (tCons (tVar 7) tNil)) (tCons (tCB (rTupA K) (tCons (tVar 8) tNil)) (tCons (tCB (rTupA K) (tCons (tVar 9) tNil)) tNil))))) D [some v, some (.ref b), some (.ref g), some (.int i), some (.str (wS r)), some (.int (fromTo c s i r).1), some (.int (fromTo c s i r).2), some (.ref l1), some (.ref l2), some (.ref l3), some (.ref lw)] H4 := by
      intro D lw H4 zr zb hD s4 f1 f2 f3 eg
      refine ⟨_, rfl, l1, _, rfl, .inl ⟨SqL.of f1, fun p1 np1 => ?_⟩⟩
      have u1 : Same H4 (upd H4 p1 (.tup (zr.map V.int))) := same_new np1
      refine ⟨_, rfl, l2, _, rfl, .inl ⟨SqL.of (u1 _ _ f2), fun p2 np2 => ?_⟩⟩
      have u2 : Same _ (upd (upd H4 p1 (.tup (zr.map V.int))) p2 (.tup (zb.map V.int))) := same_new np2
      refine ⟨_, rfl, l3, _, rfl, .inl ⟨SqL.of (u2 _ _ (u1 _ _ f3)), fun p3 np3 => ?_⟩⟩
      have u3 : Same _ (upd (upd (upd H4 p1 (.tup (zr.map V.int))) p2 (.tup (zb.map V.int))) p3 (.tup ((flip1 s.ls i).map V.int))) := same_new np3
      refine ⟨(by show 3 ≤ sizeLine; decide), fun p4 np4 => ?_⟩
      have u4 : Same _ (upd (upd (upd (upd H4 p1 (.tup (zr.map V.int))) p2 (.tup (zb.map V.int))) p3 (.tup ((flip1 s.ls i).map V.int))) p4 (.tup [.ref p1, .ref p2, .ref p3])) := same_new np4
      rw [hD]
      refine qy _ _ (s12.trans (s4.trans (u1.trans (u2.trans (u3.trans u4))))) ?_
      rw [eg]
      have dpi : ∀ (zs : List Int) (G : Hp), DpAll K G (zs.map V.int) (intsD zs) := by
        intro zs G
        induction zs with
        | nil => exact .nil
        | cons z zs ih => exact .cons (.int z) ih
      exact .tup (.inl (.inl upd_same)) (.cons (.tup (.inl (.inl (u4 _ _ (u3 _ _ (u2 _ _ upd_same))))) (dpi _ _)) (.cons (.tup (.inl (.inl (u4 _ _ (u3 _ _ upd_same)))) (dpi _ _)) (.cons (.tup (.inl (.inl (u4 _ _ upd_same))) (dpi _ _)) .nil)))
    refine ⟨_, rfl, rfl, _, rfl, ite2 (fun e => ?_) (fun e => ?_)⟩
    · have er : r = true := by rw [← isRed_wS r]; exact e
      subst er
      refine ⟨_, rfl, ?_⟩
      refine at_g (σ' := [some v, some (.ref b), some (.ref g), some (.int i), some (.str (wS true)), some (.int (fromTo c s i true).1), some (.int (fromTo c s i true).2), some (.ref l1), some (.ref l2), some (.ref l3), some (.ref l1)]) rfl ?_
      have L1 : (fromTo c s i true).1 < (s.rs.length : Int) := by rw [show (s.rs.length : Int) = basW true c from hl]; exact fo.1.2
      have L2 : (fromTo c s i true).2 < (s.rs.length : Int) := by rw [show (s.rs.length : Int) = basW true c from hl]; exact fo.2.2
      refine ⟨_, rfl, _, rfl, l1, _, _, _, rfl, rfl, SqL.of e1', fo.1.1, by rw [List.getElem?_map, gt_get fo.1.1 L1]; rfl, _, _, rfl, rfl, l1, _, _, _, rfl, rfl, e1', set_ix (x := 0) fo.1.1 L1, ?_⟩
      rw [set_ints]
      have L2' : (fromTo c s i true).2 < ((s.rs.set (fromTo c s i true).1.toNat (gt s.rs (fromTo c s i true).1 - 1)).length : Int) := by rw [List.length_set]; exact L2
      refine ⟨_, rfl, _, rfl, l1, _, _, _, rfl, rfl, SqL.of upd_same, fo.2.1, by rw [List.getElem?_map, gt_get fo.2.1 L2']; rfl, _, _, rfl, rfl, l1, _, _, _, rfl, rfl, upd_same, set_ix (x := 0) fo.2.1 L2', ?_⟩
      rw [set_ints, upd_upd]
      have e3' : upd H3 l1 (.lst ((mov s.rs (fromTo c s i true)).map V.int)) l3 = some (.lst (s.ls.map V.int)) := by rw [upd_ne (Ne.symm d13)]; exact e3
      refine ⟨_, rfl, _, rfl, l3, _, _, _, rfl, rfl, .inl (SqL.of e3'), gt_at (by omega) s3i, _, _, rfl, rfl, _, rfl, _, rfl, l3, _, _, _, rfl, rfl, e3', set_ix (x := 0) (by omega) s3i, ?_⟩
      rw [set_ints]
      refine tail _ _ _ (mov s.rs (fromTo c s i true)) s.bs rfl (fun c' o e => ?_) ?_ ?_ ?_ rfl
      · rw [upd_ne (ne_of_none e hn3), upd_ne (ne_of_none e hn1)]; exact tt _ _ e
      · rw [upd_ne d13, upd_same]; rfl
      · rw [upd_ne d23, upd_ne (Ne.symm d12)]; exact e2
      · rw [upd_same]; rfl
    · have er : r = false := by
        cases r with
        | false => rfl
        | true => exact absurd (isRed_wS true) e
      subst er
      refine ⟨_, rfl, ?_⟩
      refine at_g (σ' := [some v, some (.ref b), some (.ref g), some (.int i), some (.str (wS false)), some (.int (fromTo c s i false).1), some (.int (fromTo c s i false).2), some (.ref l1), some (.ref l2), some (.ref l3), some (.ref l2)]) rfl ?_
      have L1 : (fromTo c s i false).1 < (s.bs.length : Int) := by rw [show (s.bs.length : Int) = basW false c from hl]; exact fo.1.2
      have L2 : (fromTo c s i false).2 < (s.bs.length : Int) := by rw [show (s.bs.length : Int) = basW false c from hl]; exact fo.2.2
      refine ⟨_, rfl, _, rfl, l2, _, _, _, rfl, rfl, SqL.of e2, fo.1.1, by rw [List.getElem?_map, gt_get fo.1.1 L1]; rfl, _, _, rfl, rfl, l2, _, _, _, rfl, rfl, e2, set_ix (x := 0) fo.1.1 L1, ?_⟩
      rw [set_ints]
      have L2' : (fromTo c s i false).2 < ((s.bs.set (fromTo c s i false).1.toNat (gt s.bs (fromTo c s i false).1 - 1)).length : Int) := by rw [List.length_set]; exact L2
      refine ⟨_, rfl, _, rfl, l2, _, _, _, rfl, rfl, SqL.of upd_same, fo.2.1, by rw [List.getElem?_map, gt_get fo.2.1 L2']; rfl, _, _, rfl, rfl, l2, _, _, _, rfl, rfl, upd_same, set_ix (x := 0) fo.2.1 L2', ?_⟩
      rw [set_ints, upd_upd]
      have e3' : upd H3 l2 (.lst ((mov s.bs (fromTo c s i false)).map V.int)) l3 = some (.lst (s.ls.map V.int)) := by rw [upd_ne (Ne.symm d23)]; exact e3
      refine ⟨_, rfl, _, rfl, l3, _, _, _, rfl, rfl, .inl (SqL.of e3'), gt_at (by omega) s3i, _, _, rfl, rfl, _, rfl, _, rfl, l3, _, _, _, rfl, rfl, e3', set_ix (x := 0) (by omega) s3i, ?_⟩
      rw [set_ints]
      refine tail _ _ _ s.rs (mov s.bs (fromTo c s i false)) rfl (fun c' o e => ?_) ?_ ?_ ?_ rfl
      · rw [upd_ne (ne_of_none e hn3), upd_ne (ne_of_none e hn2)]; exact tt _ _ e
      · rw [upd_ne d13, upd_ne d12]; exact e1'
      · rw [upd_ne d23, upd_same]; rfl
      · rw [upd_same]; rfl
end
end XL
namespace XL
open PySem PySem.Spec PyProof.Rows L2
abbrev sLF : Stmt := topS 45
abbrev sSt : Stmt := topS 46
abbrev sBe : Stmt := topS 47
theorem dp_ints' {K : PySem.W.Frag} {H : Hp} : ∀ zs : List Int, DpAll K H (zs.map V.int) (intsD zs)
  | [] => .nil
  | z :: zs => .cons (.int z) (dp_ints' zs)
section
variable {P : Program} {w : World} {K : PySem.W.Frag} {mg : Str → Option Value} {base : Heap}
/-! ### the law's own: from and to -/
abbrev nLF : List Str := ["_law_ship_way", "_law_lying_here", "_law_hop", "_law_gate", "_law_hue", "_law_ends"]
theorem scLF : FnScope nLF ["_law_ship_way", "_law_lying_here", "_law_hop"] (defScope sLF) := ⟨rfl, rfl, rfl, by decide +kernel, rfl, by decide +kernel, by decide +kernel⟩
def spLF (K : PySem.W.Frag) : Sp := fun vs H Q _ => ∃ (v u : V) (m : Addr) (i : Nat) (r : Bool) (c : Cn) (s : Sn), vs = [v, u, .ref m] ∧ Dp K H v (cnD c) ∧ SnAny K H u s ∧ Sq2 K H m (mvV (i, r)) ∧ i < c.ls.length ∧ i < s.ls.length ∧ ∀ p H', Same H H' → H p = none → H' p = some (.tup (prV (fromTo c s i r))) → Q (.ref p) H'
theorem ok_lf {f : Addr} {fd : FuncData} {k : Nat} (F : Fun K "_law_from_to" "_law_from_to" sLF f fd) : FnOk P w K mg base CX0 (k + 1) f fd ["_law_ship_way", "_law_lying_here", "_law_hop"] (spLF K) := by
  refine F.ok scLF (fun vs H Q E h => ?_) (fun cdv A outer s H vs Q E hr h => ?_)
  · obtain ⟨v, u, m, i, r, c, s, rfl, _⟩ := h
    rfl
  obtain ⟨v, u, m, i, r, c, s, rfl, hc, hs, hm, hi, hi2, q⟩ := h
  obtain ⟨a, g, vs, rfl, ha, hg, hl⟩ := cn_of hc
  obtain ⟨b, br, bb, bl, rfl, hb, hbr, hbb, hbl⟩ := hs.ex
  refine ⟨_, (pss_cons (ps_asg (pv 2) (pg_any rfl (pgs_cons (pg_name (i := 3) scLF.nd rfl (.inl rfl)) (pgs_cons (pg_name (i := 4) scLF.nd rfl (.inl rfl)) pgs_nil))))
    (pss_cons (ps_set (i := 5) scLF.nd rfl (.inl rfl) (pe_ifExp (pt_cmpR op_eq (pv 4) pe_str (nomark _)) (pe_slice sl_tup (pe_ix (r := rIxA K) ix_any (pe_ix (r := rIxA K) ix_any (pv 0) pe_int (fun _ _ => rfl)) (pv 3) (fun _ _ => rfl)) po_none (po_some pe_int)) (pe_slice sl_tup (pe_ix (r := rIxA K) ix_any (pe_ix (r := rIxA K) ix_any (pv 0) pe_int (fun _ _ => rfl)) (pv 3) (fun _ _ => rfl)) (po_some pe_int) po_none)))
    (pss_one (ps_ret (pe_ifExp (pt_cmpR op_eq (pe_ix (r := rIxA K) ix_any (pe_ix (r := rIxA K) ix_any (pv 1) pe_int (fun _ _ => rfl)) (pv 3) (fun _ _ => rfl)) pe_int (nomark _)) (pv 5) (pe_rev2 (pv 5))))))), ?_⟩
  have hvl : vs.length = c.ls.length := by rw [DpAll.length hl, List.length_map]
  have hvi : i < vs.length := by omega
  obtain ⟨d, ed, pd⟩ := DpAll.get hl (List.getElem?_eq_getElem hvi)
  rw [List.getElem?_map, lkAt_get hi] at ed
  cases ed
  obtain ⟨t, et, ht⟩ := ends_of pd
  refine ⟨_, rfl, m, _, rfl, hm, rfl, _, _, rfl, _, _, rfl, rfl, ?_⟩
  refine at_s (σ' := [some (.ref a), some (.ref b), some (.ref m), some (.int i), some (.str (wS r)), none]) rfl ?_
  have fin : ∀ (p : Addr), H p = none → gt s.ls (i : Int) = 0 → Q (.ref p) (upd H p (.tup (prV (endW r (lkAt c i))))) := fun p np e => by
    refine q p _ (same_new np) np ?_
    rw [upd_same]; unfold fromTo; rw [if_pos e]
  have fin2 : ∀ (p p2 : Addr), H p = none → ¬ gt s.ls (i : Int) = 0 → upd H p (.tup (prV (endW r (lkAt c i)))) p2 = none → Q (.ref p2) (upd (upd H p (.tup (prV (endW r (lkAt c i))))) p2 (.tup [.int (endW r (lkAt c i)).2, .int (endW r (lkAt c i)).1])) := fun p p2 np e np2 => by
    refine q p2 _ ((same_new np).trans (same_new np2)) ((same_new np).free np2) ?_
    rw [upd_same]; unfold fromTo; rw [if_neg e]; rfl
  refine ⟨_, rfl, rfl, _, rfl, ite2 (fun e => ?_) (fun e => ?_)⟩
  · have er : r = true := by rw [← isRed_wS r]; exact e
    subst er
    refine ⟨_, rfl, a, _, _, _, rfl, rfl, .inr ha, rfl, _, rfl, g, _, _, _, rfl, rfl, .inr hg, atI_nat (List.getElem?_eq_getElem hvi), 2, rfl, ?_⟩
    rw [et]
    refine ⟨t, _, rfl, ht, (fun z => absurd (show HT.sIx 4 4 (some 2) = 4 from z.2) (by decide)), fun p np => ?_⟩
    refine at_g (σ' := [some (.ref a), some (.ref b), some (.ref m), some (.int i), some (.str (wS true)), some (.ref p)]) rfl ?_
    have s1 : Same H (upd H p (.tup (prV (endW true (lkAt c i))))) := same_new np
    refine ⟨_, rfl, b, _, _, _, rfl, rfl, Same.sq2 s1 hb, rfl, _, rfl, bl, _, _, _, rfl, rfl, Same.sq2 s1 hbl, gt_at (by omega) (by omega), rfl, _, rfl, ite2 (fun e2 => ?_) (fun e2 => ?_)⟩
    · exact ⟨_, rfl, fin p np (V.int.inj (of_decide_eq_true e2))⟩
    · exact ⟨_, rfl, p, _, _, rfl, .inl (.inl upd_same), fun p2 np2 => fin2 p p2 np (fun z => e2 (decide_eq_true (by rw [z]))) np2⟩
  · have er : r = false := by
      cases r with
      | false => rfl
      | true => exact absurd (isRed_wS true) e
    subst er
    refine ⟨_, rfl, a, _, _, _, rfl, rfl, .inr ha, rfl, _, rfl, g, _, _, _, rfl, rfl, .inr hg, atI_nat (List.getElem?_eq_getElem hvi), 2, rfl, ?_⟩
    rw [et]
    refine ⟨t, _, rfl, ht, (fun z => absurd (show HT.sIx 4 0 (some 2) = 0 from z.1) (by decide)), fun p np => ?_⟩
    refine at_g (σ' := [some (.ref a), some (.ref b), some (.ref m), some (.int i), some (.str (wS false)), some (.ref p)]) rfl ?_
    have s1 : Same H (upd H p (.tup (prV (endW false (lkAt c i))))) := same_new np
    refine ⟨_, rfl, b, _, _, _, rfl, rfl, Same.sq2 s1 hb, rfl, _, rfl, bl, _, _, _, rfl, rfl, Same.sq2 s1 hbl, gt_at (by omega) (by omega), rfl, _, rfl, ite2 (fun e2 => ?_) (fun e2 => ?_)⟩
    · exact ⟨_, rfl, fin p np (V.int.inj (of_decide_eq_true e2))⟩
    · exact ⟨_, rfl, p, _, _, rfl, .inl (.inl upd_same), fun p2 np2 => fin2 p p2 np (fun z => e2 (decide_eq_true (by rw [z]))) np2⟩
/-! ### steps -/
abbrev nSt : List Str := ["_law_ship_way", "_law_lying_here", "_law_found", "_law_gate", "_law_k", "_law_hue"]
theorem scSt : FnScope nSt ["_law_ship_way", "_law_lying_here"] (defScope sSt) := ⟨rfl, rfl, rfl, by decide +kernel, rfl, by decide +kernel, by decide +kernel⟩
def spSt (K : PySem.W.Frag) : Sp := fun vs H Q _ => ∃ (v u : V) (c : Cn) (s : Sn) (B : Int), vs = [v, u] ∧ Dp K H v (cnD c) ∧ SnAny K H u s ∧ okCn 100 100 c ∧ okSn c B s ∧ ∀ p us H', Same H H' → H p = none → MvAt H' p (may c s c.ls.length) us → Q (.ref p) H'
theorem ok_st {f fe : Addr} {fd fde : FuncData} {k : Nat} (F : Fun K "_law_steps" "_law_steps" sSt f fd) (LF : Fns P w K mg base k "_law_from_to" ["_law_ship_way", "_law_lying_here", "_law_hop"] (spLF K) fe fde) (m_range : mg "range" = none) (m_len : mg "len" = none) (m_enumerate : mg "enumerate" = none) : FnOk P w K mg base CX0 (k + 1) f fd ["_law_ship_way", "_law_lying_here"] (spSt K) := by
  refine F.ok scSt (fun vs H Q E h => ?_) (fun cdv A outer s H vs Q E hr h => ?_)
  · obtain ⟨v, u, c, s, B, rfl, _⟩ := h
    rfl
  obtain ⟨v, u, c, s, B, rfl, hc, hs, okc, oks, q⟩ := h
  obtain ⟨a, g, vs, rfl, ha, hg, hl⟩ := cn_of hc
  have hvl : vs.length = c.ls.length := by rw [DpAll.length hl, List.length_map]
  refine ⟨_, (pss_cons (ps_set (i := 2) scSt.nd rfl (.inl rfl) (pe_lst pa_nil))
    (pss_cons (ps_for PassesOwn.never rfl (pi_range1 rfl m_range (pa_cons (pe_callB (r := rLenA K) call_lenA rfl m_len PySem.boot_len (pa_cons (pe_ix (r := rIxA K) ix_any (pv 0) pe_int (fun _ _ => rfl)) pa_nil)) pa_nil)) (pg_name (i := 3) scSt.nd rfl (.inl rfl))
    (pss_one (ps_for PassesOwn.never rfl (pi_enumT rfl m_enumerate (pa_cons (pe_tup (pa_cons pe_str (pa_cons pe_str pa_nil))) pa_nil)) (pg_any rfl (pgs_cons (pg_name (i := 4) scSt.nd rfl (.inl rfl)) (pgs_cons (pg_name (i := 5) scSt.nd rfl (.inl rfl)) pgs_nil)))
    (pss_one (ps_if (pt_cmpR op_gt (pe_ix (r := rIxA K) ix_any (pe_ix (r := rIxA K) ix_any (pv 1) (pv 4) (fun _ _ => rfl)) (pe_ix (r := rIxA K) ix_any (pe_fn LF hr rfl (pa_cons (pv 0) (pa_cons (pv 1) (pa_cons (pe_tup (pa_cons (pv 3) (pa_cons (pv 5) pa_nil))) pa_nil)))) pe_int (fun _ _ => rfl)) (fun _ _ => rfl)) pe_int (nomark _)) (pss_one (ps_expr (pe_bm PySem.F.plainAttrs_list PySem.F.slot_list_append PySem.F.type_list_append mt_append (pv 2) (pa_cons (pe_tup (pa_cons (pv 3) (pa_cons (pv 5) pa_nil))) pa_nil)))) pss_nil)))))
    (pss_one (ps_ret (pv 2))))), ?_⟩
  refine ⟨(by show 0 ≤ sizeLine; decide), fun tl ntl => ?_⟩
  have s1 : Same H (upd H tl (.lst [])) := same_new ntl
  refine at_g (σ' := [some (.ref a), some u, some (.ref tl), none, none, none]) rfl ?_
  have hnl : c.ls.length ≤ 100 := okc.n
  refine ⟨_, rfl, a, _, _, _, rfl, rfl, .inr (Same.tup s1 ha), rfl, g, vs, rfl, .inr (Same.tup s1 hg), _, rfl, by omega, by omega, for_it walk_range (fun i σ H3 => ∃ (us : List V) (y3 y4 y5 : Option V), σ = [some (.ref a), some u, some (.ref tl), y3, y4, y5] ∧ Same H H3 ∧ MvAt H3 tl (may c s i) us) ⟨[], none, none, none, rfl, s1, upd_same, rfl, fun j u h => by simp at h⟩ (fun _ _ _ _ _ => trivial) (fun i x σ H3 H4 hi h hy => ?_) (fun σ H3 h => ?_)⟩
  · obtain ⟨us, y3, y4, y5, rfl, sm, M⟩ := h
    obtain ⟨rfl, rfl⟩ := hy
    have hi2 : i < c.ls.length := by omega
    refine at_g (σ' := [some (.ref a), some u, some (.ref tl), some (.int (0 + i)), y4, y5]) rfl ?_
    rw [Int.zero_add]
    refine ⟨(by show 2 ≤ sizeLine; decide), fun tp ntp => ?_⟩
    have stp : Same H4 (upd H4 tp (.tup [.str "red", .str "blue"])) := same_new ntp
    have etp : (upd H4 tp (.tup [.str "red", .str "blue"])) tp = some (.tup [.str "red", .str "blue"]) := upd_same
    refine ⟨tp, [.str "red", .str "blue"], rfl, .inl (.inl etp), for_it (walk_enumT (xs := [.str "red", .str "blue"])) (fun j σ H5 => ∃ (us : List V) (y4 y5 : Option V), σ = [some (.ref a), some u, some (.ref tl), some (.int (i : Nat)), y4, y5] ∧ Same H H5 ∧ H5 tp = some (.tup [.str "red", .str "blue"]) ∧ MvAt H5 tl (may c s i ++ ([true, false].take j).filterMap fun r => if hasB c s i r = true then some (i, r) else none) us)
      ⟨us, y4, y5, rfl, sm.trans stp, etp, ?_⟩ (fun j σ H5 _ h => ?_) (fun j x σ H5 H6 hj h hy => ?_) (fun σ H5 h => ?_)⟩
    · rw [show ([true, false].take 0).filterMap (fun r => if hasB c s i r = true then some (i, r) else none) = [] from rfl, List.append_nil]
      exact ⟨stp _ _ M.e, M.l, fun j u hu => by
        obtain ⟨t, m, e1, e2, e3⟩ := M.d j u hu
        exact ⟨t, m, e1, e2, stp _ _ e3⟩⟩
    · obtain ⟨_, _, _, _, s5, e5, _⟩ := h
      exact .inl (.inl e5)
    · obtain ⟨us, y4, y5, rfl, s5, e5, M5⟩ := h
      obtain ⟨T, x1, x2, rfl, nT, rfl, q1, q2⟩ := hy
      have e1' : x1 = .int (j : Nat) := (Option.some.inj q1).symm
      subst e1'
      obtain ⟨r, rfl, er, hix⟩ : ∃ r : Bool, x2 = .str (wS r) ∧ [true, false][j]? = some r ∧ ∀ zr zb zl : V, [zr, zb, zl][j]? = some (if r = true then zr else zb) := by
        match j, hj, q2 with
        | 0, _, hx => exact ⟨true, (Option.some.inj hx).symm, rfl, fun _ _ _ => rfl⟩
        | 1, _, hx => exact ⟨false, (Option.some.inj hx).symm, rfl, fun _ _ _ => rfl⟩
      have etk : ([true, false].take (j + 1)) = [true, false].take j ++ [r] := by rw [List.take_succ, er]; rfl
      have sT : Same H5 (upd H5 T (.tup [.int (j : Nat), .str (wS r)])) := same_new nT
      refine ⟨T, _, rfl, .inr (.inl (.inl upd_same)), rfl, _, _, rfl, _, _, rfl, rfl, ?_⟩
      refine at_s (σ' := [some (.ref a), some u, some (.ref tl), some (.int (i : Nat)), some (.int (j : Nat)), some (.str (wS r))]) rfl ?_
      have s6 := s5.trans sT
      generalize upd H5 T (.tup [.int (j : Nat), .str (wS r)]) = H6 at sT s6
      obtain ⟨b, br, bb, bl, eu, hb, hbr, hbb, hbl⟩ := (hs.same s6).ex
      subst eu
      refine ⟨_, rfl, _, rfl, b, _, _, _, rfl, rfl, hb, atI_nat (hix _ _ _), _, rfl, _, rfl, _, rfl, _, rfl, (by show 2 ≤ sizeLine; decide), fun t nt => ?_⟩
      have st : Same H6 (upd H6 t (.tup (mvV (i, r)))) := same_new nt
      refine ⟨.ref a, .ref b, t, i, r, c, s, rfl, Dp.same (s6.trans st) _ hc, hs.same (s6.trans st), .inr (.inl (.inl upd_same)), hi2, by rw [oks.n]; exact hi2, fun p H7 s7 np ep => ?_⟩
      have s67 := st.trans s7
      have f := fromTo_ok okc (s := s) hi2 r
      have hlb := boats_len oks r
      have g1 : atI ((boatsW r s).map V.int) (fromTo c s i r).1 = some (.int (gt (boatsW r s) (fromTo c s i r).1)) := gt_at f.1.1 (by rw [hlb]; exact f.1.2)
      have hbt : Sq2 K H7 (if r = true then br else bb) ((boatsW r s).map V.int) := by
        cases r with
        | true => exact Same.sq2 s67 hbr
        | false => exact Same.sq2 s67 hbb
      refine ⟨p, _, _, _, rfl, rfl, .inr (.inl (.inl ep)), rfl, if r = true then br else bb, _, _, _, by cases r <;> rfl, rfl, hbt, g1, _, _, rfl, rfl, _, rfl, ?_⟩
      have s57 := sT.trans s67
      have M7 : MvAt H7 tl (may c s i ++ ([true, false].take j).filterMap fun r => if hasB c s i r = true then some (i, r) else none) us := ⟨s57 _ _ M5.e, M5.l, fun j u hu => by
        obtain ⟨t, m, e1, e2, e3⟩ := M5.d j u hu
        exact ⟨t, m, e1, e2, s57 _ _ e3⟩⟩
      show (if hasB c s i r = true then _ else _)
      cases hb' : hasB c s i r with
      | false =>
        refine iteF ⟨us, _, _, rfl, s5.trans s57, s57 _ _ e5, ?_⟩
        rw [etk, List.filterMap_append]
        have e0 : [r].filterMap (fun r => if hasB c s i r = true then some (i, r) else none) = [] := by simp [hb']
        rw [e0, List.append_nil]; exact M7
      | true =>
        refine iteT ⟨_, rfl, .inl ⟨rfl, _, SqL.of M7.e⟩, _, rfl, _, rfl, (by show 2 ≤ sizeLine; decide), fun t nt => ?_⟩
        have st : Same H7 (upd H7 t (.tup (mvV (i, r)))) := same_new nt
        have hul : us.length ≤ 1000 := by
          rw [M7.l, List.length_append]
          have h1 := may_len c s i
          have h2 : (([true, false].take j).filterMap fun r => if hasB c s i r = true then some (i, r) else none).length ≤ ([true, false].take j).length := List.length_filterMap_le _ _
          have h3 : ([true, false].take j).length ≤ 2 := by rw [List.length_take]; exact Nat.min_le_right _ _
          omega
        refine ⟨tl, us, _, rfl, rfl, st _ _ M7.e, small1000 hul, ?_⟩
        have htl : ∀ {b : Addr} {xs : List V}, H7 b = some (.tup xs) → upd (upd H7 t (.tup (mvV (i, r)))) tl (.lst (us ++ [.ref t])) b = some (.tup xs) := fun {b xs} e => by
          rw [upd_ne (fun z => by rw [z, M7.e] at e; cases e)]; exact st _ _ e
        have ttl : t ≠ tl := fun z => by rw [z, M7.e] at nt; cases nt
        refine ⟨us ++ [.ref t], _, _, rfl, fun b o e => ?_, htl (s57 _ _ e5), ?_⟩
        · rw [upd_ne (ne_of_none e ntl)]; exact st _ _ (s57 _ _ (s5 _ _ e))
        · rw [etk, List.filterMap_append]
          have e0 : [r].filterMap (fun r => if hasB c s i r = true then some (i, r) else none) = [(i, r)] := by simp [hb']
          rw [e0, ← List.append_assoc]
          exact M7.snoc (fun b xs e => htl e) (by rw [upd_ne ttl, upd_same]; rfl) upd_same
    · obtain ⟨us, y4, y5, rfl, s5, e5, M5⟩ := h
      refine ⟨us, _, _, _, rfl, s5, ?_⟩
      rw [may_succ]; exact M5
  · obtain ⟨us, y3, y4, y5, rfl, sm, M⟩ := h
    have en : ((vs.length : Int)).toNat = c.ls.length := by omega
    rw [en] at M
    exact ⟨_, rfl, q tl us H3 sm ntl M⟩
end
end XL
namespace XL
open PySem PySem.Spec PyProof.Rows L2
def trip (s : Sn) : List (List Int) := [s.rs, s.bs, s.ls]
def blI (r : Bool) : Int := if r = true then 0 else 1
theorem blI_eq (r : Bool) : (if decide (V.str (wS r) = V.str "blue") = true then (1 : Int) else 0) = blI r := by cases r <;> decide +kernel
/-! ### lists of our own, one by one -/
structure Own (H1 F : Hp) (zss : List (List Int)) (ls : List Addr) : Prop where
  nd : ls.Nodup
  at_ : ∀ (q : Nat) l, ls[q]? = some l → H1 l = none ∧ F l = some (.lst ((zss.getD q []).map V.int))
theorem Own.snoc {H1 F : Hp} {zss : List (List Int)} {ls : List Addr} {l : Addr} (h : Own H1 F zss ls) (s : Same H1 F) (nl : F l = none) : Own H1 (upd F l (.lst ((zss.getD ls.length []).map V.int))) zss (ls ++ [l]) := by
  have ne : ∀ x ∈ ls, x ≠ l := fun x hx z => by
    obtain ⟨q, hq⟩ := List.getElem?_of_mem hx
    have := (h.at_ q x hq).2
    rw [z, nl] at this; cases this
  refine ⟨List.nodup_append.mpr ⟨h.nd, by simp, fun x hx y hy e => ne x hx (by rw [e]; simpa using hy)⟩, fun q x hx => ?_⟩
  by_cases hq : q < ls.length
  · rw [List.getElem?_append_left hq] at hx
    obtain ⟨a, b⟩ := h.at_ q x hx
    exact ⟨a, by rw [upd_ne (ne x (List.mem_of_getElem? hx))]; exact b⟩
  · rw [List.getElem?_append_right (by omega)] at hx
    have hq0 : q - ls.length = 0 := by
      rcases Nat.eq_zero_or_pos (q - ls.length) with z | z
      · exact z
      · rw [List.getElem?_eq_none (by simp; omega)] at hx; cases hx
    rw [hq0] at hx
    have e : l = x := by simpa using hx
    have eq : q = ls.length := by omega
    subst e eq
    exact ⟨s.free nl, upd_same⟩
abbrev sWk : Stmt := topS 48
section
variable {P : Program} {w : World} {K : PySem.W.Frag} {mg : Str → Option Value} {base : Heap}
abbrev nBe : List Str := ["_law_ship_way", "_law_lying_here", "_law_hop", "_law_first", "_law_last", "_law_parts", "_law_k", "_law_part"]
theorem scBe : FnScope nBe ["_law_ship_way", "_law_lying_here", "_law_hop"] (defScope sBe) := ⟨rfl, rfl, rfl, by decide +kernel, rfl, by decide +kernel, by decide +kernel⟩
def spBe (K : PySem.W.Frag) : Sp := fun vs H Q _ => ∃ (v u : V) (m : Addr) (i : Nat) (r : Bool) (c : Cn) (s : Sn) (B : Int), vs = [v, u, .ref m] ∧ Dp K H v (cnD c) ∧ SnAny K H u s ∧ Sq2 K H m (mvV (i, r)) ∧ i < c.ls.length ∧ okCn 100 100 c ∧ okSn c B s ∧ ∀ v' H', Same H H' → Dp K H' v' (snD (goneS c s i r)) → Q v' H'
theorem ok_be {f fe : Addr} {fd fde : FuncData} {k : Nat} (F : Fun K "_law_behind" "_law_behind" sBe f fd) (LF : Fns P w K mg base k "_law_from_to" ["_law_ship_way", "_law_lying_here", "_law_hop"] (spLF K) fe fde) (m_list : mg "list" = none) (m_int : mg "int" = none) (m_tuple : mg "tuple" = none) : FnOk P w K mg base CX0 (k + 1) f fd ["_law_ship_way", "_law_lying_here", "_law_hop"] (spBe K) := by
  refine F.ok scBe (fun vs H Q E h => ?_) (fun cdv A outer s H vs Q E hr h => ?_)
  · obtain ⟨v, u, m, i, r, c, s, B, rfl, _⟩ := h
    rfl
  obtain ⟨v, u, m, i, r, c, s, B, rfl, hc, hs, hm, hi, okc, oks, q⟩ := h
  refine ⟨_, (pss_cons (ps_asg (pe_fn LF hr rfl (pa_cons (pv 0) (pa_cons (pv 1) (pa_cons (pv 2) pa_nil)))) (pg_any rfl (pgs_cons (pg_name (i := 3) scBe.nd rfl (.inl rfl)) (pgs_cons (pg_name (i := 4) scBe.nd rfl (.inl rfl)) pgs_nil))))
    (pss_cons (ps_par (i := 5) (j := 6) rfl scBe.nd rfl rfl (by decide) rfl rfl (pa_cons (pe_lc (own := [("_law_part", 7)]) (g := gName 7) (tt := tYes) rfl scBe.nd (pi_seq (pv 1)) (blkOk_by (own := [("_law_part", 7)]) (N := nBe) (sc := defScope sBe) (by decide +kernel)) (fun _ _ _ _ _ => (pg_name (i := 7) scBe.nd rfl (.inl rfl))) (fun _ _ _ _ _ => pts_nil) (fun _ _ _ _ _ => pe_hide (pe_callTy (r := rLstA K) call_listA rfl m_list boot_list (pa_cons (pv 7) pa_nil)))) (pa_cons (pe_callTy call_int1 rfl m_int boot_int' (pa_cons (pe_cmpR op_eq (pe_ix (r := rIxA K) ix_any (pv 2) pe_int (fun _ _ => rfl)) pe_str (nomark _)) pa_nil)) pa_nil)) rfl)
    (pss_cons (ps_asg (pe_op op_sub (pe_ix (r := rIxA K) ix_any (pe_ix (r := rIxA K) ix_any (pv 5) (pv 6) (fun _ _ => rfl)) (pv 3) (fun _ _ => rfl)) pe_int) (pg_sub (pe_ix (r := rIxA K) ix_any (pv 5) (pv 6) (fun _ _ => rfl)) (pv 3) set_list))
    (pss_cons (ps_asg (pe_op op_add (pe_ix (r := rIxA K) ix_any (pe_ix (r := rIxA K) ix_any (pv 5) (pv 6) (fun _ _ => rfl)) (pv 4) (fun _ _ => rfl)) pe_int) (pg_sub (pe_ix (r := rIxA K) ix_any (pv 5) (pv 6) (fun _ _ => rfl)) (pv 4) set_list))
    (pss_cons (ps_asg (pe_op op_sub pe_int (pe_ix (r := rIxA K) ix_any (pe_ix (r := rIxA K) ix_any (pv 5) pe_int (fun _ _ => rfl)) (pe_ix (r := rIxA K) ix_any (pv 2) pe_int (fun _ _ => rfl)) (fun _ _ => rfl))) (pg_sub (pe_ix (r := rIxA K) ix_any (pv 5) pe_int (fun _ _ => rfl)) (pe_ix (r := rIxA K) ix_any (pv 2) pe_int (fun _ _ => rfl)) set_list))
    (pss_one (ps_ret (pe_callTy (r := rTupA K) call_tupleA rfl m_tuple boot_tuple (pa_cons (pe_lc (own := [("_law_part", 7)]) (g := gName 7) (tt := tYes) rfl scBe.nd (pi_seq (pv 5)) (blkOk_by (own := [("_law_part", 7)]) (N := nBe) (sc := defScope sBe) (by decide +kernel)) (fun _ _ _ _ _ => (pg_name (i := 7) scBe.nd rfl (.inl rfl))) (fun _ _ _ _ _ => pts_nil) (fun _ _ _ _ _ => pe_hide (pe_callTy (r := rTupA K) call_tupleA rfl m_tuple boot_tuple (pa_cons (pv 7) pa_nil)))) pa_nil))))))))), ?_⟩
  refine ⟨_, rfl, _, rfl, _, rfl, v, u, m, i, r, c, s, rfl, hc, hs, hm, hi, by rw [oks.n]; exact hi, fun p H1 s1 np ep => ?_⟩
  refine ⟨p, _, rfl, .inr (.inl (.inl ep)), rfl, _, _, rfl, _, _, rfl, rfl, ?_⟩
  refine at_s (σ' := [some v, some u, some (.ref m), some (.int (fromTo c s i r).1), some (.int (fromTo c s i r).2), none, none, none]) rfl ?_
  obtain ⟨b, br, bb, bl, rfl, hb, hbr, hbb, hbl⟩ := (hs.same s1).ex
  have hpart : ∀ (j : Nat) (x : V), [V.ref br, V.ref bb, V.ref bl][j]? = some x → ∃ z, x = .ref z ∧ Sq2 K H1 z (((trip s).getD j []).map V.int) := by
    intro j x hx
    match j, hx with
    | 0, hx => exact ⟨br, (Option.some.inj hx).symm, hbr⟩
    | 1, hx => exact ⟨bb, (Option.some.inj hx).symm, hbb⟩
    | 2, hx => exact ⟨bl, (Option.some.inj hx).symm, hbl⟩
    | j + 3, hx => simp at hx
  refine ⟨_, rfl, b, _, rfl, hb, fun J wk => lc_acc wk (fun j acc F => Same H1 F ∧ ∃ ls : List Addr, acc = ls.map V.ref ∧ ls.length = j ∧ Own H1 F (trip s) ls) (by show 3 < sizeLine; decide) ⟨Same.refl _, [], rfl, rfl, ⟨List.Pairwise.nil, fun q l h => by simp at h⟩⟩ (fun j F D acc iv nF => ?_) (fun j x D acc F H' hj nD iv nF hy B hB => ?_) (fun D ys F nD iv nF hyl => ?_)⟩
  · have sD : Same _ (upd F D (.lst acc)) := iv.1.trans (same_new nF)
    exact ⟨fun _ z => sD.seq z, fun z => Same.tup sD z⟩
  · obtain ⟨rfl, hx⟩ := hy
    obtain ⟨sF, ls, rfl, ll, ow⟩ := iv
    obtain ⟨z, rfl, hz⟩ := hpart j x hx
    refine hB _ F rfl nF fun Qt hq => ?_
    refine ⟨_, rfl, z, _, rfl, Same.sq2 sF hz, fun l nl => hq _ _ ⟨sF.trans (same_new nl), ls ++ [l], by rw [List.map_append]; rfl, by rw [List.length_append, ll]; rfl, ?_⟩⟩
    have := ow.snoc sF nl
    rw [ll] at this; exact this
  obtain ⟨sF, ls, rfl, ll, ow⟩ := iv
  obtain ⟨l0, l1, l2, rfl⟩ : ∃ l0 l1 l2, ls = [l0, l1, l2] := by
    match ls, ll with
    | [l0, l1, l2], _ => exact ⟨l0, l1, l2, rfl⟩
  obtain ⟨n0, f0⟩ := ow.at_ 0 l0 rfl
  obtain ⟨n1, f1⟩ := ow.at_ 1 l1 rfl
  obtain ⟨n2, f2⟩ := ow.at_ 2 l2 rfl
  have d01 : l0 ≠ l1 := fun z => by have := ow.nd; rw [z] at this; simp at this
  have d02 : l0 ≠ l2 := fun z => by have := ow.nd; rw [z] at this; simp at this
  have d12 : l1 ≠ l2 := fun z => by have := ow.nd; rw [z] at this; simp at this
  have f0' : F l0 = some (.lst (s.rs.map V.int)) := f0
  have f1' : F l1 = some (.lst (s.bs.map V.int)) := f1
  have f2' : F l2 = some (.lst (s.ls.map V.int)) := f2
  have sD : Same F (upd F D (.lst ([l0, l1, l2].map V.ref))) := same_new nF
  have g0 := sD _ _ f0'
  have g1 := sD _ _ f1'
  have g2 := sD _ _ f2'
  have eD : (upd F D (.lst ([l0, l1, l2].map V.ref))) D = some (.lst [.ref l0, .ref l1, .ref l2]) := upd_same
  have h0D : l0 ≠ D := ne_of_none f0' nF
  have h1D : l1 ≠ D := ne_of_none f1' nF
  have h2D : l2 ≠ D := ne_of_none f2' nF
  have s1D := sF.trans sD
  have hmD : Sq2 K (upd F D (.lst ([l0, l1, l2].map V.ref))) m (mvV (i, r)) := Same.sq2 (s1.trans s1D) hm
  generalize upd F D (.lst ([l0, l1, l2].map V.ref)) = H2 at sD g0 g1 g2 eD s1D hmD
  -- k
  refine ⟨_, rfl, m, _, _, _, rfl, rfl, hmD, rfl, rfl, .inr ⟨_, rfl, ?_⟩⟩
  rw [blI_eq]
  refine ⟨_, _, rfl, ?_⟩
  refine at_s (σ' := [some v, some (.ref b), some (.ref m), some (.int (fromTo c s i r).1), some (.int (fromTo c s i r).2), some (.ref D), some (.int (blI r)), none]) rfl ?_
  have fo := fromTo_ok okc (s := s) hi r
  have hlb := boats_len oks r
  have s3i : (i : Int) < s.ls.length := by rw [oks.n]; omega
  obtain ⟨lw, hlw, ew, hwD, hw2, hnw⟩ : ∃ lw, atI [V.ref l0, V.ref l1, V.ref l2] (blI r) = some (.ref lw) ∧ H2 lw = some (.lst ((boatsW r s).map V.int)) ∧ lw ≠ D ∧ lw ≠ l2 ∧ H1 lw = none := by
    cases r with
    | true => exact ⟨l0, rfl, g0, h0D, d02, n0⟩
    | false => exact ⟨l1, rfl, g1, h1D, d12, n1⟩
  have L1 : (fromTo c s i r).1 < ((boatsW r s).length : Int) := by rw [hlb]; exact fo.1.2
  have L2 : (fromTo c s i r).2 < ((boatsW r s).length : Int) := by rw [hlb]; exact fo.2.2
  refine ⟨_, rfl, _, rfl, D, _, _, _, rfl, rfl, .inl (SqL.of eD), hlw, _, rfl, lw, _, _, _, rfl, rfl, .inl (SqL.of ew), gt_at fo.1.1 L1, _, _, rfl, rfl, ?_⟩
  refine ⟨_, rfl, _, rfl, D, _, _, _, rfl, rfl, .inl (SqL.of eD), hlw, _, rfl, lw, _, _, _, rfl, rfl, ew, set_ix (x := 0) fo.1.1 L1, ?_⟩
  rw [set_ints]
  have L2' : (fromTo c s i r).2 < (((boatsW r s).set (fromTo c s i r).1.toNat (gt (boatsW r s) (fromTo c s i r).1 - 1)).length : Int) := by rw [List.length_set]; exact L2
  have eD2 : upd H2 lw (.lst (((boatsW r s).set (fromTo c s i r).1.toNat (gt (boatsW r s) (fromTo c s i r).1 - 1)).map V.int)) D = some (.lst [.ref l0, .ref l1, .ref l2]) := by rw [upd_ne (Ne.symm hwD)]; exact eD
  refine ⟨_, rfl, _, rfl, D, _, _, _, rfl, rfl, .inl (SqL.of eD2), hlw, _, rfl, lw, _, _, _, rfl, rfl, .inl (SqL.of upd_same), gt_at fo.2.1 L2', _, _, rfl, rfl, ?_⟩
  refine ⟨_, rfl, _, rfl, D, _, _, _, rfl, rfl, .inl (SqL.of eD2), hlw, _, rfl, lw, _, _, _, rfl, rfl, upd_same, set_ix (x := 0) fo.2.1 L2', ?_⟩
  rw [set_ints, upd_upd, show ((boatsW r s).set (fromTo c s i r).1.toNat (gt (boatsW r s) (fromTo c s i r).1 - 1)).set (fromTo c s i r).2.toNat (gt ((boatsW r s).set (fromTo c s i r).1.toNat (gt (boatsW r s) (fromTo c s i r).1 - 1)) (fromTo c s i r).2 + 1) = mov (boatsW r s) (fromTo c s i r) from rfl]
  have eD3 : upd H2 lw (.lst ((mov (boatsW r s) (fromTo c s i r)).map V.int)) D = some (.lst [.ref l0, .ref l1, .ref l2]) := by rw [upd_ne (Ne.symm hwD)]; exact eD
  have e23 : upd H2 lw (.lst ((mov (boatsW r s) (fromTo c s i r)).map V.int)) l2 = some (.lst (s.ls.map V.int)) := by rw [upd_ne (Ne.symm hw2)]; exact g2
  have hm3 : Sq2 K (upd H2 lw (.lst ((mov (boatsW r s) (fromTo c s i r)).map V.int))) m (mvV (i, r)) := Same.sq2 (fun c' o e => by rw [upd_ne (ne_of_none e hnw)]; exact s1D _ _ e) (Same.sq2 s1 hm)
  refine ⟨_, rfl, D, _, _, _, rfl, rfl, .inl (SqL.of eD3), rfl, _, rfl, m, _, _, _, rfl, rfl, hm3, rfl, l2, _, _, _, rfl, rfl, .inl (SqL.of e23), gt_at (by omega) s3i, _, _, rfl, rfl, ?_⟩
  refine ⟨_, rfl, D, _, _, _, rfl, rfl, .inl (SqL.of eD3), rfl, _, rfl, m, _, _, _, rfl, rfl, hm3, rfl, l2, _, _, _, rfl, rfl, e23, set_ix (x := 0) (by omega) s3i, ?_⟩
  rw [set_ints]
  -- three lists behind it
  have S4 : Same H1 (upd (upd H2 lw (.lst ((mov (boatsW r s) (fromTo c s i r)).map V.int))) l2 (.lst ((flip1 s.ls i).map V.int))) := fun c' o e => by
    rw [upd_ne (ne_of_none e n2), upd_ne (ne_of_none e hnw)]; exact s1D _ _ e
  have hl4 : ∀ (j : Nat) (x : V), [V.ref l0, V.ref l1, V.ref l2][j]? = some x → ∃ z, x = .ref z ∧ (upd (upd H2 lw (.lst ((mov (boatsW r s) (fromTo c s i r)).map V.int))) l2 (.lst ((flip1 s.ls i).map V.int))) z = some (.lst (((trip (goneS c s i r)).getD j []).map V.int)) := by
    intro j x hx
    cases r with
    | true =>
      have ew0 : lw = l0 := by have := Option.some.inj hlw; exact (V.ref.inj this).symm
      subst ew0
      match j, hx with
      | 0, hx => exact ⟨lw, (Option.some.inj hx).symm, by rw [upd_ne d02, upd_same]; rfl⟩
      | 1, hx => exact ⟨l1, (Option.some.inj hx).symm, by rw [upd_ne d12, upd_ne (Ne.symm d01)]; exact g1⟩
      | 2, hx => exact ⟨l2, (Option.some.inj hx).symm, upd_same⟩
      | j + 3, hx => simp at hx
    | false =>
      have ew0 : lw = l1 := by have := Option.some.inj hlw; exact (V.ref.inj this).symm
      subst ew0
      match j, hx with
      | 0, hx => exact ⟨l0, (Option.some.inj hx).symm, by rw [upd_ne d02, upd_ne d01]; exact g0⟩
      | 1, hx => exact ⟨lw, (Option.some.inj hx).symm, by rw [upd_ne d12, upd_same]; rfl⟩
      | 2, hx => exact ⟨l2, (Option.some.inj hx).symm, upd_same⟩
      | j + 3, hx => simp at hx
  have eD4 : upd (upd H2 lw (.lst ((mov (boatsW r s) (fromTo c s i r)).map V.int))) l2 (.lst ((flip1 s.ls i).map V.int)) D = some (.lst [.ref l0, .ref l1, .ref l2]) := by rw [upd_ne (Ne.symm h2D)]; exact eD3
  have hfl : s.ls.set ((i : Nat) : Int).toNat (1 - gt s.ls ((i : Nat) : Int)) = flip1 s.ls i := by unfold flip1; rw [show ((i : Nat) : Int).toNat = i by omega]
  rw [hfl]
  generalize upd (upd H2 lw (.lst ((mov (boatsW r s) (fromTo c s i r)).map V.int))) l2 (.lst ((flip1 s.ls i).map V.int)) = H4 at S4 hl4 eD4
  refine ⟨_, rfl, D, _, rfl, .inl (SqL.of eD4), fun J wk => lc_map wk Same (fun a b => a.trans b) (fun j y F => ∃ zs, (trip (goneS c s i r))[j]? = some zs ∧ Dp K F y (.tuple (intsD zs))) (fun j y A B s ⟨zs, e, p⟩ => ⟨zs, e, Dp.same s _ p⟩) (by show 3 < sizeLine; decide) (Same.refl _) (fun F D acc sF nF => ?_) (fun j x D acc F H' hj nD sF nF hy B hB => ?_) (fun D2 ys F nD sF nF hyl hR => ?_)⟩
  · have sD : Same _ (upd F D (.lst acc)) := sF.trans (same_new nF)
    exact ⟨fun _ z => sD.seq z, fun z => Same.tup sD z⟩
  · obtain ⟨rfl, hx⟩ := hy
    obtain ⟨z, rfl, hz⟩ := hl4 j x hx
    refine hB _ F rfl nF fun Qt hq => ?_
    have htr : (trip (goneS c s i r))[j]? = some ((trip (goneS c s i r)).getD j []) := by
      have : j < (trip (goneS c s i r)).length := hj
      rw [List.getD_eq_getElem?_getD, List.getElem?_eq_getElem this]; rfl
    exact ⟨_, rfl, z, _, rfl, .inl ⟨SqL.of (sF _ _ hz), fun p np => hq _ _ (same_new np) ⟨_, htr, .tup (.inl (.inl upd_same)) (dp_ints' _)⟩⟩⟩
  · obtain ⟨y0, y1, y2, rfl⟩ : ∃ y0 y1 y2, ys = [y0, y1, y2] := by
      match ys, hyl with
      | [y0, y1, y2], _ => exact ⟨y0, y1, y2, rfl⟩
    obtain ⟨z0, e0, p0⟩ := hR 0 y0 rfl
    obtain ⟨z1, e1, p1⟩ := hR 1 y1 rfl
    obtain ⟨z2, e2, p2⟩ := hR 2 y2 rfl
    cases (show some (goneS c s i r).rs = some z0 from e0)
    cases (show some (goneS c s i r).bs = some z1 from e1)
    cases (show some (goneS c s i r).ls = some z2 from e2)
    have sa : Same F (upd F D2 (.lst [y0, y1, y2])) := same_new nF
    refine ⟨D2, _, rfl, .inl ⟨SqL.of upd_same, fun t nt => ?_⟩⟩
    have sb : Same _ (upd (upd F D2 (.lst [y0, y1, y2])) t (.tup [y0, y1, y2])) := same_new nt
    have sab := sa.trans sb
    exact q _ _ (s1.trans (S4.trans (sF.trans sab))) (.tup (.inl (.inl upd_same)) (.cons (Dp.same sab _ p0) (.cons (Dp.same sab _ p1) (.cons (Dp.same sab _ p2) .nil))))
end
end XL
namespace XL
open PySem PySem.Spec PyProof.Rows L2
/-! ### rows of goings -/
def goM (c : Cn) (s : Sn) (m : Mv) : Sn := goneS c s m.1 m.2
def runS (c : Cn) (s : Sn) (ms : List Mv) : Sn := ms.foldl (goM c) s
def okRun (c : Cn) : Sn → List Mv → Prop
  | _, [] => True
  | s, m :: ms => (m.1 < c.ls.length ∧ hasB c s m.1 m.2 = true) ∧ okRun c (goM c s m) ms
theorem runS_snoc (c : Cn) (s : Sn) (ms : List Mv) (m : Mv) : runS c s (ms ++ [m]) = goM c (runS c s ms) m := by unfold runS; rw [List.foldl_append]; rfl
theorem okRun_snoc {c : Cn} {m : Mv} : ∀ {s : Sn} {ms : List Mv}, okRun c s ms → m.1 < c.ls.length → hasB c (runS c s ms) m.1 m.2 = true → okRun c s (ms ++ [m])
  | s, [], _, h1, h2 => ⟨⟨h1, h2⟩, trivial⟩
  | s, m' :: ms, h, h1, h2 => ⟨h.1, okRun_snoc (s := goM c s m') (ms := ms) h.2 h1 h2⟩
theorem runS_ok {c : Cn} {W U : Nat} (okc : okCn W U c) : ∀ {ms : List Mv} {s : Sn} {B : Int}, okSn c B s → okRun c s ms → okSn c (B + ms.length) (runS c s ms)
  | [], s, B, h, _ => by
    show okSn c (B + ((0 : Nat) : Int)) s
    rw [show B + ((0 : Nat) : Int) = B by omega]; exact h
  | m :: ms, s, B, h, r => by
    have h2 := runS_ok okc (ms := ms) (goneS_ok okc h r.1.1 m.2 r.1.2) r.2
    rw [List.length_cons, show B + ((ms.length + 1 : Nat) : Int) = B + 1 + (ms.length : Int) by omega]
    exact h2
def bump (zs : List Int) (i : Nat) (x : Int) : List Int := zs.set i (gt zs i + x)
theorem bump_len (zs : List Int) (i : Nat) (x : Int) : (bump zs i x).length = zs.length := by unfold bump; rw [List.length_set]
abbrev Nt := List Int × List Int
/-- one going in the book -/
def note (s : Sn) (p : Nt) (m : Mv) : Nt := if m.2 = true then (bump p.1 m.1 (1 - 2 * gt s.ls m.1), p.2) else (p.1, bump p.2 m.1 (1 - 2 * gt s.ls m.1))
def book (c : Cn) (s : Sn) (p : Nt) (ms : List Mv) : Sn × Nt := ms.foldl (fun q m => (goM c q.1 m, note q.1 q.2 m)) (s, p)
theorem book_snoc (c : Cn) (s : Sn) (p : Nt) (ms : List Mv) (m : Mv) : book c s p (ms ++ [m]) = (goM c (book c s p ms).1 m, note (book c s p ms).1 (book c s p ms).2 m) := by unfold book; rw [List.foldl_append]; rfl
theorem book_run (c : Cn) : ∀ (ms : List Mv) (s : Sn) (p : Nt), (book c s p ms).1 = runS c s ms
  | [], _, _ => rfl
  | m :: ms, s, p => by
    show (book c (goM c s m) (note s p m) ms).1 = runS c (goM c s m) ms
    exact book_run c ms _ _
def zer (n : Nat) : List Int := List.replicate n 0
theorem rep_zero : ∀ n : Nat, (List.replicate n [V.int 0]).flatten = (zer n).map V.int
  | 0 => rfl
  | n + 1 => by
    rw [List.replicate_succ, List.flatten_cons, rep_zero n]
    show V.int 0 :: (zer n).map V.int = (zer (n + 1)).map V.int
    unfold zer
    rw [List.replicate_succ]; rfl
theorem note_len (s : Sn) (p : Nt) (m : Mv) : (note s p m).1.length = p.1.length ∧ (note s p m).2.length = p.2.length := by
  unfold note
  split
  · exact ⟨bump_len _ _ _, rfl⟩
  · exact ⟨rfl, bump_len _ _ _⟩
theorem book_len (c : Cn) : ∀ (ms : List Mv) (s : Sn) (p : Nt), (book c s p ms).2.1.length = p.1.length ∧ (book c s p ms).2.2.length = p.2.length
  | [], _, _ => ⟨rfl, rfl⟩
  | m :: ms, s, p => by
    have h := book_len c ms (goM c s m) (note s p m)
    have h2 := note_len s p m
    show (book c (goM c s m) (note s p m) ms).2.1.length = _ ∧ (book c (goM c s m) (note s p m) ms).2.2.length = _
    exact ⟨h.1.trans h2.1, h.2.trans h2.2⟩
/-! ### goings as data -/
theorem wS_ok (r : Bool) : PyData.strOk (wS r) = true := by cases r <;> decide +kernel
theorem mv_lay (m : Mv) : (mvD m).canLay0 = true := by simp [mvD, PyData.canLay0, PyData.canLayAll0, wS_ok]
theorem mv_depth (m : Mv) : (mvD m).depth = 1 := by simp [mvD, PyData.depth, PyData.depthAll]
theorem mvs_lay : ∀ ms : List Mv, PyData.canLayAll0 (ms.map mvD) = true
  | [] => by simp [PyData.canLayAll0]
  | m :: ms => by simp [PyData.canLayAll0, mv_lay m, mvs_lay ms]
theorem mvs_depth : ∀ ms : List Mv, PyData.depthAll (ms.map mvD) ≤ 1
  | [] => by simp [PyData.depthAll]
  | m :: ms => by
    have h1 := mvs_depth ms; have h2 := mv_depth m
    simp only [List.map_cons, PyData.depthAll]; omega
theorem mvs_shaped (ms : List Mv) : SeqAt.shaped (.list (ms.map mvD)) = true := by
  have h1 := mvs_depth ms
  have h2 : PyData.depth (.list (ms.map mvD)) ≤ 64 := by simp only [PyData.depth]; omega
  show (PyData.canLay0 (.list (ms.map mvD)) && decide (PyData.depth (.list (ms.map mvD)) ≤ 64)) = true
  rw [Bool.and_eq_true]; exact ⟨by simp only [PyData.canLay0]; exact mvs_lay ms, decide_eq_true h2⟩
theorem mv_shaped (m : Mv) : SeqAt.shaped (mvD m) = true := by
  show (PyData.canLay0 (mvD m) && decide (PyData.depth (mvD m) ≤ 64)) = true
  rw [mv_lay, mv_depth]; rfl
theorem mvs_nil (ms : List Mv) : PyData.eqv (.list (ms.map mvD)) (.list []) = ms.isEmpty := by
  cases ms with
  | nil => simp [PyData.eqv, PyData.eqvAll]
  | cons l ls => simp [PyData.eqv, PyData.eqvAll]
section
variable {P : Program} {w : World} {K : PySem.W.Frag} {mg : Str → Option Value} {base : Heap}
theorem MvAt.move {H H' : Hp} {a : Addr} {ms : List Mv} {us : List V} (h : MvAt H a ms us) (ea : H' a = some (.lst us)) (t : Tp H H') : MvAt H' a ms us := ⟨ea, h.l, fun j u hu => by
  obtain ⟨x, m, e1, e2, e3⟩ := h.d j u hu
  exact ⟨x, m, e1, e2, t.t _ _ e3⟩⟩
abbrev nWk : List Str := ["_law_box_here", "_law_ship_way", "_law_lying_here", "_law_most", "_law_went_so", "_law_nets", "_law_turn", "_law_some", "_law_hop", "_law_part"]
theorem scWk : FnScope nWk ["_law_box_here", "_law_ship_way", "_law_lying_here", "_law_most"] (defScope sWk) := ⟨rfl, rfl, rfl, by decide +kernel, rfl, by decide +kernel, by decide +kernel⟩
/-- between two turns of a walk -/
structure Wk (K : PySem.W.Frag) (b wl nl nr nb : Addr) (H0 H : Hp) (c : Cn) (s : Sn) (u : V) (ms : List Mv) (us : List V) : Prop where
  dr : Dr b H0 H
  du : Dp K H u (snD (runS c s ms))
  mv : MvAt H wl ms us
  el : H nl = some (.lst [.ref nr, .ref nb])
  er : H nr = some (.lst ((book c s (zer c.ls.length, zer c.ls.length) ms).2.1.map V.int))
  eb : H nb = some (.lst ((book c s (zer c.ls.length, zer c.ls.length) ms).2.2.map V.int))
  ok : okRun c s ms
  fr : H0 wl = none ∧ H0 nl = none ∧ H0 nr = none ∧ H0 nb = none
  ne : (wl ≠ b ∧ nl ≠ b ∧ nr ≠ b ∧ nb ≠ b) ∧ (wl ≠ nl ∧ wl ≠ nr ∧ wl ≠ nb ∧ nl ≠ nr ∧ nl ≠ nb ∧ nr ≠ nb)
theorem Wk.step {b wl nl nr nb : Addr} {H0 H H' : Hp} {c : Cn} {s : Sn} {u : V} {ms : List Mv} {us : List V} (k : Wk K b wl nl nr nb H0 H c s u ms us) (d : Dr b H H') : Wk K b wl nl nr nb H0 H' c s u ms us :=
  ⟨k.dr.trans d, Dp.tp (d.tp k.dr.box) _ (noL_sn _) k.du, k.mv.move (d.same _ _ k.ne.1.1 k.mv.e) (d.tp k.dr.box), d.same _ _ k.ne.1.2.1 k.el, d.same _ _ k.ne.1.2.2.1 k.er, d.same _ _ k.ne.1.2.2.2 k.eb, k.ok, k.fr, k.ne⟩
def spWk (K : PySem.W.Frag) : Sp := fun vs H Q _ => ∃ (b : Addr) (v u : V) (n : Nat) (c : Cn) (s : Sn) (B : Int), vs = [.ref b, v, u, .int n] ∧ Bx H b ∧ Dp K H v (cnD c) ∧ Dp K H u (snD s) ∧ okCn 100 100 c ∧ okSn c B s ∧ n ≤ 400 ∧
  ∀ (ms : List Mv) (t wl nl nr nb : Addr) (u' : V) (us : List V) (H1 H' : Hp), ms.length ≤ n → Wk K b wl nl nr nb H H1 c s u' ms us → Same H1 H' → H1 t = none → H' t = some (.tup [u', .ref wl, .ref nr, .ref nb]) → Q (.ref t) H'
theorem ok_wk {f fs fo fb : Addr} {fd fds fdo fdb : FuncData} {k : Nat} (F : Fun K "_law_walk" "_law_walk" sWk f fd) (St : Fns P w K mg base k "_law_steps" ["_law_ship_way", "_law_lying_here"] (spSt K) fs fds) (Of : Fns P w K mg base k "_law_of" ["_law_box_here", "_law_some"] (spOf K) fo fdo)
    (Be : Fns P w K mg base k "_law_behind" ["_law_ship_way", "_law_lying_here", "_law_hop"] (spBe K) fb fdb) (m_range : mg "range" = none) (m_len : mg "len" = none) (m_int : mg "int" = none) : FnOk P w K mg base CX0 (k + 1) f fd ["_law_box_here", "_law_ship_way", "_law_lying_here", "_law_most"] (spWk K) := by
  refine F.ok scWk (fun vs H Q E h => ?_) (fun cdv A outer s H vs Q E hr h => ?_)
  · obtain ⟨b, v, u, n, c, s, B, rfl, _⟩ := h
    rfl
  obtain ⟨b, v, u, n, c, s, B, rfl, hb, hc, hu, okc, oks, hn, q⟩ := h
  have hc0 := hc
  obtain ⟨a, g, vs, rfl, ha, hg, hl⟩ := cn_of hc
  have hvl : vs.length = c.ls.length := by rw [DpAll.length hl, List.length_map]
  have hnl : c.ls.length ≤ 100 := okc.n
  refine ⟨_, (pss_cons (ps_par (i := 4) (j := 5) rfl scWk.nd rfl rfl (by decide) rfl rfl (pa_cons (pe_lst pa_nil) (pa_cons (pe_lc (own := [("_law_part", 9)]) (g := gName 9) (tt := tYes) rfl scWk.nd (pi_range1 rfl m_range (pa_cons pe_int pa_nil)) (blkOk_by (own := [("_law_part", 9)]) (N := nWk) (sc := defScope sWk) (by decide +kernel)) (fun _ _ _ _ _ => (pg_name (i := 9) scWk.nd rfl (.inl rfl))) (fun _ _ _ _ _ => pts_nil) (fun _ _ _ _ _ => pe_hide (pe_op op_rep (pe_lst (pa_cons pe_int pa_nil)) (pe_callB (r := rLenA K) call_lenA rfl m_len PySem.boot_len (pa_cons (pe_ix (r := rIxA K) ix_any (pv 1) pe_int (fun _ _ => rfl)) pa_nil))))) pa_nil)) rfl)
    (pss_cons (ps_for PassesOwn.never rfl (pi_range1 rfl m_range (pa_cons (pv 3) pa_nil)) (pg_name (i := 6) scWk.nd rfl (.inl rfl))
    (pss_cons (ps_set (i := 7) scWk.nd rfl (.inl rfl) (pe_fn St hr rfl (pa_cons (pv 1) (pa_cons (pv 2) pa_nil))))
    (pss_one (ps_if (pt_cmpR (op_neD hr.units) (pv 7) (pe_lst pa_nil) (nomark _)) (pss_cons (ps_set (i := 8) scWk.nd rfl (.inl rfl) (pe_fn Of hr rfl (pa_cons (pv 0) (pa_cons (pv 7) pa_nil))))
    (pss_cons (ps_augS (pe_ix (r := rIxA K) ix_any (pv 5) (pe_callTy call_int1 rfl m_int boot_int' (pa_cons (pe_cmpR op_eq (pe_ix (r := rIxA K) ix_any (pv 8) pe_int (fun _ _ => rfl)) pe_str (nomark _)) pa_nil)) (fun _ _ => rfl)) (pe_ix (r := rIxA K) ix_any (pv 8) pe_int (fun _ _ => rfl)) get_list (pe_op op_sub pe_int (pe_op op_mul pe_int (pe_ix (r := rIxA K) ix_any (pe_ix (r := rIxA K) ix_any (pv 2) pe_int (fun _ _ => rfl)) (pe_ix (r := rIxA K) ix_any (pv 8) pe_int (fun _ _ => rfl)) (fun _ _ => rfl)))) ip_add set_list)
    (pss_cons (ps_set (i := 2) scWk.nd rfl (.inl rfl) (pe_fn Be hr rfl (pa_cons (pv 1) (pa_cons (pv 2) (pa_cons (pv 8) pa_nil)))))
    (pss_one (ps_expr (pe_bm PySem.F.plainAttrs_list PySem.F.slot_list_append PySem.F.type_list_append mt_append (pv 4) (pa_cons (pv 8) pa_nil))))))) pss_nil))))
    (pss_one (ps_ret (pe_tup (pa_cons (pv 2) (pa_cons (pv 4) (pa_cons (pe_ix (r := rIxA K) ix_any (pv 5) pe_int (fun _ _ => rfl)) (pa_cons (pe_ix (r := rIxA K) ix_any (pv 5) pe_int (fun _ _ => rfl)) pa_nil))))))))), ?_⟩
  refine ⟨(by show 0 ≤ sizeLine; decide), fun wl nwl => ?_⟩
  have s1 : Same H (upd H wl (.lst [])) := same_new nwl
  have e1 : (upd H wl (.lst [])) wl = some (.lst []) := upd_same
  generalize upd H wl (.lst []) = H1 at s1 e1
  refine ⟨2, rfl, by decide, by decide, lc_acc walk_range (fun j acc F => Same H1 F ∧ ∃ ls : List Addr, acc = ls.map V.ref ∧ ls.length = j ∧ Own H1 F [zer c.ls.length, zer c.ls.length] ls) (by decide) ⟨Same.refl _, [], rfl, rfl, ⟨List.Pairwise.nil, fun q l h => by simp at h⟩⟩ (fun _ _ _ _ _ _ => trivial) (fun j x D acc F H' hj nD iv nF hy B hB => ?_) (fun nl ys F nD iv nF hyl => ?_)⟩
  · obtain ⟨rfl, rfl⟩ := hy
    obtain ⟨sF, ls, rfl, ll, ow⟩ := iv
    refine hB _ F rfl nF fun Qt hq => ?_
    refine ⟨(by show 1 ≤ sizeLine; decide), fun z nz => ?_⟩
    have sz : Same F (upd F z (.lst [.int 0])) := same_new nz
    refine ⟨_, rfl, a, _, _, _, rfl, rfl, .inr (Same.tup (s1.trans (sF.trans sz)) ha), rfl, g, vs, rfl, .inr (Same.tup (s1.trans (sF.trans sz)) hg), z, _, _, rfl, rfl, upd_same, by omega, by omega, ?_, fun l nl' => ?_⟩
    · show 1 * _ ≤ sizeLine
      rw [sizeLine_eq]; omega
    rw [show ((vs.length : Nat) : Int).toNat = c.ls.length by omega, rep_zero]
    have hj2 : j < 2 := hj
    have ow2 : Own H1 (upd F z (.lst [.int 0])) [zer c.ls.length, zer c.ls.length] ls := ⟨ow.nd, fun q l h => ⟨(ow.at_ q l h).1, sz _ _ (ow.at_ q l h).2⟩⟩
    refine hq _ _ ⟨sF.trans (sz.trans (same_new nl')), ls ++ [l], by rw [List.map_append]; rfl, by rw [List.length_append, ll]; rfl, ?_⟩
    have := ow2.snoc (sF.trans sz) nl'
    rw [ll] at this
    match j, hj2, this with
    | 0, _, this => exact this
    | 1, _, this => exact this
  obtain ⟨sF, ls, rfl, ll, ow⟩ := iv
  obtain ⟨nr, nb, rfl⟩ : ∃ nr nb, ls = [nr, nb] := by
    match ls, ll with
    | [x, y], _ => exact ⟨x, y, rfl⟩
  obtain ⟨fr1, er⟩ := ow.at_ 0 nr rfl
  obtain ⟨fr2, eb⟩ := ow.at_ 1 nb rfl
  have er' : F nr = some (.lst ((zer c.ls.length).map V.int)) := er
  have eb' : F nb = some (.lst ((zer c.ls.length).map V.int)) := eb
  have drb : nr ≠ nb := fun z => by have := ow.nd; rw [z] at this; simp at this
  have sD : Same F (upd F nl (.lst ([nr, nb].map V.ref))) := same_new nF
  refine ⟨_, _, rfl, ?_⟩
  refine at_s (σ' := [some (.ref b), some (.ref a), some u, some (.int n), some (.ref wl), some (.ref nl), none, none, none, none]) rfl ?_
  have ewF : F wl = some (.lst []) := sF _ _ e1
  have W0 : Wk K b wl nl nr nb H (upd F nl (.lst ([nr, nb].map V.ref))) c s u [] [] := by
    have S := s1.trans (sF.trans sD)
    refine ⟨Dr.of hb S, Dp.same S _ hu, ⟨sD _ _ ewF, rfl, fun j u h => by simp at h⟩, upd_same, sD _ _ er', sD _ _ eb', trivial, ⟨nwl, s1.free nD, s1.free fr1, s1.free fr2⟩, ⟨⟨hb.ne nwl, hb.ne (s1.free nD), hb.ne (s1.free fr1), hb.ne (s1.free fr2)⟩, ne_of_none ewF nF, fun z => ?_, fun z => ?_, (ne_of_none er' nF).symm, (ne_of_none eb' nF).symm, drb⟩⟩
    · rw [← z, e1] at fr1; cases fr1
    · rw [← z, e1] at fr2; cases fr2
  generalize upd F nl (.lst ([nr, nb].map V.ref)) = H2 at W0 sD
  refine ⟨_, rfl, _, rfl, by omega, by omega, for_it walk_range (fun i σ H3 => ∃ (u' : V) (ms : List Mv) (us : List V) (y6 y7 y8 y9 : Option V), σ = [some (.ref b), some (.ref a), some u', some (.int n), some (.ref wl), some (.ref nl), y6, y7, y8, y9] ∧ ms.length ≤ i ∧ Wk K b wl nl nr nb H H3 c s u' ms us) ⟨u, [], [], none, none, none, none, rfl, Nat.zero_le _, W0⟩ (fun _ _ _ _ _ => trivial) (fun i x σ H3 H4 hi h hy => ?_) (fun σ H3 h => ?_)⟩
  · obtain ⟨u', ms, us, y6, y7, y8, y9, rfl, hml, W⟩ := h
    obtain ⟨rfl, rfl⟩ := hy
    have hi4 : i < 400 := by omega
    refine at_g (σ' := [some (.ref b), some (.ref a), some u', some (.int n), some (.ref wl), some (.ref nl), some (.int (0 + i)), y7, y8, y9]) rfl ?_
    have okr := runS_ok okc oks W.ok
    have hcW : Dp K H4 (.ref a) (cnD c) := Dp.tp (W.dr.tp hb) _ (noL_cn c) hc0
    refine ⟨_, rfl, _, rfl, .ref a, u', c, runS c s ms, _, rfl, hcW, snAny_t W.du, okc, okr, fun sm ss H5 s5 nsm M5 => ?_⟩
    refine at_g (σ' := [some (.ref b), some (.ref a), some u', some (.int n), some (.ref wl), some (.ref nl), some (.int (0 + i)), some (.ref sm), y8, y9]) rfl ?_
    have W5 := W.step (Dr.of W.dr.box s5)
    refine ⟨_, rfl, (by show 0 ≤ sizeLine; decide), fun z nz => ?_⟩
    have sz : Same H5 (upd H5 z (.lst [])) := same_new nz
    have W6 := W5.step (Dr.of W5.dr.box sz)
    have M6 := M5.move (sz _ _ M5.e) (Tp.of sz)
    refine ⟨.list ((may c (runS c s ms) c.ls.length).map mvD), .list [], .lst (SqL.of M6.e) (MvAt.dp (a := sm) M6.l M6.d), .lst (SqL.of upd_same) .nil, mvs_shaped _, nil_shaped, _, rfl, ?_⟩
    rw [mvs_nil]
    generalize upd H5 z (.lst []) = H6 at sz W6 M6
    cases hmay : may c (runS c s ms) c.ls.length with
    | nil => exact iteF ⟨u', ms, us, _, _, _, _, rfl, by omega, W6⟩
    | cons m0 mr =>
      rw [hmay] at M6
      refine iteT ?_
      have hsb : sm ≠ b := fun z => by
        obtain ⟨x, y, w', e⟩ := W.dr.box
        rw [z, e] at nsm; cases nsm
      have hsl : ss.length ≤ 200 := by
        have h1 := may_len c (runS c s ms) c.ls.length
        rw [M6.l, ← hmay]; omega
      have hs0 : ss ≠ [] := fun z => by have := M6.l; rw [z] at this; simp at this
      refine ⟨_, rfl, _, rfl, b, sm, ss, rfl, W6.dr.box, hsb, SqL.of M6.e, hs0, by omega, fun j vv H7 ej d7 => ?_⟩
      have W7 := W6.step d7
      obtain ⟨mt, m, rfl, em, et⟩ := M6.d j vv ej
      have et7 : H7 mt = some (.tup (mvV m)) := (d7.tp W6.dr.box).t _ _ et
      have hmm : m ∈ may c (runS c s ms) c.ls.length := by rw [hmay]; exact List.mem_of_getElem? em
      obtain ⟨hm1, hm2⟩ := mem_may.mp hmm
      obtain ⟨mi, mr'⟩ := m
      refine at_g (σ' := [some (.ref b), some (.ref a), some u', some (.int n), some (.ref wl), some (.ref nl), some (.int (0 + i)), some (.ref sm), some (.ref mt), y9]) rfl ?_
      -- the book
      have sqm : Sq2 K H7 mt (mvV (mi, mr')) := .inr (.inl (.inl et7))
      have hlen := book_len c ms s (zer c.ls.length, zer c.ls.length)
      have hz0 : (zer c.ls.length).length = c.ls.length := by unfold zer; rw [List.length_replicate]
      have hmi : mi < c.ls.length := hm1
      obtain ⟨an, ar, ab, al, eu, hn7, hr7, hb7, hl7⟩ := (snAny_t W7.du).ex
      subst eu
      have okrn := okr.n
      obtain ⟨lw, hlw, ew, wb, wn, wwl, woth⟩ : ∃ lw, atI [V.ref nr, V.ref nb] (blI mr') = some (.ref lw) ∧ H7 lw = some (.lst ((if mr' = true then (book c s (zer c.ls.length, zer c.ls.length) ms).2.1 else (book c s (zer c.ls.length, zer c.ls.length) ms).2.2).map V.int)) ∧ lw ≠ b ∧ lw ≠ nl ∧ lw ≠ wl ∧ lw = (if mr' = true then nr else nb) := by
        cases mr' with
        | true => exact ⟨nr, rfl, W7.er, W7.ne.1.2.2.1, Ne.symm W7.ne.2.2.2.2.1, Ne.symm W7.ne.2.2.1, rfl⟩
        | false => exact ⟨nb, rfl, W7.eb, W7.ne.1.2.2.2, Ne.symm W7.ne.2.2.2.2.2.1, Ne.symm W7.ne.2.2.2.1, rfl⟩
      generalize hzz : (if mr' = true then (book c s (zer c.ls.length, zer c.ls.length) ms).2.1 else (book c s (zer c.ls.length, zer c.ls.length) ms).2.2) = zz at ew
      have hzl : zz.length = c.ls.length := by
        rw [← hzz]
        cases mr' with
        | true => exact hlen.1.trans hz0
        | false => exact hlen.2.trans hz0
      refine ⟨_, rfl, _, rfl, mt, _, _, _, rfl, rfl, sqm, rfl, rfl, .inr ⟨_, rfl, ?_⟩⟩
      rw [blI_eq]
      have hu2 : -(2 : Int) ^ 64 < (2 : Int) ∧ (2 : Int) < 2 ^ 64 := ⟨by decide, by decide⟩
      refine ⟨nl, _, _, _, rfl, rfl, .inl (SqL.of W7.el), hlw, _, rfl, mt, _, _, _, rfl, rfl, sqm, rfl, lw, _, _, _, rfl, rfl, SqL.of ew, by omega, by rw [List.getElem?_map, gt_get (by omega) (by omega)]; rfl, ?_⟩
      refine ⟨_, rfl, an, _, _, _, rfl, rfl, hn7, rfl, _, rfl, mt, _, _, _, rfl, rfl, sqm, rfl, al, _, _, _, rfl, rfl, hl7, gt_at (by omega) (by rw [okrn]; omega), _, _, rfl, rfl, .inl hu2, _, _, rfl, rfl, _, _, rfl, rfl, lw, _, _, _, rfl, rfl, ew, set_ix (x := 0) (by omega) (by omega), ?_⟩
      rw [set_ints, show (((mi : Nat) : Int)).toNat = mi by omega, show zz.set mi (gt zz (mi : Int) + (1 - 2 * gt (runS c s ms).ls (mi : Int))) = bump zz mi (1 - 2 * gt (runS c s ms).ls mi) from rfl]
      -- the standing behind it
      have tp8 : Tp H7 (upd H7 lw (.lst ((bump zz mi (1 - 2 * gt (runS c s ms).ls mi)).map V.int))) := Tp.upd ew
      have hc8 : Dp K (upd H7 lw (.lst ((bump zz mi (1 - 2 * gt (runS c s ms).ls mi)).map V.int))) (.ref a) (cnD c) := Dp.tp ((W7.dr.tp hb).trans tp8) _ (noL_cn c) hc0
      have hu8 := Dp.tp tp8 _ (noL_sn _) W7.du
      refine ⟨_, rfl, _, rfl, _, rfl, .ref a, .ref an, mt, mi, mr', c, runS c s ms, _, rfl, hc8, snAny_t hu8, .inr (.inl (.inl (tp8.t _ _ et7))), hmi, okc, okr, fun u2 H9 s9 hu9 => ?_⟩
      refine at_g (σ' := [some (.ref b), some (.ref a), some u2, some (.int n), some (.ref wl), some (.ref nl), some (.int (0 + i)), some (.ref sm), some (.ref mt), y9]) rfl ?_
      have e9w : H9 wl = some (.lst us) := s9 _ _ (by rw [upd_ne (Ne.symm wwl)]; exact W7.mv.e)
      have e9l : H9 nl = some (.lst [.ref nr, .ref nb]) := s9 _ _ (by rw [upd_ne (Ne.symm wn)]; exact W7.el)
      have hus : us.length ≤ 400 := by rw [W7.mv.l]; omega
      refine ⟨_, rfl, .inl ⟨rfl, _, SqL.of e9w⟩, _, rfl, wl, us, _, rfl, rfl, e9w, small1000 (by omega), ?_⟩
      have tp9 := tp8.trans (Tp.of s9)
      have tpA : Tp H9 (upd H9 wl (.lst (us ++ [.ref mt]))) := Tp.upd e9w
      refine ⟨u2, ms ++ [(mi, mr')], us ++ [.ref mt], _, _, _, _, rfl, by rw [List.length_append]; simp; omega, ?_⟩
      have hbk : (book c s (zer c.ls.length, zer c.ls.length) (ms ++ [(mi, mr')])).2 = note (runS c s ms) (book c s (zer c.ls.length, zer c.ls.length) ms).2 (mi, mr') := by rw [book_snoc, book_run]
      refine ⟨⟨?_, fun x o nx e => ?_⟩, ?_, ?_, ?_, ?_, ?_, okRun_snoc W.ok hm1 hm2, W.fr, W.ne⟩
      · obtain ⟨x, y, w', e⟩ := W7.dr.box
        exact ⟨x, y, w', by rw [upd_ne (Ne.symm W.ne.1.1)]; exact s9 _ _ (by rw [upd_ne (Ne.symm wb)]; exact e)⟩
      · have hxw : x ≠ wl := ne_of_none e W.fr.1
        have hxl : x ≠ lw := by
          rw [woth]
          cases mr' with
          | true => exact ne_of_none e W.fr.2.2.1
          | false => exact ne_of_none e W.fr.2.2.2
        rw [upd_ne hxw]; exact s9 _ _ (by rw [upd_ne hxl]; exact W7.dr.same _ _ nx e)
      · rw [runS_snoc]; exact Dp.tp tpA _ (noL_sn _) hu9
      · exact (W7.mv.move (H' := H9) e9w tp9).snoc (fun b xs e => tpA.t _ _ e) (tpA.t _ _ (tp9.t _ _ et7)) upd_same
      · rw [upd_ne (Ne.symm W.ne.2.1)]; exact e9l
      · rw [upd_ne (Ne.symm W.ne.2.2.1), hbk]
        refine s9 _ _ ?_
        cases mr' with
        | true =>
          have z : lw = nr := woth
          rw [z, upd_same]
          have hz' : (book c s (zer c.ls.length, zer c.ls.length) ms).2.1 = zz := hzz
          show some (HO.lst ((bump zz mi _).map V.int)) = some (HO.lst ((bump _ mi _).map V.int))
          rw [hz']
        | false =>
          have z : lw = nb := woth
          rw [z, upd_ne W.ne.2.2.2.2.2.2]; exact W7.er
      · rw [upd_ne (Ne.symm W.ne.2.2.2.1), hbk]
        refine s9 _ _ ?_
        cases mr' with
        | true =>
          have z : lw = nr := woth
          rw [z, upd_ne (Ne.symm W.ne.2.2.2.2.2.2)]; exact W7.eb
        | false =>
          have z : lw = nb := woth
          rw [z, upd_same]
          have hz' : (book c s (zer c.ls.length, zer c.ls.length) ms).2.2 = zz := hzz
          show some (HO.lst ((bump zz mi _).map V.int)) = some (HO.lst ((bump _ mi _).map V.int))
          rw [hz']
  · obtain ⟨u', ms, us, y6, y7, y8, y9, rfl, hml, W⟩ := h
    have hml' : ms.length ≤ n := by omega
    refine ⟨_, rfl, _, rfl, _, rfl, nl, _, _, _, rfl, rfl, .inl (SqL.of W.el), rfl, _, rfl, nl, _, _, _, rfl, rfl, .inl (SqL.of W.el), rfl, (by show 4 ≤ sizeLine; decide), fun t nt => ?_⟩
    exact q ms t wl nl nr nb u' us H3 _ hml' W (same_new nt) nt upd_same
end
end XL
namespace XL
open PySem PySem.Spec PyProof.Rows L2
abbrev sTupled : Stmt := topS 4
/-! ### going back -/
theorem gt_set_self {zs : List Int} {j x : Int} (h0 : 0 ≤ j) (h1 : j < zs.length) : gt (zs.set j.toNat x) j = x := by
  unfold gt
  rw [List.getD_eq_getElem?_getD, List.getElem?_set_self (by omega)]; rfl
theorem gt_set_ne {zs : List Int} {i j x : Int} (h : i.toNat ≠ j.toNat) : gt (zs.set i.toNat x) j = gt zs j := by
  unfold gt
  rw [List.getD_eq_getElem?_getD, List.getElem?_set_ne h, List.getD_eq_getElem?_getD]
theorem set_gt {zs : List Int} {j : Int} (h0 : 0 ≤ j) (h1 : j < zs.length) : zs.set j.toNat (gt zs j) = zs := by
  have h := gt_get h0 h1
  rw [List.getElem?_eq_some_iff] at h
  obtain ⟨hl, e⟩ := h
  rw [← e]
  exact List.set_getElem_self hl
theorem mov_back {zs : List Int} {p : Int × Int} (h0 : 0 ≤ p.1) (h1 : p.1 < zs.length) (h2 : 0 ≤ p.2) (h3 : p.2 < zs.length) : mov (mov zs p) (p.2, p.1) = zs := by
  have hb : (zs.set p.1.toNat (gt zs p.1 - 1)).length = zs.length := List.length_set ..
  unfold mov
  dsimp only
  rw [gt_set_self h2 (by rw [hb]; exact h3), List.set_set, show gt (zs.set p.1.toNat (gt zs p.1 - 1)) p.2 + 1 - 1 = gt (zs.set p.1.toNat (gt zs p.1 - 1)) p.2 by omega, set_gt h2 (by rw [hb]; exact h3), gt_set_self h0 h1, List.set_set, show gt zs p.1 - 1 + 1 = gt zs p.1 by omega, set_gt h0 h1]
theorem flip_gt {zs : List Int} {i : Nat} (h : i < zs.length) : gt (flip1 zs i) (i : Int) = 1 - gt zs i := by
  have := gt_set_self (zs := zs) (j := (i : Int)) (x := 1 - gt zs i) (by omega) (by omega)
  rw [show ((i : Int)).toNat = i by omega] at this
  exact this
theorem flip_flip {zs : List Int} {i : Nat} (h : i < zs.length) : flip1 (flip1 zs i) i = zs := by
  have e := flip_gt h
  show (flip1 zs i).set i (1 - gt (flip1 zs i) (i : Int)) = zs
  rw [e]
  unfold flip1
  rw [List.set_set, show 1 - (1 - gt zs (i : Int)) = gt zs (i : Int) by omega]
  have := set_gt (zs := zs) (j := (i : Int)) (by omega) (by omega)
  rw [show ((i : Int)).toNat = i by omega] at this
  exact this
theorem goneS_ls (c : Cn) (s : Sn) (i : Nat) (r : Bool) : (goneS c s i r).ls = flip1 s.ls i := by unfold goneS; split <;> rfl
theorem goneS_boats (c : Cn) (s : Sn) (i : Nat) (r : Bool) : boatsW r (goneS c s i r) = mov (boatsW r s) (fromTo c s i r) := by cases r <;> rfl
theorem fromTo_back {c : Cn} {B : Int} {s : Sn} (ok : okSn c B s) {i : Nat} (hi : i < c.ls.length) (r : Bool) : fromTo c (goneS c s i r) i r = ((fromTo c s i r).2, (fromTo c s i r).1) := by
  have hl : i < s.ls.length := by rw [ok.n]; exact hi
  unfold fromTo
  rw [goneS_ls, flip_gt hl]
  rcases ok.l0 _ (gt_mem (zs := s.ls) (j := (i : Int)) (by omega) (by omega)) with e | e
  · rw [e, if_pos rfl, if_neg (by decide)]
  · rw [e, if_neg (by decide : ¬ (1 : Int) = 0), if_pos (by decide)]
theorem go_back {c : Cn} {W U : Nat} {B : Int} {s : Sn} (okc : okCn W U c) (ok : okSn c B s) {i : Nat} (hi : i < c.ls.length) (r : Bool) (h : hasB c s i r = true) : hasB c (goneS c s i r) i r = true ∧ goneS c (goneS c s i r) i r = s := by
  have f := fromTo_ok okc (s := s) hi r
  have hl := boats_len ok r
  have hls : i < s.ls.length := by rw [ok.n]; exact hi
  have eb := fromTo_back ok hi r
  have hp : gt (boatsW r s) (fromTo c s i r).1 > 0 := of_decide_eq_true h
  have h1 : (fromTo c s i r).1 < ((boatsW r s).length : Int) := by rw [hl]; exact f.1.2
  have h3 : (fromTo c s i r).2 < ((boatsW r s).length : Int) := by rw [hl]; exact f.2.2
  have nn : ∀ x ∈ boatsW r s, 0 ≤ x := fun x hx => by
    cases r with
    | true => exact (ok.r0 x hx).1
    | false => exact (ok.b0 x hx).1
  constructor
  · unfold hasB
    rw [goneS_boats, eb]
    refine decide_eq_true ?_
    show gt (mov (boatsW r s) (fromTo c s i r)) (fromTo c s i r).2 > 0
    have e : gt (mov (boatsW r s) (fromTo c s i r)) (fromTo c s i r).2 = gt ((boatsW r s).set (fromTo c s i r).1.toNat (gt (boatsW r s) (fromTo c s i r).1 - 1)) (fromTo c s i r).2 + 1 := gt_set_self f.2.1 (by rw [List.length_set]; exact h3)
    rw [e]
    have hm := gt_mem (zs := (boatsW r s).set (fromTo c s i r).1.toNat (gt (boatsW r s) (fromTo c s i r).1 - 1)) (j := (fromTo c s i r).2) f.2.1 (by rw [List.length_set]; exact h3)
    rcases mem_set_or hm with q | q
    · have := nn _ q; omega
    · omega
  · have em := mov_back (zs := boatsW r s) (p := fromTo c s i r) f.1.1 h1 f.2.1 h3
    have ef := flip_flip hls
    have e1 : goneS c (goneS c s i r) i r = (if r = true then ⟨mov (boatsW r (goneS c s i r)) (fromTo c (goneS c s i r) i r), (goneS c s i r).bs, flip1 (goneS c s i r).ls i⟩ else ⟨(goneS c s i r).rs, mov (boatsW r (goneS c s i r)) (fromTo c (goneS c s i r) i r), flip1 (goneS c s i r).ls i⟩) := by cases r <;> rfl
    rw [e1, goneS_boats, eb, em, goneS_ls, ef]
    cases r <;> rfl
theorem run_back {c : Cn} {W U : Nat} (okc : okCn W U c) : ∀ {ms : List Mv} {s : Sn} {B : Int}, okSn c B s → okRun c s ms → okRun c (runS c s ms) ms.reverse ∧ runS c (runS c s ms) ms.reverse = s
  | [], s, B, _, _ => ⟨trivial, rfl⟩
  | m :: ms, s, B, ok, h => by
    obtain ⟨a, b⟩ := run_back okc (ms := ms) (goneS_ok okc ok h.1.1 m.2 h.1.2) h.2
    obtain ⟨x, y⟩ := go_back okc ok h.1.1 m.2 h.1.2
    have e : runS c s (m :: ms) = runS c (goM c s m) ms := rfl
    rw [e, List.reverse_cons]
    refine ⟨okRun_snoc a h.1.1 ?_, ?_⟩
    · rw [show runS c (runS c (goM c s m) ms) ms.reverse = goM c s m from b]; exact x
    · rw [runS_snoc, show runS c (runS c (goM c s m) ms) ms.reverse = goM c s m from b]; exact y
/-! ### books by sums -/
def dl (s : Sn) (m : Mv) (i : Nat) (r : Bool) : Int := if m = (i, r) then 1 - 2 * gt s.ls i else 0
def tot (c : Cn) (i : Nat) (r : Bool) : Sn → List Mv → Int
  | _, [] => 0
  | s, m :: ms => dl s m i r + tot c i r (goM c s m) ms
theorem tot_snoc (c : Cn) (i : Nat) (r : Bool) (m : Mv) : ∀ (ms : List Mv) (s : Sn), tot c i r s (ms ++ [m]) = tot c i r s ms + dl (runS c s ms) m i r
  | [], s => by show dl s m i r + 0 = 0 + dl s m i r; omega
  | m' :: ms, s => by
    show dl s m' i r + tot c i r (goM c s m') (ms ++ [m]) = dl s m' i r + tot c i r (goM c s m') ms + dl (runS c (goM c s m') ms) m i r
    rw [tot_snoc c i r m ms]; omega
theorem tot_back {c : Cn} {W U : Nat} (okc : okCn W U c) (i : Nat) (r : Bool) : ∀ {ms : List Mv} {s : Sn} {B : Int}, okSn c B s → okRun c s ms → tot c i r (runS c s ms) ms.reverse = 0 - tot c i r s ms
  | [], s, B, _, _ => rfl
  | m :: ms, s, B, ok, h => by
    have ok1 := goneS_ok okc ok h.1.1 m.2 h.1.2
    have ih := tot_back okc i r (ms := ms) (s := goM c s m) ok1 h.2
    have bk := (run_back okc (ms := ms) (s := goM c s m) ok1 h.2).2
    have e : runS c s (m :: ms) = runS c (goM c s m) ms := rfl
    rw [e, List.reverse_cons, tot_snoc, ih, bk]
    show _ = 0 - (dl s m i r + tot c i r (goM c s m) ms)
    have hd : dl (goM c s m) m i r = 0 - dl s m i r := by
      unfold dl
      by_cases em : m = (i, r)
      · rw [if_pos em, if_pos em]
        have e2 : gt (goM c s m).ls (i : Int) = 1 - gt s.ls i := by
          unfold goM
          rw [goneS_ls, em]
          exact flip_gt (by rw [ok.n]; have := h.1.1; rw [em] at this; exact this)
        rw [e2]; omega
      · rw [if_neg em, if_neg em]; rfl
    rw [hd]; omega
theorem bump_gt {zs : List Int} {i j : Nat} {x : Int} (hi : i < zs.length) : gt (bump zs i x) (j : Int) = gt zs j + (if i = j then x else 0) := by
  unfold bump
  by_cases e : i = j
  · subst e
    have := gt_set_self (zs := zs) (j := (i : Int)) (x := gt zs i + x) (by omega) (by omega)
    rw [show ((i : Int)).toNat = i by omega] at this
    rw [if_pos rfl]; exact this
  · have := gt_set_ne (zs := zs) (i := (i : Int)) (j := (j : Int)) (x := gt zs i + x) (by omega)
    rw [show ((i : Int)).toNat = i by omega] at this
    rw [if_neg e, this]; omega
theorem book_tot (c : Cn) (j : Nat) : ∀ (ms : List Mv) (s : Sn) (p : Nt), okRun c s ms → p.1.length = c.ls.length → p.2.length = c.ls.length → gt (book c s p ms).2.1 (j : Int) = gt p.1 j + tot c j true s ms ∧ gt (book c s p ms).2.2 (j : Int) = gt p.2 j + tot c j false s ms
  | [], s, p, _, _, _ => by
    show gt p.1 (j : Int) = gt p.1 j + 0 ∧ gt p.2 (j : Int) = gt p.2 j + 0
    omega
  | m :: ms, s, p, h, h1, h2 => by
    obtain ⟨mi, mr⟩ := m
    have nl := note_len s p (mi, mr)
    obtain ⟨a, b⟩ := book_tot c j ms (goM c s (mi, mr)) (note s p (mi, mr)) h.2 (nl.1.trans h1) (nl.2.trans h2)
    have hm : mi < c.ls.length := h.1.1
    show gt (book c (goM c s (mi, mr)) (note s p (mi, mr)) ms).2.1 (j : Int) = gt p.1 j + (dl s (mi, mr) j true + tot c j true (goM c s (mi, mr)) ms) ∧ gt (book c (goM c s (mi, mr)) (note s p (mi, mr)) ms).2.2 (j : Int) = gt p.2 j + (dl s (mi, mr) j false + tot c j false (goM c s (mi, mr)) ms)
    rw [a, b]
    cases mr with
    | true =>
      have e1 : gt (note s p (mi, true)).1 (j : Int) = gt p.1 j + dl s (mi, true) j true := by
        show gt (bump p.1 mi (1 - 2 * gt s.ls mi)) (j : Int) = _
        rw [bump_gt (by rw [h1]; exact hm)]
        unfold dl
        by_cases e : mi = j
        · subst e; rw [if_pos rfl, if_pos rfl]
        · rw [if_neg e, if_neg (fun z => e (Prod.mk.inj z).1)]
      have e2 : gt (note s p (mi, true)).2 (j : Int) = gt p.2 j + dl s (mi, true) j false := by
        unfold dl
        rw [if_neg (fun z => by cases (Prod.mk.inj z).2)]
        show gt p.2 (j : Int) = gt p.2 j + 0
        omega
      rw [e1, e2]; omega
    | false =>
      have e1 : gt (note s p (mi, false)).1 (j : Int) = gt p.1 j + dl s (mi, false) j true := by
        unfold dl
        rw [if_neg (fun z => by cases (Prod.mk.inj z).2)]
        show gt p.1 (j : Int) = gt p.1 j + 0
        omega
      have e2 : gt (note s p (mi, false)).2 (j : Int) = gt p.2 j + dl s (mi, false) j false := by
        show gt (bump p.2 mi (1 - 2 * gt s.ls mi)) (j : Int) = _
        rw [bump_gt (by rw [h2]; exact hm)]
        unfold dl
        by_cases e : mi = j
        · subst e; rw [if_pos rfl, if_pos rfl]
        · rw [if_neg e, if_neg (fun z => e (Prod.mk.inj z).1)]
      rw [e1, e2]; omega
theorem gt_ext {xs ys : List Int} (hl : xs.length = ys.length) (h : ∀ j : Nat, j < xs.length → gt xs (j : Int) = gt ys (j : Int)) : xs = ys := by
  refine List.ext_getElem? fun j => ?_
  by_cases hj : j < xs.length
  · have a := gt_get (zs := xs) (j := (j : Int)) (by omega) (by omega)
    have b := gt_get (zs := ys) (j := (j : Int)) (by omega) (by omega)
    rw [show ((j : Int)).toNat = j by omega] at a b
    rw [a, b, h j hj]
  · rw [List.getElem?_eq_none (by omega), List.getElem?_eq_none (by omega)]
def bk0 (c : Cn) (s : Sn) (ms : List Mv) : Nt := (book c s (zer c.ls.length, zer c.ls.length) ms).2
theorem zer_len (n : Nat) : (zer n).length = n := by unfold zer; rw [List.length_replicate]
theorem bk0_len (c : Cn) (s : Sn) (ms : List Mv) : (bk0 c s ms).1.length = c.ls.length ∧ (bk0 c s ms).2.length = c.ls.length := by
  have h := book_len c ms s (zer c.ls.length, zer c.ls.length)
  exact ⟨h.1.trans (zer_len _), h.2.trans (zer_len _)⟩
theorem gt_map_neg {zs : List Int} {j : Nat} (h : j < zs.length) : gt (zs.map fun x => 0 - x) (j : Int) = 0 - gt zs j := by
  have a := gt_get (zs := zs) (j := (j : Int)) (by omega) (by omega)
  have b := gt_get (zs := zs.map fun x => 0 - x) (j := (j : Int)) (by omega) (by rw [List.length_map]; omega)
  rw [List.getElem?_map, a] at b
  exact (Option.some.inj b).symm
theorem bk_back {c : Cn} {W U : Nat} (okc : okCn W U c) {ms : List Mv} {s : Sn} {B : Int} (ok : okSn c B s) (h : okRun c s ms) : bk0 c (runS c s ms) ms.reverse = ((bk0 c s ms).1.map fun x => 0 - x, (bk0 c s ms).2.map fun x => 0 - x) := by
  have l1 := bk0_len c s ms
  have l2 := bk0_len c (runS c s ms) ms.reverse
  have hb := (run_back okc ok h).1
  have z0 : ∀ j : Nat, gt (zer c.ls.length) (j : Int) = 0 := fun j => by
    unfold gt zer
    rw [List.getD_eq_getElem?_getD, List.getElem?_replicate]
    split <;> rfl
  have t : ∀ j : Nat, (gt (bk0 c (runS c s ms) ms.reverse).1 (j : Int) = 0 - gt (bk0 c s ms).1 (j : Int)) ∧ (gt (bk0 c (runS c s ms) ms.reverse).2 (j : Int) = 0 - gt (bk0 c s ms).2 (j : Int)) := fun j => by
    have a := book_tot c j ms.reverse (runS c s ms) (zer c.ls.length, zer c.ls.length) hb (zer_len _) (zer_len _)
    have b := book_tot c j ms s (zer c.ls.length, zer c.ls.length) h (zer_len _) (zer_len _)
    have t1 := tot_back okc j true ok h
    have t2 := tot_back okc j false ok h
    have z := z0 j
    have a1 := a.1; have a2 := a.2; have b1 := b.1; have b2 := b.2
    rw [show (zer c.ls.length, zer c.ls.length).1 = zer c.ls.length from rfl, z, t1] at a1
    rw [show (zer c.ls.length, zer c.ls.length).2 = zer c.ls.length from rfl, z, t2] at a2
    rw [show (zer c.ls.length, zer c.ls.length).1 = zer c.ls.length from rfl, z] at b1
    rw [show (zer c.ls.length, zer c.ls.length).2 = zer c.ls.length from rfl, z] at b2
    unfold bk0
    rw [a1, a2, b1, b2]; omega
  refine Prod.ext (gt_ext (by rw [List.length_map, l1.1, l2.1]) fun j hj => ?_) (gt_ext (by rw [List.length_map, l1.2, l2.2]) fun j hj => ?_)
  · rw [gt_map_neg (by rw [l1.1, ← l2.1]; exact hj)]; exact (t j).1
  · rw [gt_map_neg (by rw [l1.2, ← l2.2]; exact hj)]; exact (t j).2
theorem okRun_app {c : Cn} : ∀ {ms ns : List Mv} {s : Sn}, okRun c s (ms ++ ns) ↔ okRun c s ms ∧ okRun c (runS c s ms) ns
  | [], ns, s => ⟨fun h => ⟨trivial, h⟩, fun h => h.2⟩
  | m :: ms, ns, s => by
    show (_ ∧ okRun c (goM c s m) (ms ++ ns)) ↔ (_ ∧ okRun c (goM c s m) ms) ∧ okRun c (runS c (goM c s m) ms) ns
    rw [okRun_app (ms := ms)]
    exact ⟨fun ⟨a, b, d⟩ => ⟨⟨a, b⟩, d⟩, fun ⟨⟨a, b⟩, d⟩ => ⟨a, b, d⟩⟩
theorem runS_app (c : Cn) (s : Sn) (ms ns : List Mv) : runS c s (ms ++ ns) = runS c (runS c s ms) ns := by unfold runS; rw [List.foldl_append]
theorem okRun_lt {c : Cn} : ∀ {ms : List Mv} {s : Sn}, okRun c s ms → ∀ m ∈ ms, m.1 < c.ls.length
  | [], _, _, m, h => by simp at h
  | m' :: ms, s, hr, m, h => by
    rcases List.mem_cons.mp h with e | e
    · rw [e]; exact hr.1.1
    · exact okRun_lt hr.2 m e
theorem take_snoc {α : Type} {xs : List α} {j : Nat} {x : α} (h : xs[j]? = some x) : xs.take (j + 1) = xs.take j ++ [x] := by rw [List.take_succ, h]; rfl
section
variable {P : Program} {w : World} {K : PySem.W.Frag} {mg : Str → Option Value} {base : Heap}
/-! ### tupled -/
theorem scTupled : FnScope ["thing", "part"] ["thing"] (defScope sTupled) := ⟨rfl, rfl, rfl, by decide +kernel, rfl, by decide +kernel, by decide +kernel⟩
def spTupled (K : PySem.W.Frag) (n : Nat) : Sp := fun vs H Q _ => ∃ (v : V) (d : PyData), vs = [v] ∧ Dp K H v d ∧ okD n d ∧ ∀ (v' : V) (H' : Hp), Same H H' → Dp K H' v' (tupD d) → Q v' H'
theorem ok_tupled {f : Addr} {fd : FuncData} (F : Fun K "tupled" "tupled" sTupled f fd) (b : Binds K fd ["thing"] []) (gF : mg "tupled" = some (.ref f)) (mi : mg "isinstance" = none) (ml : mg "list" = none) (mt : mg "tuple" = none) :
    ∀ n : Nat, FnOk P w K mg base CX0 n f fd ["thing"] (spTupled K n)
  | 0 => no_fn fun vs H Q E ⟨v, d, _, _, h, _⟩ => h
  | n + 1 => by
    have G := ok_tupled F b gF mi ml mt n
    refine F.ok scTupled (fun vs H Q E h => ?_) (fun cdv A outer s H vs Q E hr h => ?_)
    · obtain ⟨v, d, rfl, _⟩ := h
      rfl
    obtain ⟨v, d, rfl, hd, ok, q⟩ := h
    refine ⟨_, pss_cons (ps_if (pt_val (pe_callB call_isiT rfl mi boot_isinstance (pa_cons (pv 0) (pa_cons (pe_tup (pa_cons (pe_bltn (v := .ty "list") rfl ml boot_list rfl) (pa_cons (pe_bltn (v := .ty "tuple") rfl mt boot_tuple rfl) pa_nil))) pa_nil))))
        (pss_one (ps_ret (pe_callTy call_tuple_of rfl mt boot_tuple (pa_cons (pe_lc (own := [("part", 1)]) (g := gName 1) (tt := tYes) rfl scTupled.nd (pi_seq (pv 0)) (blkOk_by (own := [("part", 1)]) (N := ["thing", "part"]) (sc := defScope sTupled) (by decide +kernel))
          (fun _ _ _ _ _ => pg_name (i := 1) scTupled.nd rfl (Or.inl rfl)) (fun _ _ _ _ _ => pts_nil) (fun _ _ _ _ _ => pe_hide (pe_call G hr rfl gF F.kp b .nil pass0 (pa_cons (pv 1) pa_nil)))) pa_nil)))) pss_nil)
      (pss_one (ps_ret (pv 0))), ?_⟩
    refine ⟨_, rfl, (by show 2 ≤ sizeLine; decide), fun tp np => ?_⟩
    have s1 : Same H (upd H tp (.tup [.ty "list", .ty "tuple"])) := same_new np
    refine ⟨v, tp, _, tyD d, _, isSeq d, rfl, upd_same, .cons (.ty _) (.cons (.ty _) .nil), tyx_of (Dp.same s1 d hd), seq_kit d (Dp.nodict hd), isSeq d, rfl, ?_⟩
    cases hsq : isSeq d with
    | false =>
      refine iteF ⟨_, rfl, ?_⟩
      have e : tupD d = d := by cases d <;> first | rfl | (simp [isSeq] at hsq)
      exact q _ _ s1 (by rw [e]; exact Dp.same s1 d hd)
    | true =>
      obtain ⟨a, xs, ds, rfl, hs, hall, het, hok, hlen⟩ : ∃ a xs ds, v = .ref a ∧ Sq2 K H a xs ∧ DpAll K H xs ds ∧ tupD d = .tuple (ds.map tupD) ∧ (∀ e ∈ ds, okD n e) ∧ ds.length ≤ 1000 := by
        cases hd with
        | lst h1 h2 => exact ⟨_, _, _, rfl, .inl h1, h2, by rw [tupD, tupDs_eq], ok.2, ok.1⟩
        | tup h1 h2 => exact ⟨_, _, _, rfl, .inr h1, h2, by rw [tupD, tupDs_eq], ok.2, ok.1⟩
        | _ => simp [isSeq] at hsq
      have hxl : xs.length = ds.length := DpAll.length hall
      refine iteT ⟨_, rfl, a, xs, rfl, Same.sq2 s1 hs, fun J wk => lc_map wk Same (fun a b => a.trans b) (fun i y F => ∃ d, ds[i]? = some d ∧ Dp K F y (tupD d)) (fun i y A B s ⟨d, e, p⟩ => ⟨d, e, Dp.same s _ p⟩) (by rw [hxl]; exact small1000 hlen) (Same.refl _) (fun F D acc sF nF => ?_) (fun i x D acc F H' hi nD sF nF hy B hB => ?_) (fun D ys F nD sF nF hl hR => ?_)⟩
      · have sD : Same _ (upd F D (.lst acc)) := sF.trans (same_new nF)
        exact ⟨fun _ z => sD.seq z, fun z => Same.tup sD z⟩
      · obtain ⟨rfl, hx⟩ := hy
        obtain ⟨e, he, hp⟩ := DpAll.get hall hx
        refine hB _ F rfl nF fun Qt hq => ?_
        refine ⟨x, rfl, x, e, rfl, Dp.same (s1.trans sF) e hp, hok e (List.mem_of_getElem? he), fun v' H' s' p' => hq _ _ s' ⟨e, he, p'⟩⟩
      · refine ⟨D, ys, rfl, .inl ⟨SqL.of upd_same, fun l nl => ?_⟩⟩
        have sD : Same F (upd F D (.lst ys)) := same_new nF
        have s3 : Same F (upd (upd F D (.lst ys)) l (.tup ys)) := sD.trans (same_new nl)
        refine q _ _ (s1.trans (sF.trans s3)) ?_
        rw [het]
        exact .tup (.inl (.inl upd_same)) (DpAll.same s3 _ (dpall_of (by rw [hl, hxl]) hR))
/-! ### rows -/
structure FnX (P : Program) (w : World) (K : PySem.W.Frag) (mg : Str → Option Value) (base : Heap) (n : Nat) (name : Str) (ps : List Str) (sp : Sp) (f : Addr) (fd : FuncData) : Prop where
  ok : FnOk P w K mg base (L2.CX P w) n f fd ps sp
  g : mg name = some (.ref f)
  k : PySem.W.keepIn K (.ref f) = true
  b : Binds K fd ps []
/-- a row of goings: a list or a tuple of lists or tuples -/
structure RowAt (K : PySem.W.Frag) (H : Hp) (a : Addr) (ms : List Mv) : Prop where
  ex : ∃ us : List V, Sq2 K H a us ∧ us.length = ms.length ∧ ∀ (j : Nat) u, us[j]? = some u → ∃ t m, u = .ref t ∧ ms[j]? = some m ∧ Sq2 K H t (mvV m)
theorem RowAt.same {H H' : Hp} {a : Addr} {ms : List Mv} (h : RowAt K H a ms) (s : Same H H') : RowAt K H' a ms := by
  obtain ⟨us, h1, h2, h3⟩ := h.ex
  refine ⟨us, Same.sq2 s h1, h2, fun j u hu => ?_⟩
  obtain ⟨t, m, e1, e2, e3⟩ := h3 j u hu
  exact ⟨t, m, e1, e2, Same.sq2 s e3⟩
end
end XL
namespace XL
open PySem PySem.Spec PyProof.Rows L2
section
variable {P : Program} {w : World} {K : PySem.W.Frag} {mg : Str → Option Value} {base : Heap}
abbrev sIL : Stmt := inClass (topS 10) 0
theorem scIL : FnScope ["self", "lock"] ["self", "lock"] (defScope sIL) := ⟨rfl, rfl, rfl, by decide +kernel, rfl, by decide +kernel, by decide +kernel⟩
theorem ok_IL {f c : Addr} {fd : FuncData} (F : Fun K "__init__" "NoLock.__init__" sIL f fd) (T : ExK K c 1) (no : PySem.W.findIn K (.ref c) "lock" = some none) (mB : mg "LookupError" = none) : FnOk P w K mg base CX0 1 f fd ["self", "lock"] (spI c "lock") := by
  refine F.ok scIL (fun vs H Q E h => ?_) (fun cdv A outer s H vs Q E hr h => ?_)
  · obtain ⟨a, y, rfl, _⟩ := h
    rfl
  obtain ⟨a, y, rfl, ea, q⟩ := h
  refine ⟨_, pss_cons (ps_expr (pe_binit (B := "LookupError") (newId := bW 1) (initId := "LookupError.__init__") (bm := bM 1) rfl mB boot_LookupError tyf_LookupError fnd_LookupError (pa_cons (pv 0) (pa_cons pe_str pa_nil)) (by decide) (by decide) stb_LookupError hnd_LookupError))
    (pss_one (ps_os1 (B := "LookupError") (newId := bW 1) (initId := "LookupError.__init__") (bm := bM 1) (pv 0) (pv 1))), ?_⟩
  refine ⟨_, rfl, a, c, _, rfl, (by show 1 ≤ 1000; decide), T, ea, ?_⟩
  exact ⟨_, rfl, _, rfl, a, c, rfl, T, no, ea, fun dx n ne => q dx n ne⟩
abbrev sIS : Stmt := inClass (topS 11) 0
theorem scIS : FnScope ["self", "basin"] ["self", "basin"] (defScope sIS) := ⟨rfl, rfl, rfl, by decide +kernel, rfl, by decide +kernel, by decide +kernel⟩
theorem ok_IS {f c : Addr} {fd : FuncData} (F : Fun K "__init__" "NoBasin.__init__" sIS f fd) (T : ExK K c 1) (no : PySem.W.findIn K (.ref c) "basin" = some none) (mB : mg "LookupError" = none) : FnOk P w K mg base CX0 1 f fd ["self", "basin"] (spI c "basin") := by
  refine F.ok scIS (fun vs H Q E h => ?_) (fun cdv A outer s H vs Q E hr h => ?_)
  · obtain ⟨a, y, rfl, _⟩ := h
    rfl
  obtain ⟨a, y, rfl, ea, q⟩ := h
  refine ⟨_, pss_cons (ps_expr (pe_binit (B := "LookupError") (newId := bW 1) (initId := "LookupError.__init__") (bm := bM 1) rfl mB boot_LookupError tyf_LookupError fnd_LookupError (pa_cons (pv 0) (pa_cons pe_str pa_nil)) (by decide) (by decide) stb_LookupError hnd_LookupError))
    (pss_one (ps_os1 (B := "LookupError") (newId := bW 1) (initId := "LookupError.__init__") (bm := bM 1) (pv 0) (pv 1))), ?_⟩
  refine ⟨_, rfl, a, c, _, rfl, (by show 1 ≤ 1000; decide), T, ea, ?_⟩
  exact ⟨_, rfl, _, rfl, a, c, rfl, T, no, ea, fun dx n ne => q dx n ne⟩
abbrev sID : Stmt := inClass (topS 12) 0
theorem scID : FnScope ["self", "many"] ["self", "many"] (defScope sID) := ⟨rfl, rfl, rfl, by decide +kernel, rfl, by decide +kernel, by decide +kernel⟩
theorem ok_ID {f c : Addr} {fd : FuncData} (F : Fun K "__init__" "NoDeed.__init__" sID f fd) (T : ExK K c 1) (no : PySem.W.findIn K (.ref c) "many" = some none) (mB : mg "LookupError" = none) : FnOk P w K mg base CX0 1 f fd ["self", "many"] (spI c "many") := by
  refine F.ok scID (fun vs H Q E h => ?_) (fun cdv A outer s H vs Q E hr h => ?_)
  · obtain ⟨a, y, rfl, _⟩ := h
    rfl
  obtain ⟨a, y, rfl, ea, q⟩ := h
  refine ⟨_, pss_cons (ps_expr (pe_binit (B := "LookupError") (newId := bW 1) (initId := "LookupError.__init__") (bm := bM 1) rfl mB boot_LookupError tyf_LookupError fnd_LookupError (pa_cons (pv 0) (pa_cons pe_str pa_nil)) (by decide) (by decide) stb_LookupError hnd_LookupError))
    (pss_one (ps_os1 (B := "LookupError") (newId := bW 1) (initId := "LookupError.__init__") (bm := bM 1) (pv 0) (pv 1))), ?_⟩
  refine ⟨_, rfl, a, c, _, rfl, (by show 1 ≤ 1000; decide), T, ea, ?_⟩
  exact ⟨_, rfl, _, rfl, a, c, rfl, T, no, ea, fun dx n ne => q dx n ne⟩
abbrev sIO : Stmt := inClass (topS 14) 0
theorem scIO : FnScope ["self", "many"] ["self", "many"] (defScope sIO) := ⟨rfl, rfl, rfl, by decide +kernel, rfl, by decide +kernel, by decide +kernel⟩
theorem ok_IO {f c : Addr} {fd : FuncData} (F : Fun K "__init__" "Short.__init__" sIO f fd) (T : ExK K c 2) (no : PySem.W.findIn K (.ref c) "many" = some none) (mB : mg "RuntimeError" = none) : FnOk P w K mg base CX0 1 f fd ["self", "many"] (spI c "many") := by
  refine F.ok scIO (fun vs H Q E h => ?_) (fun cdv A outer s H vs Q E hr h => ?_)
  · obtain ⟨a, y, rfl, _⟩ := h
    rfl
  obtain ⟨a, y, rfl, ea, q⟩ := h
  refine ⟨_, pss_cons (ps_expr (pe_binit (B := "RuntimeError") (newId := bW 2) (initId := "RuntimeError.__init__") (bm := bM 2) rfl mB boot_RuntimeError tyf_RuntimeError fnd_RuntimeError (pa_cons (pv 0) (pa_cons pe_str pa_nil)) (by decide) (by decide) stb_RuntimeError hnd_RuntimeError))
    (pss_one (ps_os1 (B := "RuntimeError") (newId := bW 2) (initId := "RuntimeError.__init__") (bm := bM 2) (pv 0) (pv 1))), ?_⟩
  refine ⟨_, rfl, a, c, _, rfl, (by show 1 ≤ 1000; decide), T, ea, ?_⟩
  exact ⟨_, rfl, _, rfl, a, c, rfl, T, no, ea, fun dx n ne => q dx n ne⟩
end
end XL
namespace XL
open PySem PySem.Spec PyProof.Rows L2
abbrev sNum : Stmt := topS 2
abbrev sPl : Stmt := topS 3
abbrev sBas : Stmt := topS 7
abbrev sNou : Stmt := topS 20
abbrev sPlo : Stmt := topS 22
abbrev sMat : Stmt := topS 23
abbrev nNum : List Str := ["thing"]
theorem scNum : FnScope nNum ["thing"] (defScope sNum) := ⟨rfl, rfl, rfl, by decide +kernel, rfl, by decide +kernel, by decide +kernel⟩
abbrev nPl : List Str := ["thing", "many"]
theorem scPl : FnScope nPl ["thing", "many"] (defScope sPl) := ⟨rfl, rfl, rfl, by decide +kernel, rfl, by decide +kernel, by decide +kernel⟩
abbrev nBas : List Str := ["canal", "water"]
theorem scBas : FnScope nBas ["canal", "water"] (defScope sBas) := ⟨rfl, rfl, rfl, by decide +kernel, rfl, by decide +kernel, by decide +kernel⟩
abbrev nNou : List Str := ["many", "each"]
theorem scNou : FnScope nNou ["many"] (defScope sNou) := ⟨rfl, rfl, rfl, by decide +kernel, rfl, by decide +kernel, by decide +kernel⟩
abbrev nPlo : List Str := ["water"]
theorem scPlo : FnScope nPlo ["water"] (defScope sPlo) := ⟨rfl, rfl, rfl, by decide +kernel, rfl, by decide +kernel, by decide +kernel⟩
abbrev nMat : List Str := ["parts", "place", "at", "more", "part", "changed"]
theorem scMat : FnScope nMat ["parts", "place", "at", "more"] (defScope sMat) := ⟨rfl, rfl, rfl, by decide +kernel, rfl, by decide +kernel, by decide +kernel⟩
theorem nil_go {σ : L2.St} {H : Hp} {Q : List V → Hp → Prop} (h : Q [] H) : tNil σ H Q := h
theorem cutTo (xs : List V) (j : Nat) : cutV xs none (some (j : Int)) = xs.take j := by
  unfold cutV
  rw [HT.sIx_none, HT.sIx_nat, List.drop_zero, Nat.sub_zero]
  rcases Nat.le_total j xs.length with h | h
  · rw [Nat.min_eq_left h]
  · rw [Nat.min_eq_right h, List.take_of_length_le (Nat.le_refl _), List.take_of_length_le h]
theorem cutFrom (xs : List V) (j : Nat) : cutV xs (some (j : Int)) none = xs.drop j := by
  unfold cutV
  rw [HT.sIx_none, HT.sIx_nat]
  rcases Nat.le_total j xs.length with h | h
  · rw [Nat.min_eq_left h, List.take_of_length_le (by rw [List.length_drop]; omega)]
  · rw [Nat.min_eq_right h, List.drop_of_length_le (Nat.le_refl _), List.drop_of_length_le h, List.take_nil]
/-- a list with one thing put anew, by what's ahead and behind -/
theorem set_cut {α : Type} : ∀ (xs : List α) (i : Nat) (y : α), i < xs.length → xs.take i ++ [y] ++ xs.drop (i + 1) = xs.set i y
  | [], i, y, h => by simp at h
  | x :: xs, 0, y, h => rfl
  | x :: xs, i + 1, y, h => by
    show x :: (xs.take i ++ [y] ++ xs.drop (i + 1)) = x :: xs.set i y
    rw [set_cut xs i y (by simpa using h)]
section
variable {K : PySem.W.Frag} {H : Hp}
theorem dpAll_mk : ∀ {vs : List V} {ds : List PyData}, vs.length = ds.length → (∀ (j : Nat) v d, vs[j]? = some v → ds[j]? = some d → Dp K H v d) → DpAll K H vs ds
  | [], [], _, _ => .nil
  | [], _ :: _, h, _ => by simp at h
  | _ :: _, [], h, _ => by simp at h
  | v :: vs, d :: ds, h, hd => .cons (hd 0 v d rfl rfl) (dpAll_mk (by simpa using h) fun j v d h1 h2 => hd (j + 1) v d h1 h2)
theorem dp_it {v : V} {zs : List Int} (h : Dp K H v (.tuple (intsD zs))) : ∃ t, v = .ref t ∧ SqT K H t (zs.map V.int) := by
  cases h with
  | tup hs ha =>
    rename_i a xs
    refine ⟨a, rfl, ?_⟩
    have e : xs = zs.map V.int := by
      clear hs
      induction zs generalizing xs with
      | nil => cases ha; rfl
      | cons z zs ih =>
        cases ha with
        | cons c r =>
          cases c
          rw [List.map_cons, ← ih r]
    rw [← e]; exact hs
/-- a tuple of tuples of numbers -/
def pssD (pss : List (List Int)) : PyData := .tuple (pss.map fun zs => .tuple (intsD zs))
theorem pss_of {v : V} {pss : List (List Int)} (h : Dp K H v (pssD pss)) : ∃ a vs, v = .ref a ∧ SqT K H a vs ∧ vs.length = pss.length ∧ DpAll K H vs (pss.map fun zs => .tuple (intsD zs)) ∧ ∀ (j : Nat) u zs, vs[j]? = some u → pss[j]? = some zs → ∃ t, u = .ref t ∧ SqT K H t (zs.map V.int) := by
  unfold pssD at h
  cases h with
  | tup hs ha =>
    rename_i a xs
    refine ⟨a, xs, rfl, hs, by rw [DpAll.length ha, List.length_map], ha, fun j u zs hu hz => ?_⟩
    obtain ⟨d, ed, pd⟩ := DpAll.get ha hu
    rw [List.getElem?_map, hz] at ed
    obtain rfl := Option.some.inj ed
    exact dp_it pd
theorem dpall_set {vs : List V} {ds : List PyData} : ∀ {i : Nat} {v : V} {d : PyData}, DpAll K H vs ds → Dp K H v d → DpAll K H (vs.set i v) (ds.set i d) := by
  intro i v d h hd
  refine dpAll_mk (by rw [List.length_set, List.length_set, DpAll.length h]) fun j u e hu he => ?_
  rw [List.getElem?_set] at hu he
  rw [DpAll.length h] at hu
  by_cases hij : i = j
  · rw [if_pos hij] at hu he
    split at hu
    · rename_i hl
      rw [if_pos hl] at he
      cases hu; cases he; exact hd
    · cases hu
  · rw [if_neg hij] at hu he
    obtain ⟨d', e1, p⟩ := DpAll.get h hu
    rw [he] at e1
    cases e1; exact p
end
section
variable {P : Program} {w : World} {K : PySem.W.Frag} {mg : Str → Option Value} {base : Heap}
/-! ### is_number, is_place: of numbers -/
def spNum : Sp := fun vs H Q _ => ∃ i : Int, vs = [.int i] ∧ Q (.bl true) H
theorem ok_num {f : Addr} {fd : FuncData} {k : Nat} (F : Fun K "is_number" "is_number" sNum f fd) (m_isinstance : mg "isinstance" = none) (m_int : mg "int" = none) (m_bool : mg "bool" = none) : FnOk P w K mg base CX0 (k + 1) f fd ["thing"] spNum := by
  refine F.ok scNum (fun vs H Q E h => ?_) (fun cdv A outer s H vs Q E hr h => ?_)
  · obtain ⟨i, rfl, _⟩ := h
    rfl
  obtain ⟨i, rfl, q⟩ := h
  refine ⟨_, (pss_one (ps_ret (pe_and (pe_callB call_isi rfl m_isinstance boot_isinstance (pa_cons (pv 0) (pa_cons (pe_bltn (v := .ty "int") rfl m_int boot_int' rfl) pa_nil))) (pe_one (pe_not (pe_callB call_isi rfl m_isinstance boot_isinstance (pa_cons (pv 0) (pa_cons (pe_bltn (v := .ty "bool") rfl m_bool boot_bool' rfl) pa_nil)))))))), ?_⟩
  refine ⟨_, rfl, _, _, _, _, true, rfl, .ty _, tyx_of (K := K) (.int i), kit_int i, _, rfl, iteT ?_⟩
  refine ⟨_, rfl, _, _, _, _, false, rfl, .ty _, tyx_of (K := K) (.int i), kit_bool (.int i), _, rfl, q⟩
def spPl : Sp := fun vs H Q _ => ∃ i n : Int, vs = [.int i, .int n] ∧ Q (.bl (decide (0 ≤ i ∧ i < n))) H
theorem ok_pl {f fn : Addr} {fd fdn : FuncData} {k : Nat} (F : Fun K "is_place" "is_place" sPl f fd) (Nu : Fns P w K mg base k "is_number" ["thing"] spNum fn fdn) : FnOk P w K mg base CX0 (k + 1) f fd ["thing", "many"] spPl := by
  refine F.ok scPl (fun vs H Q E h => ?_) (fun cdv A outer s H vs Q E hr h => ?_)
  · obtain ⟨i, n, rfl, _⟩ := h
    rfl
  obtain ⟨i, n, rfl, q⟩ := h
  refine ⟨_, (pss_one (ps_ret (pe_and (pe_fn Nu hr rfl (pa_cons (pv 0) pa_nil)) (pe_one (pe_chain op_le op_lt pe_int (pv 0) (pv 1)))))), ?_⟩
  refine ⟨_, rfl, nil_go ⟨i, rfl, _, rfl, iteT ?_⟩⟩
  refine ⟨_, rfl, _, _, rfl, rfl, _, rfl, ?_⟩
  by_cases h0 : 0 ≤ i
  · rw [decide_eq_true h0]
    refine iteT ⟨_, rfl, _, _, rfl, rfl, ?_⟩
    rw [show decide (0 ≤ i ∧ i < n) = decide (i < n) from by simp [h0]] at q
    exact q
  · rw [decide_eq_false h0]
    rw [show decide (0 ≤ i ∧ i < n) = false from by simp [h0]] at q
    exact iteF q
/-! ### basins_of, place_of -/
def spBas (K : PySem.W.Frag) : Sp := fun vs H Q _ => ∃ (v : V) (r : Bool) (c : Cn), vs = [v, .str (wS r)] ∧ Dp K H v (cnD c) ∧ Q (.int (if r = true then c.r else c.b)) H
theorem ok_bas {f : Addr} {fd : FuncData} {k : Nat} {tR : Tok} (F : Fun K "basins_of" "basins_of" sBas f fd) (gRED : mg "RED" = some (.str "red" tR)) : FnOk P w K mg base CX0 (k + 1) f fd ["canal", "water"] (spBas K) := by
  refine F.ok scBas (fun vs H Q E h => ?_) (fun cdv A outer s H vs Q E hr h => ?_)
  · obtain ⟨v, r, c, rfl, _⟩ := h
    rfl
  obtain ⟨v, r, c, rfl, hc, q⟩ := h
  obtain ⟨a, g, gs, rfl, ha, hg, hl⟩ := cn_of hc
  refine ⟨_, (pss_one (ps_ret (pe_ifExp (pt_cmpR op_eq (pv 1) (pe_glob (v := .str "red") rfl gRED ⟨_, rfl⟩) (nomark _)) (pe_ix (r := rIxA K) ix_any (pv 0) pe_int (fun _ _ => rfl)) (pe_ix (r := rIxA K) ix_any (pv 0) pe_int (fun _ _ => rfl))))), ?_⟩
  refine ⟨_, rfl, rfl, _, rfl, ?_⟩
  cases r with
  | true => exact iteT ⟨_, rfl, a, _, _, _, rfl, rfl, .inr ha, rfl, q⟩
  | false => exact iteF ⟨_, rfl, a, _, _, _, rfl, rfl, .inr ha, rfl, q⟩
def plW (r : Bool) : Nat := if r = true then 0 else 1
def spPlo : Sp := fun vs H Q _ => ∃ r : Bool, vs = [.str (wS r)] ∧ Q (.int (plW r : Nat)) H
theorem ok_plo {f : Addr} {fd : FuncData} {k : Nat} {tR : Tok} (F : Fun K "place_of" "place_of" sPlo f fd) (gRED : mg "RED" = some (.str "red" tR)) : FnOk P w K mg base CX0 (k + 1) f fd ["water"] spPlo := by
  refine F.ok scPlo (fun vs H Q E h => ?_) (fun cdv A outer s H vs Q E hr h => ?_)
  · obtain ⟨r, rfl, _⟩ := h
    rfl
  obtain ⟨r, rfl, q⟩ := h
  refine ⟨_, (pss_one (ps_ret (pe_ifExp (pt_cmpR op_eq (pv 0) (pe_glob (v := .str "red") rfl gRED ⟨_, rfl⟩) (nomark _)) pe_int pe_int))), ?_⟩
  refine ⟨_, rfl, rfl, _, rfl, ?_⟩
  cases r with
  | true => exact iteT q
  | false => exact iteF q
/-! ### noughts -/
def spNou (K : PySem.W.Frag) : Sp := fun vs H Q _ => ∃ n : Nat, vs = [.int (n : Nat)] ∧ n ≤ 1000 ∧ ∀ v H', Same H H' → Dp K H' v (.tuple (intsD (List.replicate n 0))) → Q v H'
theorem ok_nou {f : Addr} {fd : FuncData} {k : Nat} (F : Fun K "noughts" "noughts" sNou f fd) (m_tuple : mg "tuple" = none) (m_range : mg "range" = none) : FnOk P w K mg base CX0 (k + 1) f fd ["many"] (spNou K) := by
  refine F.ok scNou (fun vs H Q E h => ?_) (fun cdv A outer s H vs Q E hr h => ?_)
  · obtain ⟨n, rfl, _⟩ := h
    rfl
  obtain ⟨n, rfl, hn, q⟩ := h
  refine ⟨_, (pss_one (ps_ret (pe_callTy (r := rTupA K) call_tupleA rfl m_tuple boot_tuple (pa_cons (pe_lc (own := [("each", 1)]) (g := gName 1) (tt := tYes) rfl scNou.nd (pi_range1 rfl m_range (pa_cons (pv 0) pa_nil)) (blkOk_by (own := [("each", 1)]) (N := nNou) (sc := defScope sNou) (by decide +kernel)) (fun _ _ _ _ _ => (pg_name (i := 1) scNou.nd rfl (.inl rfl))) (fun _ _ _ _ _ => pts_nil) (fun _ _ _ _ _ => pe_hide pe_int)) pa_nil)))), ?_⟩
  refine ⟨_, rfl, nil_go ⟨_, rfl, by omega, by omega, ?_⟩⟩
  rw [show ((n : Nat) : Int).toNat = n from by omega]
  refine lc_map walk_range Same (fun a b => a.trans b) (fun j y F => y = .int 0) (fun j y A B s p => p) (small1000 hn) (Same.refl _) (fun F2 D2 acc dF2 nF2 => trivial) (fun j y D acc F H' hj nD sF nF hy B hB => ?_) (fun D ys F nD sF nF hyl hR => ?_)
  · obtain ⟨rfl, rfl⟩ := hy
    exact hB _ F rfl nF fun Qt hq => hq _ _ (Same.refl _) rfl
  have ey : ys = (List.replicate n (0 : Int)).map V.int := by
    refine List.ext_getElem? fun i => ?_
    rw [List.map_replicate]
    cases hy : ys[i]? with
    | none =>
      rw [List.getElem?_eq_none_iff, hyl] at hy
      rw [List.getElem?_eq_none (by rw [List.length_replicate]; exact hy)]
    | some y =>
      have hi := (List.getElem?_eq_some_iff.mp hy).1
      rw [List.getElem?_replicate_of_lt (by omega), hR i y hy]
  subst ey
  refine nil_go ⟨D, _, rfl, .inl ⟨SqL.of upd_same, fun l nl => ?_⟩⟩
  have s1 := sF.trans ((same_new nF (o := .lst ((List.replicate n (0 : Int)).map V.int))).trans (same_new nl (o := .tup ((List.replicate n (0 : Int)).map V.int))))
  exact q (.ref l) _ s1 (.tup (.inl (.inl upd_same)) (dp_ints _))
/-! ### more_at -/
def bump2 (pss : List (List Int)) (p i : Nat) (x : Int) : List (List Int) := pss.set p ((pss.getD p []).set i ((pss.getD p []).getD i 0 + x))
def spMat (K : PySem.W.Frag) : Sp := fun vs H Q _ => ∃ (v : V) (pss : List (List Int)) (p i : Nat) (x : Int), vs = [v, .int (p : Nat), .int (i : Nat), .int x] ∧ Dp K H v (pssD pss) ∧ p < pss.length ∧ i < (pss.getD p []).length ∧ pss.length ≤ 1000 ∧ (pss.getD p []).length ≤ 1000 ∧ ∀ v' H', Same H H' → Dp K H' v' (pssD (bump2 pss p i x)) → Q v' H'
theorem ok_mat {f : Addr} {fd : FuncData} {k : Nat} (F : Fun K "more_at" "more_at" sMat f fd) : FnOk P w K mg base CX0 (k + 1) f fd ["parts", "place", "at", "more"] (spMat K) := by
  refine F.ok scMat (fun vs H Q E h => ?_) (fun cdv A outer s H vs Q E hr h => ?_)
  · obtain ⟨v, pss, p, i, x, rfl, _⟩ := h
    rfl
  obtain ⟨v, pss, p, i, x, rfl, hv, hp, hi, hl1, hl2, q⟩ := h
  obtain ⟨a, vs, rfl, ha, hvl, hvd, hvi⟩ := pss_of hv
  refine ⟨_, (pss_cons (ps_set (i := 4) scMat.nd rfl (.inl rfl) (pe_ix (r := rIxA K) ix_any (pv 0) (pv 1) (fun _ _ => rfl)))
    (pss_cons (ps_set (i := 5) scMat.nd rfl (.inl rfl) (pe_op op_catU (pe_op op_catU (pe_slice (r := rSlU K) sl_tupU (pv 4) po_none (po_some (pv 2))) (pe_tup (pa_cons (pe_op op_add (pe_ix (r := rIxA K) ix_any (pv 4) (pv 2) (fun _ _ => rfl)) (pv 3)) pa_nil))) (pe_slice (r := rSlU K) sl_tupU (pv 4) (po_some (pe_op op_add (pv 2) pe_int)) po_none)))
    (pss_one (ps_ret (pe_op op_catU (pe_op op_catU (pe_slice (r := rSlU K) sl_tupU (pv 0) po_none (po_some (pv 1))) (pe_tup (pa_cons (pv 5) pa_nil))) (pe_slice (r := rSlU K) sl_tupU (pv 0) (po_some (pe_op op_add (pv 1) pe_int)) po_none)))))), ?_⟩
  obtain ⟨zs, hz⟩ : ∃ zs, pss[p]? = some zs := ⟨_, List.getElem?_eq_getElem hp⟩
  have ezs : pss.getD p [] = zs := by rw [List.getD_eq_getElem?_getD, hz]; rfl
  obtain ⟨u, hu⟩ : ∃ u, vs[p]? = some u := ⟨_, List.getElem?_eq_getElem (by omega)⟩
  obtain ⟨t, rfl, ht⟩ := hvi p u zs hu hz
  unfold bump2 at q
  rw [ezs] at q hi hl2
  obtain ⟨y, hy⟩ : ∃ y, zs[i]? = some y := ⟨_, List.getElem?_eq_getElem hi⟩
  rw [show zs.getD i 0 = y from by rw [List.getD_eq_getElem?_getD, hy]; rfl] at q
  refine ⟨_, rfl, _, rfl, a, _, _, _, rfl, rfl, .inr ha, atI_nat hu, ?_⟩
  refine at_g (σ' := [some (.ref a), some (.int (p : Nat)), some (.int (i : Nat)), some (.int x), some (.ref t), none]) rfl ?_
  refine ⟨_, rfl, _, rfl, _, rfl, t, _, rfl, ht, fun p1 H1 s1 e1 => ?_⟩
  rw [cutTo] at e1
  refine ⟨_, rfl, _, rfl, t, _, _, _, rfl, rfl, .inr (Same.tup s1 ht), atI_nat (by rw [List.getElem?_map, hy]; rfl), _, rfl, _, _, rfl, rfl, (by show 1 ≤ sizeLine; decide), fun p2 n2 => ?_⟩
  have s2 := same_new n2 (o := .tup [.int (y + x)])
  refine ⟨p1, p2, _, _, rfl, rfl, Same.tup s2 e1, .inl (.inl upd_same), ?_, fun p3 H3 s3 e3 => ?_⟩
  · rw [List.length_take, List.length_map]; exact Nat.le_of_lt (small1000 (n := min i zs.length + 1) (by omega))
  have s13 := s1.trans (s2.trans s3)
  refine ⟨_, rfl, _, rfl, _, _, rfl, rfl, _, rfl, t, _, rfl, Same.tup s13 ht, fun p4 H4 s4 e4 => ?_⟩
  rw [show ((i : Nat) : Int) + 1 = ((i + 1 : Nat) : Int) from by omega, cutFrom] at e4
  refine ⟨p3, p4, _, _, rfl, rfl, Same.tup s4 e3, e4, ?_, fun p5 H5 s5 e5 => ?_⟩
  · rw [List.length_append, List.length_take, List.length_drop, List.length_map]; exact Nat.le_of_lt (small1000 (n := min i zs.length + 1 + (zs.length - (i + 1))) (by omega))
  rw [set_cut _ _ _ (by rw [List.length_map]; exact hi)] at e5
  refine at_g (σ' := [some (.ref a), some (.int (p : Nat)), some (.int (i : Nat)), some (.int x), some (.ref t), some (.ref p5)]) rfl ?_
  have h5 : Dp K H5 (.ref p5) (.tuple (intsD (zs.set i (y + x)))) := .tup e5 (by show DpAll K H5 ((zs.map V.int).set i (V.int (y + x))) _; rw [← List.map_set]; exact dp_ints _)
  have s15 := s13.trans (s4.trans s5)
  have ha5 := Same.tup s15 ha
  refine ⟨_, rfl, _, rfl, _, rfl, a, _, rfl, ha5, fun r1 G1 g1 f1 => ?_⟩
  rw [cutTo] at f1
  refine ⟨_, rfl, (by show 1 ≤ sizeLine; decide), fun r2 m2 => ?_⟩
  have g2 := same_new m2 (o := .tup [.ref p5])
  refine ⟨r1, r2, _, _, rfl, rfl, Same.tup g2 f1, .inl (.inl upd_same), ?_, fun r3 G3 g3 f3 => ?_⟩
  · rw [List.length_take]; exact Nat.le_of_lt (small1000 (n := min p vs.length + 1) (by omega))
  have g13 := g1.trans (g2.trans g3)
  refine ⟨_, rfl, _, rfl, _, _, rfl, rfl, _, rfl, a, _, rfl, Same.tup g13 ha5, fun r4 G4 g4 f4 => ?_⟩
  rw [show ((p : Nat) : Int) + 1 = ((p + 1 : Nat) : Int) from by omega, cutFrom] at f4
  refine ⟨r3, r4, _, _, rfl, rfl, Same.tup g4 f3, f4, ?_, fun r5 G5 g5 f5 => ?_⟩
  · rw [List.length_append, List.length_take, List.length_drop]; exact Nat.le_of_lt (small1000 (n := min p vs.length + 1 + (vs.length - (p + 1))) (by omega))
  rw [set_cut _ _ _ (by omega)] at f5
  have g15 := g13.trans (g4.trans g5)
  refine q (.ref r5) _ (s15.trans g15) ?_
  unfold pssD
  rw [List.map_set]
  exact .tup f5 (dpall_set (DpAll.same (s15.trans g15) _ hvd) (Dp.same g15 _ h5))
end
end XL
namespace XL
open PySem PySem.Spec PyProof.Rows L2
abbrev sSel : Stmt := topS 24
abbrev sSeb : Stmt := topS 25
abbrev sBh : Stmt := topS 28
abbrev sWl : Stmt := topS 33
abbrev nSel : List Str := ["moment", "lock"]
theorem scSel : FnScope nSel ["moment", "lock"] (defScope sSel) := ⟨rfl, rfl, rfl, by decide +kernel, rfl, by decide +kernel, by decide +kernel⟩
abbrev nSeb : List Str := ["moment", "water", "basin"]
theorem scSeb : FnScope nSeb ["moment", "water", "basin"] (defScope sSeb) := ⟨rfl, rfl, rfl, by decide +kernel, rfl, by decide +kernel, by decide +kernel⟩
abbrev nBh : List Str := ["moment", "place", "at", "more", "canal", "standing", "hands", "went"]
theorem scBh : FnScope nBh ["moment", "place", "at", "more"] (defScope sBh) := ⟨rfl, rfl, rfl, by decide +kernel, rfl, by decide +kernel, by decide +kernel⟩
abbrev nWl : List Str := ["parts"]
theorem scWl : FnScope nWl ["parts"] (defScope sWl) := ⟨rfl, rfl, rfl, by decide +kernel, rfl, by decide +kernel, by decide +kernel⟩
/-! ### what is kept of one moment -/
structure Mo where
  c : Cn
  s : Sn
  h : List (List Int)
  w : List (List Int)
def moD (m : Mo) : PyData := .tuple [cnD m.c, snD m.s, pssD m.h, pssD m.w]
structure okMo (m : Mo) : Prop where
  c : okCn 100 100 m.c
  s : ∃ B, okSn m.c B m.s
  h : m.h.length = 3
  h0 : ((m.h.getD 0 []).length : Int) = m.c.r
  h1 : ((m.h.getD 1 []).length : Int) = m.c.b
  h2 : (m.h.getD 2 []).length = m.c.ls.length
  w : m.w.length = 2
  w0 : (m.w.getD 0 []).length = m.c.ls.length
  w1 : (m.w.getD 1 []).length = m.c.ls.length
def snL (s : Sn) : List (List Int) := [s.rs, s.bs, s.ls]
def snOf (l : List (List Int)) : Sn := ⟨l.getD 0 [], l.getD 1 [], l.getD 2 []⟩
def upS (s : Sn) (p i : Nat) (x : Int) : Sn := snOf (bump2 (snL s) p i x)
theorem bump2_len (pss : List (List Int)) (p i : Nat) (x : Int) : (bump2 pss p i x).length = pss.length := by unfold bump2; rw [List.length_set]
theorem bump_part (pss : List (List Int)) (p i j : Nat) (x : Int) : ((bump2 pss p i x).getD j []).length = (pss.getD j []).length := by
  unfold bump2
  simp only [List.getD_eq_getElem?_getD, List.getElem?_set]
  by_cases h : p = j
  · subst h
    by_cases hl : p < pss.length
    · rw [if_pos rfl, if_pos hl, List.getElem?_eq_getElem hl]
      show (List.set _ _ _).length = _
      rw [List.length_set]
    · rw [if_pos rfl, if_neg hl, List.getElem?_eq_none (by omega)]
  · rw [if_neg h]
theorem snL_of {l : List (List Int)} (h : l.length = 3) : snL (snOf l) = l := by
  match l, h with
  | [a, b, c], _ => rfl
theorem snD_up (s : Sn) (p i : Nat) (x : Int) : snD (upS s p i x) = pssD (bump2 (snL s) p i x) := by
  have h : snL (upS s p i x) = bump2 (snL s) p i x := snL_of (by rw [bump2_len]; rfl)
  rw [← h]; rfl
/-! ### refusals -/
inductive Rf
  | lock (i : Int) | basin (i : Int) | deed (i : Int) | boat (i : Nat) (r : Bool) | short (x : Int)
structure Ks where
  L : Addr
  S : Addr
  D : Addr
  B : Addr
  O : Addr
/-- a refusal has left: its own dict, with its field, is new -/
def rfK (X : Ks) (H : Hp) (e : Rf) (E : XK) : Prop := match e with
  | .lock i => ∀ d H', Same H H' → H d = none → H' d = some (.xd [("lock", .int i)]) → E (.ref X.L) (some d) H'
  | .basin i => ∀ d H', Same H H' → H d = none → H' d = some (.xd [("basin", .int i)]) → E (.ref X.S) (some d) H'
  | .deed i => ∀ d H', Same H H' → H d = none → H' d = some (.xd [("many", .int i)]) → E (.ref X.D) (some d) H'
  | .boat i r => ∀ d t H', Same H H' → H d = none → H' d = some (.xd [("going", .ref t)]) → H' t = some (.tup (mvV (i, r))) → E (.ref X.B) (some d) H'
  | .short x => ∀ d H', Same H H' → H d = none → H' d = some (.xd [("many", .int x)]) → E (.ref X.O) (some d) H'
theorem rfK.same {X : Ks} {H H1 : Hp} {e : Rf} {E : XK} (h : rfK X H e E) (s : Same H H1) : rfK X H1 e E := by
  cases e with
  | boat i r => exact fun d t H' s2 n e1 e2 => h d t H' (s.trans s2) (s.free n) e1 e2
  | _ => exact fun d H' s2 n e1 => h d H' (s.trans s2) (s.free n) e1
section
variable {K : PySem.W.Frag} {H : Hp}
theorem dpall3 {vs : List V} {d1 d2 d3 : PyData} (h : DpAll K H vs [d1, d2, d3]) : ∃ u1 u2 u3, vs = [u1, u2, u3] ∧ Dp K H u1 d1 ∧ Dp K H u2 d2 ∧ Dp K H u3 d3 := by
  cases h with
  | cons c1 t1 =>
    cases t1 with
    | cons c2 t2 =>
      cases t2 with
      | cons c3 t3 => cases t3; exact ⟨_, _, _, rfl, c1, c2, c3⟩
theorem mo_of {v : V} {m : Mo} (h : Dp K H v (moD m)) : ∃ a vc vs vh vw, v = .ref a ∧ SqT K H a [vc, vs, vh, vw] ∧ Dp K H vc (cnD m.c) ∧ Dp K H vs (snD m.s) ∧ Dp K H vh (pssD m.h) ∧ Dp K H vw (pssD m.w) := by
  cases h with
  | tup hs ha =>
    cases ha with
    | cons c1 t1 =>
      cases t1 with
      | cons c2 t2 =>
        cases t2 with
        | cons c3 t3 =>
          cases t3 with
          | cons c4 t4 =>
            cases t4
            exact ⟨_, _, _, _, _, rfl, hs, c1, c2, c3, c4⟩
theorem noLs_pss : ∀ pss : List (List Int), noLs (pss.map fun zs => PyData.tuple (intsD zs)) = true
  | [] => rfl
  | z :: pss => by
    show noLs (.tuple (intsD z) :: _) = true
    rw [noLs, noLs_pss pss, noL, noLs_ints]; rfl
theorem noL_mo (m : Mo) : noL (moD m) = true := by
  show noLs [cnD m.c, snD m.s, pssD m.h, pssD m.w] = true
  rw [noLs, noLs, noLs, noLs, noL_cn, noL_sn, show noL (pssD m.h) = true from noLs_pss m.h, show noL (pssD m.w) = true from noLs_pss m.w]; rfl
end
section
variable {P : Program} {w : World} {K : PySem.W.Frag} {mg : Str → Option Value} {base : Heap}
/-! ### seek_lock, seek_basin -/
def spSel (K : PySem.W.Frag) (X : Ks) : Sp := fun vs H Q E => ∃ (v : V) (m : Mo) (i : Int), vs = [v, .int i] ∧ Dp K H v (moD m) ∧ (0 ≤ i ∧ i < m.c.ls.length → Q .non H) ∧ (¬ (0 ≤ i ∧ i < m.c.ls.length) → rfK X H (.lock i) E)
theorem ok_sel {f fp fL : Addr} {fd fdp fdL : FuncData} {k : Nat} {X : Ks} (F : Fun K "seek_lock" "seek_lock" sSel f fd) (Pl : Fns P w K mg base (k + 2) "is_place" ["thing", "many"] spPl fp fdp) (TL : Er P w K mg base "NoLock" 1 X.L fL fdL ["self", "lock"] (spI X.L "lock")) (m_len : mg "len" = none) : FnOk P w K mg base (L2.CX P w) (k + 2 + 1) f fd ["moment", "lock"] (spSel K X) := by
  refine F.okX scSel (fun vs H Q E h => ?_) (fun cdv A outer s H vs Q E hr2 h => ?_)
  · obtain ⟨v, m, i, rfl, _⟩ := h
    rfl
  obtain ⟨v, m, i, rfl, hv, qy, qn⟩ := h
  obtain ⟨a, vc, vs, vh, vw, rfl, ha, hc, hs, hh, hw⟩ := mo_of hv
  obtain ⟨ca, g, gs, rfl, hca, hg, hgs⟩ := cn_of hc
  have hgl : gs.length = m.c.ls.length := by rw [DpAll.length hgs, List.length_map]
  have hr : Room (k + 2) _ := hr2
  have hrB : Room (1 + 1) _ := hr2.mono (by omega)
  refine ⟨_, (pss_one (ps_if (pt_not (pt_val (pe_fn Pl hr rfl (pa_cons (pv 1) (pa_cons (pe_callB (r := rLenA K) call_lenA rfl m_len PySem.boot_len (pa_cons (pe_ix (r := rIxA K) ix_any (pe_ix (r := rIxA K) ix_any (pv 0) pe_int (fun _ _ => rfl)) pe_int (fun _ _ => rfl)) pa_nil)) pa_nil))))) (pss_one (ps_raise rfl (takes_of rfl rfl rfl rfl) (pmk_ex TL.ex TL.ty TL.ini TL.tI TL.ok hrB TL.bi rfl TL.g (pa_cons (pv 1) pa_nil)))) pss_nil)), ?_⟩
  refine ⟨_, rfl, _, rfl, a, _, _, _, rfl, rfl, .inr ha, rfl, ca, _, _, _, rfl, rfl, .inr hca, rfl, nil_go ⟨g, _, rfl, .inr hg, nil_go ⟨i, _, rfl, _, rfl, ?_⟩⟩⟩
  rw [hgl]
  by_cases hi : 0 ≤ i ∧ i < (m.c.ls.length : Int)
  · rw [decide_eq_true hi]
    exact iteF (qy hi)
  · rw [decide_eq_false hi]
    refine iteT ?_
    refine ⟨_, rfl, (by show 1 ≤ 1000; decide), fun b nb => ?_⟩
    refine ⟨b, .int i, rfl, upd_same, fun dx nx nxa => ⟨rfl, dx, [("lock", .int i)], upd_same, by rw [upd_ne nxa, upd_same], by rw [upd_ne nxa] at nx; exact nx, ?_⟩⟩
    have nx' : H dx = none := by rw [upd_ne nxa] at nx; exact nx
    rw [del_upd' nb nxa]
    exact qn hi dx _ (same_new nx') nx' upd_same
def spSeb (K : PySem.W.Frag) (X : Ks) : Sp := fun vs H Q E => ∃ (v : V) (m : Mo) (r : Bool) (i : Int), vs = [v, .str (wS r), .int i] ∧ Dp K H v (moD m) ∧ (0 ≤ i ∧ i < (if r = true then m.c.r else m.c.b) → Q .non H) ∧ (¬ (0 ≤ i ∧ i < (if r = true then m.c.r else m.c.b)) → rfK X H (.basin i) E)
theorem ok_seb {f fp fb fL : Addr} {fd fdp fdb fdL : FuncData} {k : Nat} {X : Ks} (F : Fun K "seek_basin" "seek_basin" sSeb f fd) (Pl : Fns P w K mg base (k + 2) "is_place" ["thing", "many"] spPl fp fdp) (Ba : Fns P w K mg base (k + 2) "basins_of" ["canal", "water"] (spBas K) fb fdb) (TS : Er P w K mg base "NoBasin" 1 X.S fL fdL ["self", "basin"] (spI X.S "basin")) : FnOk P w K mg base (L2.CX P w) (k + 2 + 1) f fd ["moment", "water", "basin"] (spSeb K X) := by
  refine F.okX scSeb (fun vs H Q E h => ?_) (fun cdv A outer s H vs Q E hr2 h => ?_)
  · obtain ⟨v, m, r, i, rfl, _⟩ := h
    rfl
  obtain ⟨v, m, r, i, rfl, hv, qy, qn⟩ := h
  obtain ⟨a, vc, vs, vh, vw, rfl, ha, hc, hs, hh, hw⟩ := mo_of hv
  have hr : Room (k + 2) _ := hr2
  have hrB : Room (1 + 1) _ := hr2.mono (by omega)
  refine ⟨_, (pss_one (ps_if (pt_not (pt_val (pe_fn Pl hr rfl (pa_cons (pv 2) (pa_cons (pe_fn Ba hr rfl (pa_cons (pe_ix (r := rIxA K) ix_any (pv 0) pe_int (fun _ _ => rfl)) (pa_cons (pv 1) pa_nil))) pa_nil))))) (pss_one (ps_raise rfl (takes_of rfl rfl rfl rfl) (pmk_ex TS.ex TS.ty TS.ini TS.tI TS.ok hrB TS.bi rfl TS.g (pa_cons (pv 2) pa_nil)))) pss_nil)), ?_⟩
  refine ⟨_, rfl, _, rfl, a, _, _, _, rfl, rfl, .inr ha, rfl, _, rfl, nil_go ⟨vc, r, m.c, rfl, hc, nil_go ⟨i, _, rfl, _, rfl, ?_⟩⟩⟩
  by_cases hi : 0 ≤ i ∧ i < (if r = true then m.c.r else m.c.b)
  · rw [decide_eq_true hi]
    exact iteF (qy hi)
  · rw [decide_eq_false hi]
    refine iteT ?_
    refine ⟨_, rfl, (by show 1 ≤ 1000; decide), fun b nb => ?_⟩
    refine ⟨b, .int i, rfl, upd_same, fun dx nx nxa => ⟨rfl, dx, [("basin", .int i)], upd_same, by rw [upd_ne nxa, upd_same], by rw [upd_ne nxa] at nx; exact nx, ?_⟩⟩
    have nx' : H dx = none := by rw [upd_ne nxa] at nx; exact nx
    rw [del_upd' nb nxa]
    exact qn hi dx _ (same_new nx') nx' upd_same
/-! ### by_hand, with_low -/
def handM (m : Mo) (p i : Nat) (x : Int) : Mo := ⟨m.c, upS m.s p i x, bump2 m.h p i x, m.w⟩
def spBh (K : PySem.W.Frag) : Sp := fun vs H Q _ => ∃ (v : V) (m : Mo) (p i : Nat) (x : Int), vs = [v, .int (p : Nat), .int (i : Nat), .int x] ∧ Dp K H v (moD m) ∧ okMo m ∧ p < 3 ∧ i < ((snL m.s).getD p []).length ∧ ∀ v' H', Same H H' → Dp K H' v' (moD (handM m p i x)) → Q v' H'
theorem part_len {m : Mo} (ok : okMo m) {p : Nat} (hp : p < 3) : ((snL m.s).getD p []).length = (m.h.getD p []).length ∧ ((snL m.s).getD p []).length ≤ 1000 := by
  obtain ⟨B, os⟩ := ok.s
  have oc := ok.c
  have a1 := os.r; have a2 := os.b; have a3 := os.n; have a4 := ok.h0; have a5 := ok.h1; have a6 := ok.h2
  have b1 := oc.r2; have b2 := oc.b2; have b3 := oc.n
  rcases (show p = 0 ∨ p = 1 ∨ p = 2 by omega) with rfl | rfl | rfl
  · show m.s.rs.length = _ ∧ m.s.rs.length ≤ _; omega
  · show m.s.bs.length = _ ∧ m.s.bs.length ≤ _; omega
  · show m.s.ls.length = _ ∧ m.s.ls.length ≤ _; omega
theorem ok_bh {f fm : Addr} {fd fdm : FuncData} {k : Nat} (F : Fun K "by_hand" "by_hand" sBh f fd) (Mo_ : Fns P w K mg base k "more_at" ["parts", "place", "at", "more"] (spMat K) fm fdm) : FnOk P w K mg base CX0 (k + 1) f fd ["moment", "place", "at", "more"] (spBh K) := by
  refine F.ok scBh (fun vs H Q E h => ?_) (fun cdv A outer s H vs Q E hr h => ?_)
  · obtain ⟨v, m, p, i, x, rfl, _⟩ := h
    rfl
  obtain ⟨v, m, p, i, x, rfl, hv, ok, hp, hi, q⟩ := h
  obtain ⟨a, vc, vs, vh, vw, rfl, ha, hc, hs, hh, hw⟩ := mo_of hv
  obtain ⟨pl1, pl2⟩ := part_len ok hp
  have hh3 := ok.h
  refine ⟨_, (pss_cons (ps_asg (pv 0) (pg_any rfl (pgs_cons (pg_name (i := 4) scBh.nd rfl (.inl rfl)) (pgs_cons (pg_name (i := 5) scBh.nd rfl (.inl rfl)) (pgs_cons (pg_name (i := 6) scBh.nd rfl (.inl rfl)) (pgs_cons (pg_name (i := 7) scBh.nd rfl (.inl rfl)) pgs_nil))))))
    (pss_one (ps_ret (pe_tup (pa_cons (pv 4) (pa_cons (pe_fn Mo_ hr rfl (pa_cons (pv 5) (pa_cons (pv 1) (pa_cons (pv 2) (pa_cons (pv 3) pa_nil))))) (pa_cons (pe_fn Mo_ hr rfl (pa_cons (pv 6) (pa_cons (pv 1) (pa_cons (pv 2) (pa_cons (pv 3) pa_nil))))) (pa_cons (pv 7) pa_nil)))))))), ?_⟩
  refine ⟨_, rfl, a, _, rfl, .inr ha, rfl, _, _, rfl, _, _, rfl, _, _, rfl, _, _, rfl, rfl, ?_⟩
  refine at_s (σ' := [some (.ref a), some (.int (p : Nat)), some (.int (i : Nat)), some (.int x), some vc, some vs, some vh, some vw]) rfl ?_
  refine ⟨_, rfl, _, rfl, _, rfl, _, rfl, _, rfl, nil_go ⟨vs, snL m.s, p, i, x, rfl, hs, hp, hi, (by show 3 ≤ 1000; decide), pl2, fun v1 H1 s1 d1 => ?_⟩⟩
  refine ⟨_, rfl, _, rfl, _, rfl, _, rfl, nil_go ⟨vh, m.h, p, i, x, rfl, Dp.same s1 _ hh, by omega, by omega, by omega, by omega, fun v2 H2 s2 d2 => ?_⟩⟩
  refine ⟨_, rfl, (by show 4 ≤ sizeLine; decide), fun t nt => ?_⟩
  have s3 := same_new nt (o := .tup [vc, v1, v2, vw])
  refine q (.ref t) _ (s1.trans (s2.trans s3)) (.tup (.inl (.inl upd_same)) (.cons (Dp.same (s1.trans (s2.trans s3)) _ hc) (.cons ?_ (.cons (Dp.same s3 _ d2) (.cons (Dp.same (s1.trans (s2.trans s3)) _ hw) .nil)))))
  show Dp K _ v1 (snD (upS m.s p i x))
  rw [snD_up]
  exact Dp.same (s2.trans s3) _ d1
def spWl (K : PySem.W.Frag) : Sp := fun vs H Q _ => ∃ (v : V) (x y z : List Int), vs = [v] ∧ Dp K H v (pssD [x, y, z]) ∧ z.length ≤ 999 ∧ ∀ v' H', Same H H' → Dp K H' v' (pssD [x, y, z ++ [0]]) → Q v' H'
theorem ok_wl {f : Addr} {fd : FuncData} {k : Nat} (F : Fun K "with_low" "with_low" sWl f fd) : FnOk P w K mg base CX0 (k + 1) f fd ["parts"] (spWl K) := by
  refine F.ok scWl (fun vs H Q E h => ?_) (fun cdv A outer s H vs Q E hr h => ?_)
  · obtain ⟨v, x, y, z, rfl, _⟩ := h
    rfl
  obtain ⟨v, x, y, z, rfl, hv, hz, q⟩ := h
  obtain ⟨a, vs, rfl, ha, hl, hd, _⟩ := pss_of hv
  refine ⟨_, (pss_one (ps_ret (pe_tup (pa_cons (pe_ix (r := rIxA K) ix_any (pv 0) pe_int (fun _ _ => rfl)) (pa_cons (pe_ix (r := rIxA K) ix_any (pv 0) pe_int (fun _ _ => rfl)) (pa_cons (pe_op op_catU (pe_ix (r := rIxA K) ix_any (pv 0) pe_int (fun _ _ => rfl)) (pe_tup (pa_cons pe_int pa_nil))) pa_nil)))))), ?_⟩
  obtain ⟨u1, u2, u3, rfl, c1, c2, c3⟩ := dpall3 hd
  obtain ⟨t, rfl, ht⟩ := dp_it c3
  refine ⟨_, rfl, a, _, _, _, rfl, rfl, .inr ha, rfl, _, rfl, a, _, _, _, rfl, rfl, .inr ha, rfl, _, rfl, a, _, _, _, rfl, rfl, .inr ha, rfl, (by show 1 ≤ sizeLine; decide), fun p np => ?_⟩
  have s1 := same_new np (o := .tup [.int 0])
  refine ⟨t, p, _, _, rfl, rfl, Same.tup s1 ht, .inl (.inl upd_same), ?_, fun p2 H2 s2 e2 => ⟨(by show 3 ≤ sizeLine; decide), fun p3 np3 => ?_⟩⟩
  · rw [List.length_map]; exact Nat.le_of_lt (small1000 (n := z.length + 1) (by omega))
  have s3 := same_new np3 (o := .tup [u1, u2, .ref p2])
  have s13 := s1.trans (s2.trans s3)
  refine q (.ref p3) _ s13 (.tup (.inl (.inl upd_same)) (.cons (Dp.same s13 _ c1) (.cons (Dp.same s13 _ c2) (.cons (.tup (xs := (z ++ [0]).map V.int) ?_ (dp_ints _)) .nil))))
  rw [List.map_append]
  exact Same.tup s3 e2
end
end XL
namespace XL
open PySem PySem.Spec PyProof.Rows L2
abbrev sBeg : Stmt := topS 21
abbrev sGb : Stmt := topS 26
abbrev sGa : Stmt := topS 27
abbrev sFi : Stmt := topS 29
abbrev sDra : Stmt := topS 30
abbrev sTur : Stmt := topS 31
abbrev sDug : Stmt := topS 32
abbrev nBeg : List Str := ["canal", "standing", "reds", "blues", "locks", "low"]
theorem scBeg : FnScope nBeg ["canal", "standing"] (defScope sBeg) := ⟨rfl, rfl, rfl, by decide +kernel, rfl, by decide +kernel, by decide +kernel⟩
abbrev nGb : List Str := ["moment", "lock", "water", "canal", "standing", "hands", "went", "more"]
theorem scGb : FnScope nGb ["moment", "lock", "water"] (defScope sGb) := ⟨rfl, rfl, rfl, by decide +kernel, rfl, by decide +kernel, by decide +kernel⟩
abbrev nGa : List Str := ["moment", "goings", "lock", "water"]
theorem scGa : FnScope nGa ["moment", "goings"] (defScope sGa) := ⟨rfl, rfl, rfl, by decide +kernel, rfl, by decide +kernel, by decide +kernel⟩
abbrev nFi : List Str := ["moment", "water", "basin", "many"]
theorem scFi : FnScope nFi ["moment", "water", "basin", "many"] (defScope sFi) := ⟨rfl, rfl, rfl, by decide +kernel, rfl, by decide +kernel, by decide +kernel⟩
abbrev nDra : List Str := ["moment", "water", "basin", "many", "lacks"]
theorem scDra : FnScope nDra ["moment", "water", "basin", "many"] (defScope sDra) := ⟨rfl, rfl, rfl, by decide +kernel, rfl, by decide +kernel, by decide +kernel⟩
abbrev nTur : List Str := ["moment", "lock"]
theorem scTur : FnScope nTur ["moment", "lock"] (defScope sTur) := ⟨rfl, rfl, rfl, by decide +kernel, rfl, by decide +kernel, by decide +kernel⟩
abbrev nDug : List Str := ["moment", "a", "c", "x", "y", "reds", "blues", "locks", "standing", "hands", "went", "basin", "many", "canal"]
theorem scDug : FnScope nDug ["moment", "a", "c", "x", "y"] (defScope sDug) := ⟨rfl, rfl, rfl, by decide +kernel, rfl, by decide +kernel, by decide +kernel⟩
/-! ### what each deed makes of a moment -/
abbrev Res := Except Rf Mo
def inB (i n : Int) : Prop := 0 ≤ i ∧ i < n
instance (i n : Int) : Decidable (inB i n) := inferInstanceAs (Decidable (0 ≤ i ∧ i < n))
def many (m : Mo) (r : Bool) : Int := if r = true then m.c.r else m.c.b
def fillR (m : Mo) (r : Bool) (i x : Int) : Res := if inB i (many m r) then .ok (handM m (plW r) i.toNat x) else .error (.basin i)
def lackR (m : Mo) (r : Bool) (i x : Int) : Int := x - gt (boatsW r m.s) i
def drainR (m : Mo) (r : Bool) (i x : Int) : Res := if inB i (many m r) then (if lackR m r i x > 0 then .error (.short (lackR m r i x)) else .ok (handM m (plW r) i.toNat (-x))) else .error (.basin i)
def upD (m : Mo) (i : Int) : Int := if gt m.s.ls i = 0 then 1 else -1
def turnR (m : Mo) (i : Int) : Res := if inB i m.c.ls.length then .ok (handM m 2 i.toNat (upD m i)) else .error (.lock i)
def goMo (m : Mo) (i : Nat) (r : Bool) : Mo := ⟨m.c, goneS m.c m.s i r, m.h, bump2 m.w (plW r) i (upD m i)⟩
def goR (m : Mo) (i : Int) (r : Bool) : Res := if inB i m.c.ls.length then (if hasB m.c m.s i.toNat r = true then .ok (goMo m i.toNat r) else .error (.boat i.toNat r)) else .error (.lock i)
def rowR (m : Mo) : List (Int × Bool) → Res
  | [] => .ok m
  | g :: gs => match goR m g.1 g.2 with
    | .ok m' => rowR m' gs
    | .error e => .error e
def digM (m : Mo) (a c x y : Int) : Mo := ⟨⟨m.c.r, m.c.b, m.c.ls ++ [(a, c, x, y)]⟩, ⟨m.s.rs, m.s.bs, m.s.ls ++ [0]⟩, [m.h.getD 0 [], m.h.getD 1 [], m.h.getD 2 [] ++ [0]], [m.w.getD 0 [] ++ [0], m.w.getD 1 [] ++ [0]]⟩
def badB : List (Int × Int) → Option Int
  | [] => none
  | p :: ps => if inB p.1 p.2 then badB ps else some p.1
def digR (m : Mo) (a c x y : Int) : Res := match badB [(a, m.c.r), (c, m.c.r), (x, m.c.b), (y, m.c.b)] with
  | some i => .error (.basin i)
  | none => .ok (digM m a c x y)
def mo0 (c : Cn) (s : Sn) : Mo := ⟨c, s, [List.replicate c.r.toNat 0, List.replicate c.b.toNat 0, List.replicate c.ls.length 0], [List.replicate c.ls.length 0, List.replicate c.ls.length 0]⟩
def rsQ (K : PySem.W.Frag) (X : Ks) (H : Hp) (res : Res) (Q : VK) (E : XK) : Prop := match res with
  | .ok m' => ∀ v' H', Same H H' → Dp K H' v' (moD m') → Q v' H'
  | .error e => rfK X H e E
theorem in_part {m : Mo} (ok : okMo m) {r : Bool} {i : Int} (h : inB i (many m r)) : i.toNat < ((snL m.s).getD (plW r) []).length ∧ plW r < 3 := by
  obtain ⟨B, os⟩ := ok.s
  have a1 := os.r; have a2 := os.b
  cases r with
  | true =>
    have h' : 0 ≤ i ∧ i < m.c.r := h
    exact ⟨by show i.toNat < m.s.rs.length; omega, by decide⟩
  | false =>
    have h' : 0 ≤ i ∧ i < m.c.b := h
    exact ⟨by show i.toNat < m.s.bs.length; omega, by decide⟩
theorem gt_ix {zs : List Int} {i : Int} (h0 : 0 ≤ i) (h1 : i < zs.length) : atI (zs.map V.int) i = some (.int (gt zs i)) := gt_at h0 h1
theorem iteK {c : Bool} {σ : L2.St} {H : Hp} {k : V → Hp → Prop} (h : k (.int (if c = true then 1 else -1)) H) : if c = true then tC (.int 1) σ H k else tUn (rU fun i => .int (-i)) (tC (.int 1)) σ H k := by
  cases c with
  | true => exact h
  | false => exact ⟨1, rfl, h⟩
theorem upD_eq (m : Mo) (i : Int) : (if (gt m.s.ls i == 0) = true then (1 : Int) else -1) = upD m i := by unfold upD; simp
section
variable {P : Program} {w : World} {K : PySem.W.Frag} {mg : Str → Option Value} {base : Heap}
theorem sn_of {H : Hp} {v : V} {s : Sn} (h : Dp K H v (snD s)) : ∃ a ar ab al, v = .ref a ∧ SqT K H a [.ref ar, .ref ab, .ref al] ∧ SqT K H ar (s.rs.map V.int) ∧ SqT K H ab (s.bs.map V.int) ∧ SqT K H al (s.ls.map V.int) := by
  cases h with
  | tup hs ha =>
    obtain ⟨u1, u2, u3, rfl, c1, c2, c3⟩ := dpall3 ha
    obtain ⟨t1, rfl, h1⟩ := dp_it c1
    obtain ⟨t2, rfl, h2⟩ := dp_it c2
    obtain ⟨t3, rfl, h3⟩ := dp_it c3
    exact ⟨_, t1, t2, t3, rfl, hs, h1, h2, h3⟩
/-! ### filled, drained, turned -/
def spFi (K : PySem.W.Frag) (X : Ks) : Sp := fun vs H Q E => ∃ (v : V) (m : Mo) (r : Bool) (i x : Int), vs = [v, .str (wS r), .int i, .int x] ∧ Dp K H v (moD m) ∧ okMo m ∧ rsQ K X H (fillR m r i x) Q E
theorem ok_fi {f fs fp fb : Addr} {fd fds fdp fdb : FuncData} {k : Nat} {X : Ks} (F : Fun K "filled" "filled" sFi f fd) (Se : FnX P w K mg base (k + 1) "seek_basin" ["moment", "water", "basin"] (spSeb K X) fs fds) (Po : Fns P w K mg base (k + 1) "place_of" ["water"] spPlo fp fdp) (Bh : Fns P w K mg base (k + 1) "by_hand" ["moment", "place", "at", "more"] (spBh K) fb fdb) : FnOk P w K mg base (L2.CX P w) (k + 1 + 1) f fd ["moment", "water", "basin", "many"] (spFi K X) := by
  refine F.okX scFi (fun vs H Q E h => ?_) (fun cdv A outer s H vs Q E hr h => ?_)
  · obtain ⟨v, m, r, i, x, rfl, _⟩ := h
    rfl
  obtain ⟨v, m, r, i, x, rfl, hv, ok, q⟩ := h
  refine ⟨_, (pss_cons (ps_expr (pe_callS Se.ok hr rfl Se.g Se.k Se.b (fun σ => passAt (takes_of rfl rfl rfl rfl) σ) (pa_cons (pv 0) (pa_cons (pv 1) (pa_cons (pv 2) pa_nil)))))
    (pss_one (ps_ret (pe_fn Bh hr rfl (pa_cons (pv 0) (pa_cons (pe_fn Po hr rfl (pa_cons (pv 1) pa_nil)) (pa_cons (pv 2) (pa_cons (pv 3) pa_nil)))))))), ?_⟩
  unfold fillR at q
  refine ⟨_, rfl, _, rfl, _, rfl, nil_go ⟨v, m, r, i, rfl, hv, fun hi => ?_, fun hi => ?_⟩⟩
  · rw [if_pos (show inB i (many m r) from hi)] at q
    obtain ⟨h1, h2⟩ := in_part ok (r := r) (i := i) hi
    refine ⟨_, rfl, _, rfl, nil_go ⟨r, rfl, _, rfl, _, rfl, nil_go ⟨v, m, plW r, i.toNat, x, ?_, hv, ok, h2, h1, fun v' H' s d => q v' H' s d⟩⟩⟩
    rw [show ((i.toNat : Nat) : Int) = i from by have := hi.1; omega]; rfl
  · rw [if_neg (show ¬ inB i (many m r) from hi)] at q
    exact q
def spDra (K : PySem.W.Frag) (X : Ks) : Sp := fun vs H Q E => ∃ (v : V) (m : Mo) (r : Bool) (i x : Int), vs = [v, .str (wS r), .int i, .int x] ∧ Dp K H v (moD m) ∧ okMo m ∧ rsQ K X H (drainR m r i x) Q E
theorem ok_dra {f fs fp fb fO : Addr} {fd fds fdp fdb fdO : FuncData} {k : Nat} {X : Ks} (F : Fun K "drained" "drained" sDra f fd) (Se : FnX P w K mg base (k + 2) "seek_basin" ["moment", "water", "basin"] (spSeb K X) fs fds) (Po : Fns P w K mg base (k + 2) "place_of" ["water"] spPlo fp fdp) (Bh : Fns P w K mg base (k + 2) "by_hand" ["moment", "place", "at", "more"] (spBh K) fb fdb) (TO : Er P w K mg base "Short" 2 X.O fO fdO ["self", "many"] (spI X.O "many")) : FnOk P w K mg base (L2.CX P w) (k + 2 + 1) f fd ["moment", "water", "basin", "many"] (spDra K X) := by
  refine F.okX scDra (fun vs H Q E h => ?_) (fun cdv A outer s H vs Q E hr h => ?_)
  · obtain ⟨v, m, r, i, x, rfl, _⟩ := h
    rfl
  obtain ⟨v, m, r, i, x, rfl, hv, ok, q⟩ := h
  have hrB : Room (1 + 1) _ := hr.mono (by omega)
  refine ⟨_, (pss_cons (ps_expr (pe_callS Se.ok hr rfl Se.g Se.k Se.b (fun σ => passAt (takes_of rfl rfl rfl rfl) σ) (pa_cons (pv 0) (pa_cons (pv 1) (pa_cons (pv 2) pa_nil)))))
    (pss_cons (ps_set (i := 4) scDra.nd rfl (.inl rfl) (pe_op op_sub (pv 3) (pe_ix (r := rIxA K) ix_any (pe_ix (r := rIxA K) ix_any (pe_ix (r := rIxA K) ix_any (pv 0) pe_int (fun _ _ => rfl)) (pe_fn Po hr rfl (pa_cons (pv 1) pa_nil)) (fun _ _ => rfl)) (pv 2) (fun _ _ => rfl))))
    (pss_cons (ps_if (pt_cmpR op_gt (pv 4) pe_int (nomark _)) (pss_one (ps_raise rfl (takes_of rfl rfl rfl rfl) (pmk_ex TO.ex TO.ty TO.ini TO.tI TO.ok hrB TO.bi rfl TO.g (pa_cons (pv 4) pa_nil)))) pss_nil)
    (pss_one (ps_ret (pe_fn Bh hr rfl (pa_cons (pv 0) (pa_cons (pe_fn Po hr rfl (pa_cons (pv 1) pa_nil)) (pa_cons (pv 2) (pa_cons (pe_un un_neg (pv 3)) pa_nil)))))))))), ?_⟩
  unfold drainR at q
  obtain ⟨a, vc, vs, vh, vw, rfl, ha, hc, hs, hh, hw⟩ := mo_of hv
  obtain ⟨sa, ar, ab, al, rfl, hsa, har, hab, hal⟩ := sn_of hs
  refine ⟨_, rfl, _, rfl, _, rfl, nil_go ⟨.ref a, m, r, i, rfl, hv, fun hi => ?_, fun hi => ?_⟩⟩
  · rw [if_pos (show inB i (many m r) from hi)] at q
    obtain ⟨h1, h2⟩ := in_part ok (r := r) (i := i) hi
    have hat : ∃ t, atI [V.ref ar, .ref ab, .ref al] ((plW r : Nat) : Int) = some (.ref t) ∧ SqT K H t ((boatsW r m.s).map V.int) ∧ i < ((boatsW r m.s).length : Nat) := by
      cases r with
      | true => exact ⟨ar, rfl, har, by have : i.toNat < m.s.rs.length := h1; show i < (m.s.rs.length : Int); omega⟩
      | false => exact ⟨ab, rfl, hab, by have : i.toNat < m.s.bs.length := h1; show i < (m.s.bs.length : Int); omega⟩
    obtain ⟨t, et, ht, hl⟩ := hat
    refine ⟨_, rfl, _, rfl, a, _, _, _, rfl, rfl, .inr ha, rfl, _, rfl, nil_go ⟨r, rfl, sa, _, _, _, rfl, rfl, .inr hsa, et, _, rfl, t, _, _, _, rfl, rfl, .inr ht, gt_ix hi.1 hl, _, _, rfl, rfl, ?_⟩⟩
    refine at_g (σ' := [some (.ref a), some (.str (wS r)), some (.int i), some (.int x), some (.int (lackR m r i x))]) rfl ?_
    refine ⟨_, rfl, _, _, rfl, rfl, _, rfl, ?_⟩
    by_cases hk : lackR m r i x > 0
    · rw [if_pos hk] at q
      rw [decide_eq_true hk]
      refine iteT ⟨_, rfl, (by show 1 ≤ 1000; decide), fun b nb => ?_⟩
      refine ⟨b, .int (lackR m r i x), rfl, upd_same, fun dx nx nxa => ⟨rfl, dx, [("many", .int (lackR m r i x))], upd_same, by rw [upd_ne nxa, upd_same], by rw [upd_ne nxa] at nx; exact nx, ?_⟩⟩
      have nx' : H dx = none := by rw [upd_ne nxa] at nx; exact nx
      rw [del_upd' nb nxa]
      exact q dx _ (same_new nx') nx' upd_same
    · rw [if_neg hk] at q
      rw [decide_eq_false hk]
      refine iteF ⟨_, rfl, _, rfl, nil_go ⟨r, rfl, _, rfl, _, rfl, _, rfl, nil_go ⟨.ref a, m, plW r, i.toNat, -x, ?_, hv, ok, h2, h1, fun v' H' s d => q v' H' s d⟩⟩⟩
      rw [show ((i.toNat : Nat) : Int) = i from by have := hi.1; omega]; rfl
  · rw [if_neg (show ¬ inB i (many m r) from hi)] at q
    exact q
def spTur (K : PySem.W.Frag) (X : Ks) : Sp := fun vs H Q E => ∃ (v : V) (m : Mo) (i : Int), vs = [v, .int i] ∧ Dp K H v (moD m) ∧ okMo m ∧ rsQ K X H (turnR m i) Q E
theorem ok_tur {f fs fb : Addr} {fd fds fdb : FuncData} {k : Nat} {X : Ks} (F : Fun K "turned" "turned" sTur f fd) (Se : FnX P w K mg base (k + 1) "seek_lock" ["moment", "lock"] (spSel K X) fs fds) (Bh : Fns P w K mg base (k + 1) "by_hand" ["moment", "place", "at", "more"] (spBh K) fb fdb) : FnOk P w K mg base (L2.CX P w) (k + 1 + 1) f fd ["moment", "lock"] (spTur K X) := by
  refine F.okX scTur (fun vs H Q E h => ?_) (fun cdv A outer s H vs Q E hr h => ?_)
  · obtain ⟨v, m, i, rfl, _⟩ := h
    rfl
  obtain ⟨v, m, i, rfl, hv, ok, q⟩ := h
  refine ⟨_, (pss_cons (ps_expr (pe_callS Se.ok hr rfl Se.g Se.k Se.b (fun σ => passAt (takes_of rfl rfl rfl rfl) σ) (pa_cons (pv 0) (pa_cons (pv 1) pa_nil))))
    (pss_one (ps_ret (pe_fn Bh hr rfl (pa_cons (pv 0) (pa_cons pe_int (pa_cons (pv 1) (pa_cons (pe_ifExp (pt_cmpR op_eq (pe_ix (r := rIxA K) ix_any (pe_ix (r := rIxA K) ix_any (pe_ix (r := rIxA K) ix_any (pv 0) pe_int (fun _ _ => rfl)) pe_int (fun _ _ => rfl)) (pv 1) (fun _ _ => rfl)) pe_int (nomark _)) pe_int (pe_un un_neg pe_int)) pa_nil)))))))), ?_⟩
  unfold turnR at q
  obtain ⟨a, vc, vs, vh, vw, rfl, ha, hc, hs, hh, hw⟩ := mo_of hv
  obtain ⟨sa, ar, ab, al, rfl, hsa, har, hab, hal⟩ := sn_of hs
  refine ⟨_, rfl, _, rfl, nil_go ⟨.ref a, m, i, rfl, hv, fun hi => ?_, fun hi => ?_⟩⟩
  · rw [if_pos (show inB i m.c.ls.length from hi)] at q
    obtain ⟨B, os⟩ := ok.s
    have hil : i < (m.s.ls.length : Nat) := by rw [os.n]; exact hi.2
    have h1 : i.toNat < ((snL m.s).getD 2 []).length := by show i.toNat < m.s.ls.length; omega
    refine ⟨_, rfl, _, rfl, _, rfl, a, _, _, _, rfl, rfl, .inr ha, rfl, sa, _, _, _, rfl, rfl, .inr hsa, rfl, _, rfl, al, _, _, _, rfl, rfl, .inr hal, gt_ix hi.1 hil, rfl, _, rfl, ?_⟩
    rw [dec_int]
    refine iteK ?_
    rw [upD_eq]
    refine nil_go ⟨.ref a, m, 2, i.toNat, upD m i, ?_, hv, ok, by decide, h1, fun v' H' s d => q v' H' s d⟩
    rw [show ((i.toNat : Nat) : Int) = i from by have := hi.1; omega]; rfl
  · rw [if_neg (show ¬ inB i m.c.ls.length from hi)] at q
    exact q
/-! ### gone_by, gone_by_all -/
def spGb (K : PySem.W.Frag) (X : Ks) : Sp := fun vs H Q E => ∃ (v : V) (m : Mo) (r : Bool) (i : Int), vs = [v, .int i, .str (wS r)] ∧ Dp K H v (moD m) ∧ okMo m ∧ rsQ K X H (goR m i r) Q E
theorem ok_gb {f fs fg fm fp : Addr} {fd fds fdg fdm fdp : FuncData} {k : Nat} {X : Ks} (F : Fun K "gone_by" "gone_by" sGb f fd) (Se : FnX P w K mg base (k + 1) "seek_lock" ["moment", "lock"] (spSel K X) fs fds) (Go : FnX P w K mg base (k + 1) "gone" ["canal", "standing", "going"] (spGone K X.B) fg fdg) (Mo_ : Fns P w K mg base (k + 1) "more_at" ["parts", "place", "at", "more"] (spMat K) fm fdm) (Po : Fns P w K mg base (k + 1) "place_of" ["water"] spPlo fp fdp) : FnOk P w K mg base (L2.CX P w) (k + 1 + 1) f fd ["moment", "lock", "water"] (spGb K X) := by
  refine F.okX scGb (fun vs H Q E h => ?_) (fun cdv A outer s H vs Q E hr h => ?_)
  · obtain ⟨v, m, r, i, rfl, _⟩ := h
    rfl
  obtain ⟨v, m, r, i, rfl, hv, ok, q⟩ := h
  obtain ⟨a, vc, vs, vh, vw, rfl, ha, hc, hs, hh, hw⟩ := mo_of hv
  obtain ⟨sa, ar, ab, al, rfl, hsa, har, hab, hal⟩ := sn_of hs
  obtain ⟨B, os⟩ := ok.s
  refine ⟨_, (pss_cons (ps_expr (pe_callS Se.ok hr rfl Se.g Se.k Se.b (fun σ => passAt (takes_of rfl rfl rfl rfl) σ) (pa_cons (pv 0) (pa_cons (pv 1) pa_nil))))
    (pss_cons (ps_asg (pv 0) (pg_any rfl (pgs_cons (pg_name (i := 3) scGb.nd rfl (.inl rfl)) (pgs_cons (pg_name (i := 4) scGb.nd rfl (.inl rfl)) (pgs_cons (pg_name (i := 5) scGb.nd rfl (.inl rfl)) (pgs_cons (pg_name (i := 6) scGb.nd rfl (.inl rfl)) pgs_nil))))))
    (pss_cons (ps_set (i := 7) scGb.nd rfl (.inl rfl) (pe_ifExp (pt_cmpR op_eq (pe_ix (r := rIxA K) ix_any (pe_ix (r := rIxA K) ix_any (pv 4) pe_int (fun _ _ => rfl)) (pv 1) (fun _ _ => rfl)) pe_int (nomark _)) pe_int (pe_un un_neg pe_int)))
    (pss_one (ps_ret (pe_tup (pa_cons (pv 3) (pa_cons (pe_callS Go.ok hr rfl Go.g Go.k Go.b (fun σ => passAt (takes_of rfl rfl rfl rfl) σ) (pa_cons (pv 3) (pa_cons (pv 4) (pa_cons (pe_tup (pa_cons (pv 1) (pa_cons (pv 2) pa_nil))) pa_nil)))) (pa_cons (pv 5) (pa_cons (pe_fn Mo_ hr rfl (pa_cons (pv 6) (pa_cons (pe_fn Po hr rfl (pa_cons (pv 2) pa_nil)) (pa_cons (pv 1) (pa_cons (pv 7) pa_nil))))) pa_nil)))))))))), ?_⟩
  unfold goR at q
  refine ⟨_, rfl, _, rfl, nil_go ⟨.ref a, m, i, rfl, hv, fun hi => ?_, fun hi => ?_⟩⟩
  · rw [if_pos (show inB i m.c.ls.length from hi)] at q
    obtain ⟨j, rfl⟩ : ∃ j : Nat, i = j := ⟨i.toNat, by have := hi.1; omega⟩
    have hj : j < m.c.ls.length := by have := hi.2; omega
    have hjl : ((j : Nat) : Int) < (m.s.ls.length : Nat) := by rw [os.n]; exact hi.2
    rw [show ((j : Nat) : Int).toNat = j from by omega] at q
    refine ⟨_, rfl, a, _, rfl, .inr ha, rfl, _, _, rfl, _, _, rfl, _, _, rfl, _, _, rfl, rfl, ?_⟩
    refine at_s (σ' := [some (.ref a), some (.int (j : Nat)), some (.str (wS r)), some vc, some (.ref sa), some vh, some vw, none]) rfl ?_
    refine ⟨_, rfl, sa, _, _, _, rfl, rfl, .inr hsa, rfl, _, rfl, al, _, _, _, rfl, rfl, .inr hal, gt_ix hi.1 hjl, rfl, _, rfl, ?_⟩
    rw [dec_int]
    refine iteK ?_
    rw [upD_eq]
    refine at_g (σ' := [some (.ref a), some (.int (j : Nat)), some (.str (wS r)), some vc, some (.ref sa), some vh, some vw, some (.int (upD m j))]) rfl ?_
    refine ⟨_, rfl, _, rfl, _, rfl, _, rfl, _, rfl, (by show 2 ≤ sizeLine; decide), fun t nt => nil_go ?_⟩
    have s1 := same_new nt (o := .tup (mvV (j, r)))
    refine ⟨vc, .ref sa, t, j, r, m.c, m.s, B, rfl, cnAny_t (Dp.same s1 _ hc), snAny_t (Dp.same s1 _ hs), .inr (.inl (.inl upd_same)), hj, ok.c, os, fun hb v1 H1 s2 d1 => ?_, fun hb d t2 H1 s2 nd ed et => ?_⟩
    · rw [if_pos hb] at q
      have s12 := s1.trans s2
      have hwl : plW r < m.w.length := by rw [ok.w]; cases r <;> decide
      have hwi : j < (m.w.getD (plW r) []).length := by
        cases r with
        | true => show j < (m.w.getD 0 []).length; rw [ok.w0]; exact hj
        | false => show j < (m.w.getD 1 []).length; rw [ok.w1]; exact hj
      have hwm : (m.w.getD (plW r) []).length ≤ 1000 := by
        have := ok.c.n
        cases r with
        | true => show (m.w.getD 0 []).length ≤ 1000; rw [ok.w0]; omega
        | false => show (m.w.getD 1 []).length ≤ 1000; rw [ok.w1]; omega
      refine ⟨_, rfl, _, rfl, _, rfl, nil_go ⟨r, rfl, _, rfl, _, rfl, nil_go ⟨vw, m.w, plW r, j, upD m j, rfl, Dp.same s12 _ hw, hwl, hwi, by have := ok.w; omega, hwm, fun v3 H3 s3 d3 => ?_⟩⟩⟩
      refine ⟨(by show 4 ≤ sizeLine; decide), fun p np => ?_⟩
      have s4 := same_new np (o := .tup [vc, v1, vh, v3])
      have s14 := s12.trans (s3.trans s4)
      exact q (.ref p) _ s14 (.tup (.inl (.inl upd_same)) (.cons (Dp.same s14 _ hc) (.cons (Dp.same (s3.trans s4) _ d1) (.cons (Dp.same s14 _ hh) (.cons (Dp.same s4 _ d3) .nil)))))
    · rw [if_neg (by rw [hb]; exact Bool.false_ne_true)] at q
      exact q d t2 H1 (s1.trans s2) (s1.free nd) ed et
  · rw [if_neg (show ¬ inB i m.c.ls.length from hi)] at q
    exact q
end
end XL
namespace XL
open PySem PySem.Spec PyProof.Rows L2
/-! ### moments stay sound -/
theorem getD_of {α : Type} {l : List α} {i : Nat} {d x : α} (h : l[i]? = some x) : l.getD i d = x := by rw [List.getD_eq_getElem?_getD, h]; rfl
theorem okSn_set {c : Cn} {B B' : Int} {s : Sn} (os : okSn c B s) (hB : B ≤ B') {p i : Nat} {x : Int} (hp : p < 2) (h0 : 0 ≤ ((snL s).getD p []).getD i 0 + x) (h1 : ((snL s).getD p []).getD i 0 + x ≤ B') : okSn c B' (upS s p i x) := by
  rcases (show p = 0 ∨ p = 1 by omega) with rfl | rfl
  · refine ⟨?_, os.b, os.n, fun y hy => ?_, fun y hy => ⟨(os.b0 y hy).1, Int.le_trans (os.b0 y hy).2 hB⟩, os.l0⟩
    · show ((List.set s.rs i _).length : Int) = _
      rw [List.length_set]; exact os.r
    · rcases mem_set_or (l := s.rs) hy with h | h
      · exact ⟨(os.r0 y h).1, Int.le_trans (os.r0 y h).2 hB⟩
      · rw [h]; exact ⟨h0, h1⟩
  · refine ⟨os.r, ?_, os.n, fun y hy => ⟨(os.r0 y hy).1, Int.le_trans (os.r0 y hy).2 hB⟩, fun y hy => ?_, os.l0⟩
    · show ((List.set s.bs i _).length : Int) = _
      rw [List.length_set]; exact os.b
    · rcases mem_set_or (l := s.bs) hy with h | h
      · exact ⟨(os.b0 y h).1, Int.le_trans (os.b0 y h).2 hB⟩
      · rw [h]; exact ⟨h0, h1⟩
theorem okSn_flip {c : Cn} {B : Int} {s : Sn} (os : okSn c B s) {i : Nat} {x : Int} (h : s.ls.getD i 0 + x = 0 ∨ s.ls.getD i 0 + x = 1) : okSn c B (upS s 2 i x) := by
  refine ⟨os.r, os.b, ?_, os.r0, os.b0, fun y hy => ?_⟩
  · show (List.set s.ls i _).length = _
    rw [List.length_set]; exact os.n
  · rcases mem_set_or (l := s.ls) hy with h' | h'
    · exact os.l0 y h'
    · rw [h']; exact h
theorem okMo_hand {m : Mo} (ok : okMo m) {p i : Nat} {x : Int} (h : ∃ B, okSn m.c B (upS m.s p i x)) : okMo (handM m p i x) :=
  ⟨ok.c, h, by show (bump2 m.h p i x).length = 3; rw [bump2_len]; exact ok.h, by show (((bump2 m.h p i x).getD 0 []).length : Int) = _; rw [bump_part]; exact ok.h0, by show (((bump2 m.h p i x).getD 1 []).length : Int) = _; rw [bump_part]; exact ok.h1, by show ((bump2 m.h p i x).getD 2 []).length = _; rw [bump_part]; exact ok.h2, ok.w, ok.w0, ok.w1⟩
theorem okMo_go {m : Mo} (ok : okMo m) {i : Nat} {r : Bool} (hi : i < m.c.ls.length) (h : hasB m.c m.s i r = true) : okMo (goMo m i r) := by
  obtain ⟨B, os⟩ := ok.s
  exact ⟨ok.c, ⟨_, goneS_ok ok.c os hi r h⟩, ok.h, ok.h0, ok.h1, ok.h2, by show (bump2 m.w _ _ _).length = 2; rw [bump2_len]; exact ok.w, by show ((bump2 m.w _ _ _).getD 0 []).length = _; rw [bump_part]; exact ok.w0, by show ((bump2 m.w _ _ _).getD 1 []).length = _; rw [bump_part]; exact ok.w1⟩
theorem okMo_goR {m m' : Mo} {i : Int} {r : Bool} (ok : okMo m) (h : goR m i r = .ok m') : okMo m' := by
  unfold goR at h
  split at h
  · rename_i hi
    split at h
    · rename_i hb
      injection h with h
      subst h
      exact okMo_go ok (by have := hi.1; have := hi.2; omega) hb
    · cases h
  · cases h
theorem okMo_rowR : ∀ {gs : List (Int × Bool)} {m m' : Mo}, okMo m → rowR m gs = .ok m' → okMo m'
  | [], m, m', ok, h => by
    unfold rowR at h
    injection h with h
    subst h; exact ok
  | g :: gs, m, m', ok, h => by
    unfold rowR at h
    split at h
    · rename_i m1 e
      exact okMo_rowR (okMo_goR ok e) h
    · cases h
theorem gt_nat (zs : List Int) (i : Int) : gt zs i = zs.getD i.toNat 0 := rfl
theorem mem_getD {zs : List Int} {i : Nat} (h : i < zs.length) : zs.getD i 0 ∈ zs := by
  rw [List.getD_eq_getElem?_getD, List.getElem?_eq_getElem h]
  exact List.getElem_mem h
theorem okMo_fillR {m m' : Mo} {r : Bool} {i x : Int} (ok : okMo m) (hx : 0 ≤ x) (h : fillR m r i x = .ok m') : okMo m' := by
  unfold fillR at h
  split at h
  · rename_i hi
    injection h with h
    subst h
    obtain ⟨B, os⟩ := ok.s
    obtain ⟨h1, h2⟩ := in_part ok hi
    have hb : 0 ≤ ((snL m.s).getD (plW r) []).getD i.toNat 0 ∧ ((snL m.s).getD (plW r) []).getD i.toNat 0 ≤ B := by
      cases r with
      | true => exact os.r0 _ (mem_getD h1)
      | false => exact os.b0 _ (mem_getD h1)
    exact okMo_hand ok ⟨B + x, okSn_set os (by omega) (by cases r <;> decide) (by omega) (by omega)⟩
  · cases h
theorem okMo_drainR {m m' : Mo} {r : Bool} {i x : Int} (ok : okMo m) (hx : 0 ≤ x) (h : drainR m r i x = .ok m') : okMo m' := by
  unfold drainR at h
  split at h
  · rename_i hi
    split at h
    · cases h
    · rename_i hk
      injection h with h
      subst h
      obtain ⟨B, os⟩ := ok.s
      obtain ⟨h1, h2⟩ := in_part ok hi
      have hb : 0 ≤ ((snL m.s).getD (plW r) []).getD i.toNat 0 ∧ ((snL m.s).getD (plW r) []).getD i.toNat 0 ≤ B := by
        cases r with
        | true => exact os.r0 _ (mem_getD h1)
        | false => exact os.b0 _ (mem_getD h1)
      have hk2 : x - ((snL m.s).getD (plW r) []).getD i.toNat 0 ≤ 0 := by
        have : ¬ (lackR m r i x > 0) := hk
        cases r with
        | true => have e : lackR m true i x = x - ((snL m.s).getD (plW true) []).getD i.toNat 0 := rfl; omega
        | false => have e : lackR m false i x = x - ((snL m.s).getD (plW false) []).getD i.toNat 0 := rfl; omega
      exact okMo_hand ok ⟨B, okSn_set os (Int.le_refl _) (by cases r <;> decide) (by omega) (by omega)⟩
  · cases h
theorem okMo_turnR {m m' : Mo} {i : Int} (ok : okMo m) (h : turnR m i = .ok m') : okMo m' := by
  unfold turnR at h
  split at h
  · rename_i hi
    injection h with h
    subst h
    obtain ⟨B, os⟩ := ok.s
    have hil : i.toNat < m.s.ls.length := by have := hi.1; have := hi.2; rw [os.n]; omega
    refine okMo_hand ok ⟨B, okSn_flip os ?_⟩
    have := os.l0 _ (mem_getD hil)
    unfold upD
    rw [gt_nat]
    split
    · rename_i h0; rw [h0]; exact .inr rfl
    · rename_i h0
      rcases this with h | h
      · exact absurd h h0
      · rw [h]; exact .inl rfl
  · cases h
theorem okMo_dig {m : Mo} {a c x y : Int} (ok : okMo m) (hl : m.c.ls.length < 100) (lk : okLk m.c.r m.c.b (a, c, x, y)) : okMo (digM m a c x y) := by
  obtain ⟨B, os⟩ := ok.s
  have oc := ok.c
  have a1 := ok.h0; have a2 := ok.h1; have a3 := ok.h2; have a4 := ok.w0; have a5 := ok.w1
  refine ⟨⟨oc.r1, oc.r2, oc.b1, oc.b2, ?_, fun l hl => ?_⟩, ⟨B, ⟨os.r, os.b, ?_, os.r0, os.b0, fun z hz => ?_⟩⟩, rfl, a1, a2, ?_, rfl, ?_, ?_⟩
  · show (m.c.ls ++ [_]).length ≤ 100
    rw [List.length_append]; show m.c.ls.length + 1 ≤ 100; omega
  · rcases List.mem_append.mp hl with h | h
    · exact oc.l l h
    · rw [List.mem_singleton.mp h]; exact lk
  · show (m.s.ls ++ [0]).length = (m.c.ls ++ [_]).length
    rw [List.length_append, List.length_append, os.n]; rfl
  · rcases List.mem_append.mp hz with h | h
    · exact os.l0 z h
    · rw [List.mem_singleton.mp h]; exact .inl rfl
  · show (m.h.getD 2 [] ++ [0]).length = (m.c.ls ++ [_]).length
    rw [List.length_append, List.length_append, a3]; rfl
  · show (m.w.getD 0 [] ++ [0]).length = (m.c.ls ++ [_]).length
    rw [List.length_append, List.length_append, a4]; rfl
  · show (m.w.getD 1 [] ++ [0]).length = (m.c.ls ++ [_]).length
    rw [List.length_append, List.length_append, a5]; rfl
theorem badB_none : ∀ {l : List (Int × Int)}, badB l = none → ∀ p ∈ l, inB p.1 p.2
  | [], _, p, h => by cases h
  | q :: l, e, p, h => by
    unfold badB at e
    split at e
    · rename_i hq
      rcases List.mem_cons.mp h with h | h
      · rw [h]; exact hq
      · exact badB_none e p h
    · cases e
theorem okMo_digR {m m' : Mo} {a c x y : Int} (ok : okMo m) (hl : m.c.ls.length < 100) (h : digR m a c x y = .ok m') : okMo m' := by
  unfold digR at h
  split at h
  · cases h
  · rename_i e
    injection h with h
    subst h
    have q := badB_none e
    have q1 := q (a, m.c.r) (by simp); have q2 := q (c, m.c.r) (by simp); have q3 := q (x, m.c.b) (by simp); have q4 := q (y, m.c.b) (by simp)
    exact okMo_dig ok hl ⟨q1.1, q1.2, q2.1, q2.2, q3.1, q3.2, q4.1, q4.2⟩
theorem okMo_0 {c : Cn} {s : Sn} {B : Int} (okc : okCn 100 100 c) (os : okSn c B s) : okMo (mo0 c s) := by
  have a1 := okc.r1; have a2 := okc.b1
  exact ⟨okc, ⟨B, os⟩, rfl, by show ((List.replicate c.r.toNat (0 : Int)).length : Int) = c.r; rw [List.length_replicate]; omega, by show ((List.replicate c.b.toNat (0 : Int)).length : Int) = c.b; rw [List.length_replicate]; omega, by show (List.replicate c.ls.length (0 : Int)).length = c.ls.length; rw [List.length_replicate], rfl, by show (List.replicate c.ls.length (0 : Int)).length = c.ls.length; rw [List.length_replicate], by show (List.replicate c.ls.length (0 : Int)).length = c.ls.length; rw [List.length_replicate]⟩
end XL
namespace XL
open PySem PySem.Spec PyProof.Rows L2
theorem len3 {α : Type} {l : List α} (h : l.length = 3) : ∃ a b c, l = [a, b, c] := by
  match l, h with
  | [a, b, c], _ => exact ⟨a, b, c, rfl⟩
theorem len2 {α : Type} {l : List α} (h : l.length = 2) : ∃ a b, l = [a, b] := by
  match l, h with
  | [a, b], _ => exact ⟨a, b, rfl⟩
section
variable {P : Program} {w : World} {K : PySem.W.Frag} {mg : Str → Option Value} {base : Heap}
theorem dpAll_snoc {H : Hp} : ∀ {vs : List V} {ds : List PyData} {v : V} {d : PyData}, DpAll K H vs ds → Dp K H v d → DpAll K H (vs ++ [v]) (ds ++ [d])
  | _, _, _, _, .nil, h => .cons h .nil
  | _, _, _, _, .cons a r, h => .cons a (dpAll_snoc r h)
theorem dpall2 {H : Hp} {vs : List V} {d1 d2 : PyData} (h : DpAll K H vs [d1, d2]) : ∃ u1 u2, vs = [u1, u2] ∧ Dp K H u1 d1 ∧ Dp K H u2 d2 := by
  cases h with
  | cons c1 t1 =>
    cases t1 with
    | cons c2 t2 => cases t2; exact ⟨_, _, rfl, c1, c2⟩
/-! ### gone_by_all -/
structure RowZ (K : PySem.W.Frag) (H : Hp) (g : Addr) (gs : List (Int × Bool)) : Prop where
  ex : ∃ us, Sq2 K H g us ∧ us.length = gs.length ∧ ∀ (j : Nat) u, us[j]? = some u → ∃ t e, u = .ref t ∧ gs[j]? = some e ∧ Sq2 K H t [.int e.1, .str (wS e.2)]
def spGa (K : PySem.W.Frag) (X : Ks) : Sp := fun vs H Q E => ∃ (v : V) (g : Addr) (m : Mo) (gs : List (Int × Bool)), vs = [v, .ref g] ∧ Dp K H v (moD m) ∧ okMo m ∧ RowZ K H g gs ∧ rsQ K X H (rowR m gs) Q E
theorem ok_ga {f fg : Addr} {fd fdg : FuncData} {k : Nat} {X : Ks} (F : Fun K "gone_by_all" "gone_by_all" sGa f fd) (Gb : FnX P w K mg base k "gone_by" ["moment", "lock", "water"] (spGb K X) fg fdg) : FnOk P w K mg base (L2.CX P w) (k + 1) f fd ["moment", "goings"] (spGa K X) := by
  refine F.okX scGa (fun vs H Q E h => ?_) (fun cdv A outer s H vs Q E hr h => ?_)
  · obtain ⟨v, g, m, gs, rfl, _⟩ := h
    rfl
  obtain ⟨v, g, m, gs, rfl, hv, ok, ⟨us, hg, hul, hus⟩, q⟩ := h
  refine ⟨_, (pss_cons (ps_for (passes_of rfl) rfl (pi_seq (pv 1)) (pg_any rfl (pgs_cons (pg_name (i := 2) scGa.nd rfl (.inl rfl)) (pgs_cons (pg_name (i := 3) scGa.nd rfl (.inl rfl)) pgs_nil)))
    (pss_one (ps_set (i := 0) scGa.nd rfl (.inl rfl) (pe_callS Gb.ok hr rfl Gb.g Gb.k Gb.b (fun σ => passAt (takes_of rfl rfl rfl rfl) σ) (pa_cons (pv 0) (pa_cons (pv 2) (pa_cons (pv 3) pa_nil)))))))
    (pss_one (ps_ret (pv 0)))), ?_⟩
  refine ⟨_, rfl, g, us, rfl, hg, fun J wk => for_it wk (fun i σ Z => ∃ (v' : V) (m' : Mo) (y1 y2 : Option V), σ = [some v', some (.ref g), y1, y2] ∧ Dp K Z v' (moD m') ∧ okMo m' ∧ Same H Z ∧ rowR m' (gs.drop i) = rowR m gs) ⟨v, m, none, none, rfl, hv, ok, Same.refl _, rfl⟩ (fun i σ Z _ h => ?_) (fun i x σ Z Z' hi h hy => ?_) (fun σ Z h => ?_)⟩
  · obtain ⟨v', m', y1, y2, rfl, _, _, sZ, _⟩ := h
    exact ⟨fun _ z => sZ.seq z, fun z => Same.tup sZ z⟩
  · obtain ⟨v', m', y1, y2, rfl, hv', ok', sZ, er⟩ := h
    obtain ⟨rfl, hx⟩ := hy
    obtain ⟨t, e, rfl, eg, ht⟩ := hus i x hx
    have hd : gs.drop i = e :: gs.drop (i + 1) := by
      have hil : i < gs.length := (List.getElem?_eq_some_iff.mp eg).1
      rw [List.drop_eq_getElem_cons hil]
      congr 1
      exact (List.getElem?_eq_some_iff.mp eg).2
    rw [hd] at er
    have er : (match goR m' e.1 e.2 with | .ok m2 => rowR m2 (gs.drop (i + 1)) | .error x => .error x) = rowR m gs := er
    refine ⟨t, _, rfl, Same.sq2 sZ ht, rfl, _, _, rfl, _, _, rfl, rfl, ?_⟩
    refine at_s (σ' := [some v', some (.ref g), some (.int e.1), some (.str (wS e.2))]) rfl ?_
    refine ⟨_, rfl, _, rfl, _, rfl, nil_go ⟨v', m', e.2, e.1, rfl, hv', ok', ?_⟩⟩
    cases hg : goR m' e.1 e.2 with
    | ok m2 =>
      rw [hg] at er
      intro v2 H2 s2 d2
      exact ⟨v2, m2, _, _, rfl, d2, okMo_goR ok' hg, sZ.trans s2, er⟩
    | error e2 =>
      rw [hg] at er
      have er : Except.error e2 = rowR m gs := er
      rw [← er] at q
      exact rfK.same (X := X) (E := E) q sZ
  · obtain ⟨v', m', y1, y2, rfl, hv', ok', sZ, er⟩ := h
    rw [hul, List.drop_length] at er
    have er : Except.ok m' = rowR m gs := er
    rw [← er] at q
    exact ⟨_, rfl, q v' Z sZ hv'⟩
/-! ### dug -/
def spDug (K : PySem.W.Frag) (X : Ks) : Sp := fun vs H Q E => ∃ (v : V) (m : Mo) (a c x y : Int), vs = [v, .int a, .int c, .int x, .int y] ∧ Dp K H v (moD m) ∧ okMo m ∧ rsQ K X H (digR m a c x y) Q E
theorem ok_dug {f fp fl fL : Addr} {fd fdp fdl fdL : FuncData} {k : Nat} {X : Ks} (F : Fun K "dug" "dug" sDug f fd) (Pl : Fns P w K mg base (k + 2) "is_place" ["thing", "many"] spPl fp fdp) (Wl : Fns P w K mg base (k + 2) "with_low" ["parts"] (spWl K) fl fdl) (TS : Er P w K mg base "NoBasin" 1 X.S fL fdL ["self", "basin"] (spI X.S "basin")) : FnOk P w K mg base (L2.CX P w) (k + 2 + 1) f fd ["moment", "a", "c", "x", "y"] (spDug K X) := by
  refine F.okX scDug (fun vs H Q E h => ?_) (fun cdv A outer s H vs Q E hr h => ?_)
  · obtain ⟨v, m, a, c, x, y, rfl, _⟩ := h
    rfl
  obtain ⟨v, m, a, c, x, y, rfl, hv, ok, q⟩ := h
  have hrB : Room (1 + 1) _ := hr.mono (by omega)
  obtain ⟨ma, vc, vs, vh, vw, rfl, ha, hc, hs, hh, hw⟩ := mo_of hv
  obtain ⟨ca, g, gs, rfl, hca, hg, hgs⟩ := cn_of hc
  refine ⟨_, (pss_cons (ps_asg (pv 0) (pg_any rfl (pgs_cons (pg_any rfl (pgs_cons (pg_name (i := 5) scDug.nd rfl (.inl rfl)) (pgs_cons (pg_name (i := 6) scDug.nd rfl (.inl rfl)) (pgs_cons (pg_name (i := 7) scDug.nd rfl (.inl rfl)) pgs_nil)))) (pgs_cons (pg_name (i := 8) scDug.nd rfl (.inl rfl)) (pgs_cons (pg_name (i := 9) scDug.nd rfl (.inl rfl)) (pgs_cons (pg_name (i := 10) scDug.nd rfl (.inl rfl)) pgs_nil))))))
    (pss_cons (ps_for (passes_of rfl) rfl (pi_seq (pe_tup (pa_cons (pe_tup (pa_cons (pv 1) (pa_cons (pv 5) pa_nil))) (pa_cons (pe_tup (pa_cons (pv 2) (pa_cons (pv 5) pa_nil))) (pa_cons (pe_tup (pa_cons (pv 3) (pa_cons (pv 6) pa_nil))) (pa_cons (pe_tup (pa_cons (pv 4) (pa_cons (pv 6) pa_nil))) pa_nil)))))) (pg_any rfl (pgs_cons (pg_name (i := 11) scDug.nd rfl (.inl rfl)) (pgs_cons (pg_name (i := 12) scDug.nd rfl (.inl rfl)) pgs_nil)))
    (pss_one (ps_if (pt_not (pt_val (pe_fn Pl hr rfl (pa_cons (pv 11) (pa_cons (pv 12) pa_nil))))) (pss_one (ps_raise rfl (takes_of rfl rfl rfl rfl) (pmk_ex TS.ex TS.ty TS.ini TS.tI TS.ok hrB TS.bi rfl TS.g (pa_cons (pv 11) pa_nil)))) pss_nil)))
    (pss_cons (ps_set (i := 13) scDug.nd rfl (.inl rfl) (pe_tup (pa_cons (pv 5) (pa_cons (pv 6) (pa_cons (pe_op op_catU (pv 7) (pe_tup (pa_cons (pe_tup (pa_cons (pv 1) (pa_cons (pv 2) (pa_cons (pv 3) (pa_cons (pv 4) pa_nil))))) pa_nil))) pa_nil)))))
    (pss_one (ps_ret (pe_tup (pa_cons (pv 13) (pa_cons (pe_fn Wl hr rfl (pa_cons (pv 8) pa_nil)) (pa_cons (pe_fn Wl hr rfl (pa_cons (pv 9) pa_nil)) (pa_cons (pe_tup (pa_cons (pe_op op_catU (pe_ix (r := rIxA K) ix_any (pv 10) pe_int (fun _ _ => rfl)) (pe_tup (pa_cons pe_int pa_nil))) (pa_cons (pe_op op_catU (pe_ix (r := rIxA K) ix_any (pv 10) pe_int (fun _ _ => rfl)) (pe_tup (pa_cons pe_int pa_nil))) pa_nil))) pa_nil)))))))))), ?_⟩
  have n1 := ok.c.n
  obtain ⟨B, os⟩ := ok.s
  have hgl : gs.length = m.c.ls.length := by rw [DpAll.length hgs, List.length_map]
  obtain ⟨h0, h1, h2, eh⟩ := len3 ok.h
  obtain ⟨w0, w1, ew⟩ := len2 ok.w
  have hh2 := ok.h2
  have hw0 := ok.w0
  have hw1 := ok.w1
  unfold digR digM at q
  rw [eh] at hh hh2 q
  rw [ew] at hw hw0 hw1 q
  have hh2 : h2.length = m.c.ls.length := hh2
  have hw0 : w0.length = m.c.ls.length := hw0
  have hw1 : w1.length = m.c.ls.length := hw1
  refine ⟨_, rfl, ma, _, rfl, .inr ha, rfl, _, _, rfl, ca, _, rfl, .inr hca, rfl, _, _, rfl, _, _, rfl, _, _, rfl, rfl, _, _, rfl, _, _, rfl, _, _, rfl, rfl, ?_⟩
  refine at_s (σ' := [some (.ref ma), some (.int a), some (.int c), some (.int x), some (.int y), some (.int m.c.r), some (.int m.c.b), some (.ref g), some vs, some vh, some vw, none, none, none]) rfl ?_
  refine ⟨_, rfl, _, rfl, (by show 2 ≤ sizeLine; decide), fun t1 n1 => ?_⟩
  have s1 := same_new n1 (o := .tup [.int a, .int m.c.r])
  have e1 : (upd H t1 (.tup [.int a, .int m.c.r])) t1 = some (.tup [.int a, .int m.c.r]) := upd_same
  generalize upd H t1 (.tup [.int a, .int m.c.r]) = H1 at s1 e1
  refine ⟨_, rfl, _, rfl, (by show 2 ≤ sizeLine; decide), fun t2 n2 => ?_⟩
  have s2 := same_new n2 (o := .tup [.int c, .int m.c.r])
  have e2 : (upd H1 t2 (.tup [.int c, .int m.c.r])) t2 = some (.tup [.int c, .int m.c.r]) := upd_same
  generalize upd H1 t2 (.tup [.int c, .int m.c.r]) = H2 at s2 e2
  refine ⟨_, rfl, _, rfl, (by show 2 ≤ sizeLine; decide), fun t3 n3 => ?_⟩
  have s3 := same_new n3 (o := .tup [.int x, .int m.c.b])
  have e3 : (upd H2 t3 (.tup [.int x, .int m.c.b])) t3 = some (.tup [.int x, .int m.c.b]) := upd_same
  generalize upd H2 t3 (.tup [.int x, .int m.c.b]) = H3 at s3 e3
  refine ⟨_, rfl, _, rfl, (by show 2 ≤ sizeLine; decide), fun t4 n4 => ?_⟩
  have s4 := same_new n4 (o := .tup [.int y, .int m.c.b])
  have e4 : (upd H3 t4 (.tup [.int y, .int m.c.b])) t4 = some (.tup [.int y, .int m.c.b]) := upd_same
  generalize upd H3 t4 (.tup [.int y, .int m.c.b]) = H4 at s4 e4
  refine ⟨(by show 4 ≤ sizeLine; decide), fun t5 n5 => ?_⟩
  have s5 := same_new n5 (o := .tup [.ref t1, .ref t2, .ref t3, .ref t4])
  have e5 : (upd H4 t5 (.tup [.ref t1, .ref t2, .ref t3, .ref t4])) t5 = some (.tup [.ref t1, .ref t2, .ref t3, .ref t4]) := upd_same
  generalize upd H4 t5 (.tup [.ref t1, .ref t2, .ref t3, .ref t4]) = H5 at s5 e5
  have s05 := s1.trans (s2.trans (s3.trans (s4.trans s5)))
  obtain ⟨LL, hLL⟩ : ∃ LL : List (Int × Int), LL = [(a, m.c.r), (c, m.c.r), (x, m.c.b), (y, m.c.b)] := ⟨_, rfl⟩
  have hel : ∀ (j : Nat) u, [V.ref t1, .ref t2, .ref t3, .ref t4][j]? = some u → ∃ t p, u = .ref t ∧ LL[j]? = some p ∧ H5 t = some (.tup [.int p.1, .int p.2]) := fun j u hu => by
    subst hLL
    match j, hu with
    | 0, hu => exact ⟨t1, _, (Option.some.inj hu).symm, rfl, s5 _ _ (s4 _ _ (s3 _ _ (s2 _ _ e1)))⟩
    | 1, hu => exact ⟨t2, _, (Option.some.inj hu).symm, rfl, s5 _ _ (s4 _ _ (s3 _ _ e2))⟩
    | 2, hu => exact ⟨t3, _, (Option.some.inj hu).symm, rfl, s5 _ _ (s4 _ _ e3)⟩
    | 3, hu => exact ⟨t4, _, (Option.some.inj hu).symm, rfl, s5 _ _ e4⟩
    | j + 4, hu => cases hu
  have hlen : LL.length = 4 := by rw [hLL]; rfl
  rw [← hLL] at q
  refine ⟨t5, _, rfl, .inr (.inl (.inl e5)), fun J wk => for_it wk (fun i σ Z => ∃ y1 y2 : Option V, σ = [some (.ref ma), some (.int a), some (.int c), some (.int x), some (.int y), some (.int m.c.r), some (.int m.c.b), some (.ref g), some vs, some vh, some vw, y1, y2, none] ∧ Same H5 Z ∧ badB (LL.drop i) = badB LL) ⟨none, none, rfl, Same.refl _, rfl⟩ (fun i σ Z _ h => ?_) (fun i u σ Z Z' hi h hy => ?_) (fun σ Z h => ?_)⟩
  · obtain ⟨y1, y2, rfl, sZ, _⟩ := h
    exact ⟨fun _ z => sZ.seq z, fun z => Same.tup sZ z⟩
  · obtain ⟨y1, y2, rfl, sZ, eb⟩ := h
    obtain ⟨rfl, hx⟩ := hy
    obtain ⟨t, p, rfl, ep, et⟩ := hel i u hx
    have hd : LL.drop i = p :: LL.drop (i + 1) := by
      have hil : i < LL.length := (List.getElem?_eq_some_iff.mp ep).1
      rw [List.drop_eq_getElem_cons hil]
      congr 1
      exact (List.getElem?_eq_some_iff.mp ep).2
    rw [hd] at eb
    have eb : (if inB p.1 p.2 then badB (LL.drop (i + 1)) else some p.1) = badB LL := eb
    refine ⟨t, _, rfl, .inr (.inl (.inl (sZ _ _ et))), rfl, _, _, rfl, _, _, rfl, rfl, ?_⟩
    refine at_s (σ' := [some (.ref ma), some (.int a), some (.int c), some (.int x), some (.int y), some (.int m.c.r), some (.int m.c.b), some (.ref g), some vs, some vh, some vw, some (.int p.1), some (.int p.2), none]) rfl ?_
    refine ⟨_, rfl, _, rfl, nil_go ⟨p.1, p.2, rfl, _, rfl, ?_⟩⟩
    by_cases hb : inB p.1 p.2
    · rw [if_pos hb] at eb
      rw [show decide (0 ≤ p.1 ∧ p.1 < p.2) = true from decide_eq_true hb]
      exact iteF ⟨_, _, rfl, sZ, eb⟩
    · rw [if_neg hb] at eb
      rw [show decide (0 ≤ p.1 ∧ p.1 < p.2) = false from decide_eq_false hb]
      refine iteT ⟨_, rfl, (by show 1 ≤ 1000; decide), fun b nb => ?_⟩
      refine ⟨b, .int p.1, rfl, upd_same, fun dx nx nxa => ⟨rfl, dx, [("basin", .int p.1)], upd_same, by rw [upd_ne nxa, upd_same], by rw [upd_ne nxa] at nx; exact nx, ?_⟩⟩
      rw [upd_ne nxa] at nx
      rw [del_upd' nb nxa]
      rw [← eb] at q
      have sHZ := s05.trans sZ
      have q : rfK X H (.basin p.1) E := q
      exact q dx _ (sHZ.trans (same_new nx)) (sHZ.free nx) upd_same
  · obtain ⟨y1, y2, rfl, sZ, eb⟩ := h
    rw [List.drop_eq_nil_of_le (by rw [hlen]; exact Nat.le_refl _)] at eb
    have eb : none = badB LL := eb
    rw [← eb] at q
    have s0 := s05.trans sZ
    clear hel e1 e2 e3 e4 e5 n1 n2 n3 n4 n5
    refine ⟨_, rfl, _, rfl, _, rfl, _, rfl, _, rfl, _, rfl, _, rfl, (by show 4 ≤ sizeLine; decide), fun p1 n1 => ?_⟩
    have z1 := same_new n1 (o := .tup [.int a, .int c, .int x, .int y])
    have f1 : (upd Z p1 (.tup [.int a, .int c, .int x, .int y])) p1 = some (.tup [.int a, .int c, .int x, .int y]) := upd_same
    generalize upd Z p1 (.tup [.int a, .int c, .int x, .int y]) = Z1 at z1 f1
    refine ⟨(by show 1 ≤ sizeLine; decide), fun p2 n2 => ?_⟩
    have z2 := same_new n2 (o := .tup [.ref p1])
    have f2 : (upd Z1 p2 (.tup [.ref p1])) p2 = some (.tup [.ref p1]) := upd_same
    generalize upd Z1 p2 (.tup [.ref p1]) = Z2 at z2 f2
    have s02 := s0.trans (z1.trans z2)
    refine ⟨g, p2, _, _, rfl, rfl, Same.tup s02 hg, .inl (.inl f2), ?_, fun p3 Z3 z3 f3 => ?_⟩
    · have := ok.c.n
      exact Nat.le_of_lt (small1000 (n := gs.length + 1) (by omega))
    refine ⟨(by show 3 ≤ sizeLine; decide), fun p4 n4 => ?_⟩
    have z4 := same_new n4 (o := .tup [.int m.c.r, .int m.c.b, .ref p3])
    have s04 := s02.trans (z3.trans z4)
    have hct : Dp K (upd Z3 p4 (.tup [.int m.c.r, .int m.c.b, .ref p3])) (.ref p4) (cnD ⟨m.c.r, m.c.b, m.c.ls ++ [(a, c, x, y)]⟩) := by
      refine .tup (.inl (.inl upd_same)) (.cons (.int _) (.cons (.int _) (.cons (.tup (Same.tup z4 f3) ?_) .nil)))
      rw [List.map_append]
      have h1 := DpAll.same s04 _ hgs
      have h2 : Dp K (upd Z3 p4 (.tup [.int m.c.r, .int m.c.b, .ref p3])) (.ref p1) (lkD (a, c, x, y)) := .tup (.inl (.inl (z4 _ _ (z3 _ _ (z2 _ _ f1))))) (.cons (.int _) (.cons (.int _) (.cons (.int _) (.cons (.int _) .nil))))
      exact dpAll_snoc h1 h2
    generalize upd Z3 p4 (.tup [.int m.c.r, .int m.c.b, .ref p3]) = Z4 at z4 s04 hct
    refine at_g (σ' := [some (.ref ma), some (.int a), some (.int c), some (.int x), some (.int y), some (.int m.c.r), some (.int m.c.b), some (.ref g), some vs, some vh, some vw, y1, y2, some (.ref p4)]) rfl ?_
    have hl := ok.c.n
    refine ⟨_, rfl, _, rfl, nil_go ⟨vs, m.s.rs, m.s.bs, m.s.ls, rfl, Dp.same s04 _ hs, by have := os.n; omega, fun v1 Y1 y1 d1 => ?_⟩⟩
    refine ⟨_, rfl, nil_go ⟨vh, h0, h1, h2, rfl, Dp.same (s04.trans y1) _ hh, by omega, fun v2 Y2 y2 d2 => ?_⟩⟩
    have t02 := s04.trans (y1.trans y2)
    obtain ⟨wa, wvs, rfl, hwa, _, hwd, _⟩ := pss_of (Dp.same t02 _ hw)
    obtain ⟨u1, u2, rfl, cw0, cw1⟩ := dpall2 hwd
    obtain ⟨ta, rfl, hta⟩ := dp_it cw0
    obtain ⟨tb, rfl, htb⟩ := dp_it cw1
    refine ⟨_, rfl, wa, _, _, _, rfl, rfl, .inr hwa, rfl, (by show 1 ≤ sizeLine; decide), fun q1 m1 => ?_⟩
    have k1 := same_new m1 (o := .tup [.int 0])
    refine ⟨ta, q1, _, _, rfl, rfl, Same.tup k1 hta, .inl (.inl upd_same), ?_, fun q2 Y3 k2 g2 => ?_⟩
    · rw [List.length_map]; exact Nat.le_of_lt (small1000 (n := w0.length + 1) (by omega))
    have k12 := k1.trans k2
    refine ⟨_, rfl, wa, _, _, _, rfl, rfl, .inr (Same.tup k12 hwa), rfl, (by show 1 ≤ sizeLine; decide), fun q3 m3 => ?_⟩
    have k3 := same_new m3 (o := .tup [.int 0])
    refine ⟨tb, q3, _, _, rfl, rfl, Same.tup (k12.trans k3) htb, .inl (.inl upd_same), ?_, fun q4 Y4 k4 g4 => ?_⟩
    · rw [List.length_map]; exact Nat.le_of_lt (small1000 (n := w1.length + 1) (by omega))
    refine ⟨(by show 2 ≤ sizeLine; decide), fun q5 m5 => ?_⟩
    have k5 := same_new m5 (o := .tup [.ref q2, .ref q4])
    have j5 : (upd Y4 q5 (.tup [.ref q2, .ref q4])) q5 = some (.tup [.ref q2, .ref q4]) := upd_same
    generalize upd Y4 q5 (.tup [.ref q2, .ref q4]) = Y5 at k5 j5
    refine ⟨(by show 4 ≤ sizeLine; decide), fun q6 m6 => ?_⟩
    have k6 := same_new m6 (o := .tup [.ref p4, v1, v2, .ref q5])
    have k56 := k5.trans k6
    have k16 := k12.trans (k3.trans (k4.trans k56))
    have k36 := k3.trans (k4.trans k56)
    refine q (.ref q6) _ (t02.trans k16) (.tup (.inl (.inl upd_same)) (.cons (Dp.same ((y1.trans y2).trans k16) _ hct) (.cons (Dp.same (y2.trans k16) _ d1) (.cons (Dp.same k16 _ d2) (.cons (.tup (.inl (.inl (k6 _ _ j5))) (.cons (.tup (xs := (w0 ++ [0]).map V.int) ?_ (dp_ints _)) (.cons (.tup (xs := (w1 ++ [0]).map V.int) ?_ (dp_ints _)) .nil))) .nil)))))
    · rw [List.map_append]; exact Same.tup k36 g2
    · rw [List.map_append]; exact Same.tup k56 g4
/-! ### begun -/
def spBeg (K : PySem.W.Frag) : Sp := fun vs H Q _ => ∃ (v u : V) (d1 d2 : PyData) (c : Cn) (s : Sn) (B : Int), vs = [v, u] ∧ Dp K H v d1 ∧ okD 4 d1 ∧ tupD d1 = cnD c ∧ Dp K H u d2 ∧ okD 4 d2 ∧ tupD d2 = snD s ∧ okCn 100 100 c ∧ okSn c B s ∧ ∀ v' H', Same H H' → Dp K H' v' (moD (mo0 c s)) → Q v' H'
theorem ok_beg {f ft fn : Addr} {fd fdt fdn : FuncData} {k : Nat} (F : Fun K "begun" "begun" sBeg f fd) (Tu : Fns P w K mg base (k + 4) "tupled" ["thing"] (spTupled K 4) ft fdt) (No : Fns P w K mg base (k + 4) "noughts" ["many"] (spNou K) fn fdn) (m_len : mg "len" = none) : FnOk P w K mg base CX0 (k + 4 + 1) f fd ["canal", "standing"] (spBeg K) := by
  refine F.ok scBeg (fun vs H Q E h => ?_) (fun cdv A outer s0 H vs Q E hr h => ?_)
  · obtain ⟨v, u, d1, d2, c, s, B, rfl, _⟩ := h
    rfl
  obtain ⟨v, u, d1, d2, c, s, B, rfl, hv, k1, e1, hu, k2, e2, okc, os, q⟩ := h
  refine ⟨_, (pss_cons (ps_asg (pe_fn Tu hr rfl (pa_cons (pv 0) pa_nil)) (pg_any rfl (pgs_cons (pg_name (i := 2) scBeg.nd rfl (.inl rfl)) (pgs_cons (pg_name (i := 3) scBeg.nd rfl (.inl rfl)) (pgs_cons (pg_name (i := 4) scBeg.nd rfl (.inl rfl)) pgs_nil)))))
    (pss_cons (ps_set (i := 5) scBeg.nd rfl (.inl rfl) (pe_fn No hr rfl (pa_cons (pe_callB (r := rLenA K) call_lenA rfl m_len PySem.boot_len (pa_cons (pv 4) pa_nil)) pa_nil)))
    (pss_one (ps_ret (pe_tup (pa_cons (pe_tup (pa_cons (pv 2) (pa_cons (pv 3) (pa_cons (pv 4) pa_nil)))) (pa_cons (pe_fn Tu hr rfl (pa_cons (pv 1) pa_nil)) (pa_cons (pe_tup (pa_cons (pe_fn No hr rfl (pa_cons (pv 2) pa_nil)) (pa_cons (pe_fn No hr rfl (pa_cons (pv 3) pa_nil)) (pa_cons (pv 5) pa_nil)))) (pa_cons (pe_tup (pa_cons (pv 5) (pa_cons (pv 5) pa_nil))) pa_nil))))))))), ?_⟩
  refine ⟨_, rfl, nil_go ⟨v, d1, rfl, hv, k1, fun v1 H1 s1 dp1 => ?_⟩⟩
  rw [e1] at dp1
  obtain ⟨ca, g, gs, rfl, hca, hg, hgs⟩ := cn_of dp1
  have hgl : gs.length = c.ls.length := by rw [DpAll.length hgs, List.length_map]
  have n1 := okc.n; have r1 := okc.r1; have r2 := okc.r2; have b1 := okc.b1; have b2 := okc.b2
  refine ⟨ca, _, rfl, .inr hca, rfl, _, _, rfl, _, _, rfl, _, _, rfl, rfl, ?_⟩
  refine at_s (σ' := [some v, some u, some (.int c.r), some (.int c.b), some (.ref g), none]) rfl ?_
  refine ⟨_, rfl, nil_go ⟨g, _, rfl, .inr hg, nil_go ⟨gs.length, rfl, by omega, fun v2 H2 s2 d2 => ?_⟩⟩⟩
  refine at_g (σ' := [some v, some u, some (.int c.r), some (.int c.b), some (.ref g), some v2]) rfl ?_
  rw [hgl] at d2
  have s12 := s1.trans s2
  refine ⟨_, rfl, _, rfl, _, rfl, (by show 3 ≤ sizeLine; decide), fun t nt => ?_⟩
  have st := same_new nt (o := .tup [.int c.r, .int c.b, .ref g])
  have hct : Dp K (upd H2 t (.tup [.int c.r, .int c.b, .ref g])) (.ref t) (cnD c) := .tup (.inl (.inl upd_same)) (.cons (.int _) (.cons (.int _) (.cons (.tup (Same.tup (s2.trans st) hg) (DpAll.same (s2.trans st) _ hgs)) .nil)))
  replace d2 := Dp.same st _ d2
  have s1t := s12.trans st
  generalize upd H2 t (.tup [.int c.r, .int c.b, .ref g]) = H3 at hct d2 s1t
  refine ⟨_, rfl, nil_go ⟨u, _, rfl, Dp.same s1t _ hu, k2, fun v3 H4 s4 d3 => ?_⟩⟩
  rw [e2] at d3
  refine ⟨_, rfl, nil_go ⟨c.r.toNat, by rw [show ((c.r.toNat : Nat) : Int) = c.r from by omega]; rfl, by omega, fun v4 H5 s5 d4 => ?_⟩⟩
  refine ⟨_, rfl, nil_go ⟨c.b.toNat, by rw [show ((c.b.toNat : Nat) : Int) = c.b from by omega]; rfl, by omega, fun v5 H6 s6 d5 => ?_⟩⟩
  refine ⟨_, rfl, (by show 3 ≤ sizeLine; decide), fun p1 np1 => ?_⟩
  have s7 := same_new np1 (o := .tup [v4, v5, v2])
  have e7 : (upd H6 p1 (.tup [v4, v5, v2])) p1 = some (.tup [v4, v5, v2]) := upd_same
  generalize upd H6 p1 (.tup [v4, v5, v2]) = H7 at s7 e7
  refine ⟨_, rfl, _, rfl, (by show 2 ≤ sizeLine; decide), fun p2 np2 => ?_⟩
  have s8 := same_new np2 (o := .tup [v2, v2])
  have e8 : (upd H7 p2 (.tup [v2, v2])) p2 = some (.tup [v2, v2]) := upd_same
  generalize upd H7 p2 (.tup [v2, v2]) = H8 at s8 e8
  refine ⟨(by show 4 ≤ sizeLine; decide), fun p3 np3 => ?_⟩
  have s9 := same_new np3 (o := .tup [.ref t, v3, .ref p1, .ref p2])
  have s79 := s7.trans (s8.trans s9)
  have s69 := s6.trans s79
  have s59 := s5.trans s69
  have s49 := s4.trans s59
  have d2' := Dp.same s49 _ d2
  refine q (.ref p3) _ (s1t.trans s49) (.tup (.inl (.inl upd_same)) (.cons (Dp.same s49 _ hct) (.cons (Dp.same s59 _ d3) (.cons (.tup (.inl (.inl (s9 _ _ (s8 _ _ e7)))) (.cons (Dp.same s69 _ d4) (.cons (Dp.same s79 _ d5) (.cons d2' .nil)))) (.cons (.tup (.inl (.inl (s9 _ _ e8))) (.cons d2' (.cons d2' .nil))) .nil)))))
end
end XL
namespace XL
open PySem PySem.Spec PyProof.Rows L2
/-! ### a Keep -/
def kpF (M N : Addr) : List (Str × V) := [("moments", .ref M), ("notes", .ref N)]
def noteD (a b : Str) : PyData := .tuple [.str a, .str b]
structure Kp (K : PySem.W.Frag) (C : Addr) (H : Hp) (a M N : Addr) (ms : List Mo) (ns : List PyData) : Prop where
  i : ∃ dx, H a = some (.ins C dx (kpF M N))
  m : ∃ vs, H M = some (.lst vs) ∧ DpAll K H vs (ms.map moD)
  n : ∃ us, H N = some (.lst us) ∧ DpAll K H us ns
  ne : M ≠ N
  nl : noLs ns = true
/-- what the module has written of the class -/
structure KC (K : PySem.W.Frag) (C : Addr) : Prop where
  cl : Cls K C
  nM : NoAttr K C "moments"
  nN : NoAttr K C "notes"
theorem kpF_M (M N : Addr) : (kpF M N).lookup ("moments" : Str) = some (.ref M) := by unfold kpF; simp [List.lookup]
theorem kpF_N (M N : Addr) : (kpF M N).lookup ("notes" : Str) = some (.ref N) := by
  have h : (("notes" : Str) == ("moments" : Str)) = false := by decide +kernel
  unfold kpF; simp [List.lookup, h]
/-- all but the keep's own two lists stays -/
def FrK (M N : Addr) (H H' : Hp) : Prop := ∀ b o, b ≠ M → b ≠ N → H b = some o → H' b = some o
theorem FrK.trans {M N : Addr} {H H1 H2 : Hp} (p : FrK M N H H1) (q : FrK M N H1 H2) : FrK M N H H2 := fun b o h1 h2 e => q b o h1 h2 (p b o h1 h2 e)
theorem FrK.of {M N : Addr} {H H' : Hp} (s : Same H H') : FrK M N H H' := fun b o _ _ e => s b o e
theorem noLs_mos : ∀ ms : List Mo, noLs (ms.map moD) = true
  | [] => rfl
  | m :: ms => by rw [List.map_cons, noLs, noL_mo, noLs_mos ms]; rfl
theorem noLs_app : ∀ {xs ys : List PyData}, noLs xs = true → noLs ys = true → noLs (xs ++ ys) = true
  | [], _, _, h => h
  | x :: xs, ys, h, h2 => by
    rw [noLs, Bool.and_eq_true] at h
    rw [List.cons_append, noLs, h.1, noLs_app h.2 h2]; rfl
/-- where a refusal lies -/
def RfAt (X : Ks) (e : Rf) (cls : Value) (d : Addr) (H : Hp) : Prop := match e with
  | .lock i => cls = .ref X.L ∧ H d = some (.xd [("lock", .int i)])
  | .basin i => cls = .ref X.S ∧ H d = some (.xd [("basin", .int i)])
  | .deed i => cls = .ref X.D ∧ H d = some (.xd [("many", .int i)])
  | .boat i r => cls = .ref X.B ∧ ∃ t, H d = some (.xd [("going", .ref t)]) ∧ H t = some (.tup (mvV (i, r)))
  | .short x => cls = .ref X.O ∧ H d = some (.xd [("many", .int x)])
theorem rfK_mk {X : Ks} {H : Hp} {e : Rf} {E : XK} (h : ∀ cls d H', Same H H' → H d = none → RfAt X e cls d H' → E cls (some d) H') : rfK X H e E := by
  cases e with
  | boat i r => exact fun d t H' s n e1 e2 => h _ d H' s n ⟨rfl, t, e1, e2⟩
  | _ => exact fun d H' s n e1 => h _ d H' s n ⟨rfl, e1⟩
theorem RfAt.put {X : Ks} {e : Rf} {cls : Value} {d : Addr} {H H' : Hp} {N : Addr} {us : List V} (h : RfAt X e cls d H) (en : H N = some (.lst us)) (f : ∀ b o, b ≠ N → H b = some o → H' b = some o) : RfAt X e cls d H' := by
  have k1 : ∀ {b o}, H b = some o → (∀ us, o ≠ .lst us) → H' b = some o := fun {b o} e n => f b o (fun z => n us (by rw [z, en] at e; exact (Option.some.inj e).symm)) e
  cases e with
  | boat i r =>
    obtain ⟨h1, t, h2, h3⟩ := h
    exact ⟨h1, t, k1 h2 (fun us z => by cases z), k1 h3 (fun us z => by cases z)⟩
  | _ => exact ⟨h.1, k1 h.2 (fun us z => by cases z)⟩
section
variable {K : PySem.W.Frag} {C : Addr} {H H' : Hp} {a M N : Addr} {ms : List Mo} {ns : List PyData}
theorem Kp.same (kp : Kp K C H a M N ms ns) (s : Same H H') : Kp K C H' a M N ms ns := by
  obtain ⟨dx, hi⟩ := kp.i; obtain ⟨vs, hm, dm⟩ := kp.m; obtain ⟨us, hn, dn⟩ := kp.n
  exact ⟨⟨dx, s _ _ hi⟩, ⟨vs, s _ _ hm, DpAll.same s _ dm⟩, ⟨us, s _ _ hn, DpAll.same s _ dn⟩, kp.ne, kp.nl⟩
theorem Kp.nN (kp : Kp K C H a M N ms ns) : a ≠ N := fun z => by
  obtain ⟨dx, hi⟩ := kp.i; obtain ⟨us, hn, _⟩ := kp.n
  rw [z, hn] at hi; cases hi
theorem Kp.nM (kp : Kp K C H a M N ms ns) : a ≠ M := fun z => by
  obtain ⟨dx, hi⟩ := kp.i; obtain ⟨vs, hm, _⟩ := kp.m
  rw [z, hm] at hi; cases hi
theorem Kp.note (kp : Kp K C H a M N ms ns) {us : List V} (en : H N = some (.lst us)) {v : V} {d : PyData} (hv : Dp K H v d) (hd : noL d = true) : Kp K C (upd H N (.lst (us ++ [v]))) a M N ms (ns ++ [d]) := by
  obtain ⟨dx, hi⟩ := kp.i; obtain ⟨vs, hm, dm⟩ := kp.m; obtain ⟨us', hn, dn⟩ := kp.n
  obtain rfl : us = us' := by rw [en] at hn; cases hn; rfl
  have tp := Tp.upd (o := .lst (us ++ [v])) en
  refine ⟨⟨dx, by rw [upd_ne kp.nN]; exact hi⟩, ⟨vs, by rw [upd_ne kp.ne]; exact hm, DpAll.tp tp _ (noLs_mos ms) dm⟩, ⟨_, upd_same, dpAll_snoc (DpAll.tp tp _ kp.nl dn) (Dp.tp tp _ hd hv)⟩, kp.ne, noLs_app kp.nl (by rw [noLs, hd]; rfl)⟩
theorem Kp.moment (kp : Kp K C H a M N ms ns) {vs : List V} (em : H M = some (.lst vs)) {v : V} {m : Mo} (hv : Dp K H v (moD m)) : Kp K C (upd H M (.lst (vs ++ [v]))) a M N (ms ++ [m]) ns := by
  obtain ⟨dx, hi⟩ := kp.i; obtain ⟨vs', hm, dm⟩ := kp.m; obtain ⟨us, hn, dn⟩ := kp.n
  obtain rfl : vs = vs' := by rw [em] at hm; cases hm; rfl
  have tp := Tp.upd (o := .lst (vs ++ [v])) em
  refine ⟨⟨dx, by rw [upd_ne kp.nM]; exact hi⟩, ⟨_, upd_same, by rw [List.map_append]; exact dpAll_snoc (DpAll.tp tp _ (noLs_mos ms) dm) (Dp.tp tp _ (noL_mo m) hv)⟩, ⟨us, by rw [upd_ne (Ne.symm kp.ne)]; exact hn, DpAll.tp tp _ kp.nl dn⟩, kp.ne, kp.nl⟩
theorem Kp.last {ms : List Mo} {m : Mo} (kp : Kp K C H a M N (ms ++ [m]) ns) : ∃ vs v, H M = some (.lst vs) ∧ vs.length = ms.length + 1 ∧ atI vs (-1) = some v ∧ Dp K H v (moD m) := by
  obtain ⟨vs, hm, dm⟩ := kp.m
  have hl := DpAll.length dm
  rw [List.length_map, List.length_append] at hl
  have hl : vs.length = ms.length + 1 := hl
  obtain ⟨v, hv⟩ : ∃ v, vs[ms.length]? = some v := ⟨_, List.getElem?_eq_getElem (by omega)⟩
  obtain ⟨d, ed, pd⟩ := DpAll.get dm hv
  rw [List.getElem?_map, List.getElem?_append_right (Nat.le_refl _), Nat.sub_self] at ed
  obtain rfl := Option.some.inj ed
  refine ⟨vs, v, hm, hl, ?_, pd⟩
  have e : ixN vs.length (-1) = some ms.length := by
    unfold ixN
    rw [if_neg (by decide), if_pos (by omega)]
    congr 1
    omega
  unfold atI
  rw [e]
  exact hv
end
section
variable {K : PySem.W.Frag} {C a M N : Addr} {ms : List Mo} {ns : List PyData}
/-- self.notes.append((w1, w2)) -/
theorem note_go {D : Ends} {σ : L2.St} {H : Hp} {w1 w2 : Str} (kc : KC K C) (kp : Kp K C H a M N ms ns) (h0 : σ[0]? = some (some (.ref a))) (hl : ns.length ≤ 1000) (q : ∀ us H', H N = some (.lst us) → FrK M N H H' → (∀ b o, b ≠ N → H b = some o → H' b = some o) → Kp K C H' a M N ms (ns ++ [noteD w1 w2]) → D.nx σ H') :
    tDrop (tBM K "list" rAppend (tFld K (tVar 0) "notes") (tCons (tTup (tCons (tC (.str w1)) (tCons (tC (.str w2)) tNil))) tNil)) D σ H := by
  obtain ⟨dx, hi⟩ := kp.i
  obtain ⟨us, hn, dn⟩ := kp.n
  have hul : us.length = ns.length := DpAll.length dn
  refine ⟨_, h0, a, C, dx, _, _, rfl, hi, kc.cl, kc.nN, kpF_N M N, .inl ⟨rfl, _, SqL.of hn⟩, (by show 2 ≤ sizeLine; decide), fun t nt => nil_go ?_⟩
  have s1 := same_new nt (o := .tup [.str w1, .str w2])
  have kp1 := kp.same s1
  refine ⟨N, us, _, rfl, rfl, s1 _ _ hn, small1000 (by omega), ?_⟩
  refine q us _ hn (fun b o h1 h2 e => ?_) (fun b o h e => ?_) (kp1.note (s1 _ _ hn) (.tup (.inl (.inl upd_same)) (.cons (.str _) (.cons (.str _) .nil))) rfl)
  · rw [upd_ne h2]; exact s1 _ _ e
  · rw [upd_ne h]; exact s1 _ _ e
/-- what a deed asks and tells -/
def dQ (X : Ks) (K : PySem.W.Frag) (C : Addr) (a M N : Addr) (ms : List Mo) (m : Mo) (ns : List PyData) (w : Str) (res : Res) (H : Hp) (Q : Mo → Hp → Prop) (E : XK) : Prop := match res with
  | .ok m' => ∀ H', FrK M N H H' → Kp K C H' a M N (ms ++ [m] ++ [m']) (ns ++ [noteD "in" w] ++ [noteD "out" w]) → Q m' H'
  | .error e => ∀ cls d H', FrK M N H H' → H d = none → RfAt X e cls d H' → Kp K C H' a M N (ms ++ [m]) (ns ++ [noteD "in" w] ++ [noteD "out" w]) → E cls (some d) H'
end
section
variable {P : Program} {w : World} {K : PySem.W.Frag} {mg : Str → Option Value} {base : Heap}
/-! ### go -/
abbrev sKgo : Stmt := inClass (topS 35) 1
abbrev nKgo : List Str := ["self", "lock", "water"]
theorem scKgo : FnScope nKgo ["self", "lock", "water"] (defScope sKgo) := ⟨rfl, rfl, rfl, by decide +kernel, rfl, by decide +kernel, by decide +kernel⟩
def spKgo (K : PySem.W.Frag) (X : Ks) (C : Addr) : Sp := fun vs H Q E => ∃ (a M N : Addr) (ms : List Mo) (m : Mo) (ns : List PyData) (r : Bool) (i : Int), vs = .ref a :: [.int i, .str (wS r)] ∧ Kp K C H a M N (ms ++ [m]) ns ∧ okMo m ∧ ms.length ≤ 900 ∧ ns.length ≤ 900 ∧ dQ X K C a M N ms m ns "go" (goR m i r) H (fun _ H' => Q .non H') E
theorem ok_Kgo {f fg C : Addr} {fd fdg : FuncData} {k : Nat} {X : Ks} (F : Fun K "go" "Keep.go" sKgo f fd) (kc : KC K C) (Gb : FnX P w K mg base k "gone_by" ["moment", "lock", "water"] (spGb K X) fg fdg) : FnOk P w K mg base (L2.CX P w) (k + 1) f fd ["self", "lock", "water"] (spKgo K X C) := by
  refine F.okX scKgo (fun vs H Q E h => ?_) (fun cdv A outer s H vs Q E hr h => ?_)
  · obtain ⟨a, M, N, ms, m, ns, r, i, rfl, _⟩ := h
    rfl
  obtain ⟨a, M, N, ms, m, ns, r, i, rfl, kp, ok, hml, hnl, q⟩ := h
  refine ⟨_, (pss_cons (ps_expr (pe_bm PySem.F.plainAttrs_list PySem.F.slot_list_append PySem.F.type_list_append mt_append (pe_fld (pv 0) rfl) (pa_cons (pe_tup (pa_cons pe_str (pa_cons pe_str pa_nil))) pa_nil)))
    (pss_one (ps_endly (tb := fun W => tDrop (tBM K "list" rAppend (tFld K (tVar 0) "moments") (tCons (tCallS (spGb K X) (WE W) (tCons (tOp (rIxA K) (tFld K (tVar 0) "moments") (tUn (rU fun i => .int (-i)) (tC (.int 1)))) (tCons (tVar 1) (tCons (tVar 2) tNil)))) tNil))) (ta := tDrop (tBM K "list" rAppend (tFld K (tVar 0) "notes") (tCons (tTup (tCons (tC (.str "out")) (tCons (tC (.str "go")) tNil))) tNil))) (tz := tDrop (tBM K "list" rAppend (tFld K (tVar 0) "notes") (tCons (tTup (tCons (tC (.str "out")) (tCons (tC (.str "go")) tNil))) tNil))) rfl rfl rfl (takes_of rfl rfl rfl rfl) (fun W pn xe tk _ => (pss_one (ps_expr (pe_bm PySem.F.plainAttrs_list PySem.F.slot_list_append PySem.F.type_list_append mt_append (pe_fld (pv 0) rfl) (pa_cons (pe_callS Gb.ok hr rfl Gb.g Gb.k Gb.b (fun σ => passAt tk σ) (pa_cons (pe_ix (r := rIxA K) ix_any (pe_fld (pv 0) rfl) (pe_un un_neg pe_int) (fun _ _ => rfl)) (pa_cons (pv 1) (pa_cons (pv 2) pa_nil)))) pa_nil))))) (pss_one (ps_expr (pe_bm PySem.F.plainAttrs_list PySem.F.slot_list_append PySem.F.type_list_append mt_append (pe_fld (pv 0) rfl) (pa_cons (pe_tup (pa_cons pe_str (pa_cons pe_str pa_nil))) pa_nil)))) (fun _ pn => (pss_one (ps_expr (pe_bm PySem.F.plainAttrs_list PySem.F.slot_list_append PySem.F.type_list_append mt_append (pe_fld (pv 0) rfl) (pa_cons (pe_tup (pa_cons pe_str (pa_cons pe_str pa_nil))) pa_nil)))))))), ?_⟩
  refine note_go kc kp rfl (by omega) fun us0 H1 _ f1 _ kp1 => ?_
  obtain ⟨dx, hi⟩ := kp1.i
  obtain ⟨vs, v, hm, hvl, hat, dv⟩ := kp1.last
  refine ⟨_, rfl, a, C, dx, _, _, rfl, hi, kc.cl, kc.nM, kpF_M M N, .inl ⟨rfl, _, SqL.of hm⟩, _, rfl, a, C, dx, _, _, rfl, hi, kc.cl, kc.nM, kpF_M M N, _, rfl, M, vs, _, _, rfl, rfl, .inl (SqL.of hm), hat, _, rfl, _, rfl, nil_go ⟨v, m, r, i, rfl, dv, ok, ?_⟩⟩
  have hnl1 : (ns ++ [noteD "in" "go"]).length ≤ 1000 := by rw [List.length_append]; show ns.length + 1 ≤ 1000; omega
  cases hres : goR m i r with
  | ok m' =>
    rw [hres] at q
    intro v' H2 s2 d2
    refine nil_go ⟨M, vs, v', rfl, rfl, s2 _ _ hm, small1000 (by omega), ?_⟩
    refine note_go kc ((kp1.same s2).moment (s2 _ _ hm) d2) rfl hnl1 fun us1 H3 _ f3 _ kp3 => ?_
    refine q H3 (f1.trans ((FrK.of s2).trans (FrK.trans (fun b o h1 h2 e => by rw [upd_ne h1]; exact e) f3))) kp3
  | error e =>
    rw [hres] at q
    refine rfK_mk fun cls d H2 s2 nd rf => ?_
    refine note_go kc (kp1.same s2) rfl hnl1 fun us1 H3 en f3 g3 kp3 => ?_
    have nd0 : H d = none := by
      cases h : H d with
      | none => rfl
      | some o =>
        obtain ⟨_, hm0, _⟩ := kp.m
        obtain ⟨_, hn0, _⟩ := kp.n
        by_cases h1 : d = M
        · rw [h1, hm] at nd; cases nd
        · by_cases h2 : d = N
          · obtain ⟨_, hn1, _⟩ := kp1.n
            rw [h2, hn1] at nd; cases nd
          · rw [f1 d o h1 h2 h] at nd; cases nd
    exact q cls d H3 (f1.trans ((FrK.of s2).trans f3)) nd0 (rf.put en g3) kp3
/-! ### row -/
abbrev sKro : Stmt := inClass (topS 35) 2
abbrev nKro : List Str := ["self", "goings"]
theorem scKro : FnScope nKro ["self", "goings"] (defScope sKro) := ⟨rfl, rfl, rfl, by decide +kernel, rfl, by decide +kernel, by decide +kernel⟩
def spKro (K : PySem.W.Frag) (X : Ks) (C : Addr) : Sp := fun vs H Q E => ∃ (a M N : Addr) (ms : List Mo) (m : Mo) (ns : List PyData) (g : Addr) (gs : List (Int × Bool)), vs = .ref a :: [.ref g] ∧ Kp K C H a M N (ms ++ [m]) ns ∧ okMo m ∧ ms.length ≤ 900 ∧ ns.length ≤ 900 ∧ (∀ H1, FrK M N H H1 → Kp K C H1 a M N (ms ++ [m]) (ns ++ [noteD "in" "row"]) → RowZ K H1 g gs) ∧ dQ X K C a M N ms m ns "row" (rowR m gs) H (fun _ H' => Q .non H') E
theorem ok_Kro {f fg C : Addr} {fd fdg : FuncData} {k : Nat} {X : Ks} (F : Fun K "row" "Keep.row" sKro f fd) (kc : KC K C) (Ga : FnX P w K mg base k "gone_by_all" ["moment", "goings"] (spGa K X) fg fdg) : FnOk P w K mg base (L2.CX P w) (k + 1) f fd ["self", "goings"] (spKro K X C) := by
  refine F.okX scKro (fun vs H Q E h => ?_) (fun cdv A outer s H vs Q E hr h => ?_)
  · obtain ⟨a, M, N, ms, m, ns, g, gs, rfl, _⟩ := h
    rfl
  obtain ⟨a, M, N, ms, m, ns, g, gs, rfl, kp, ok, hml, hnl, hrow, q⟩ := h
  refine ⟨_, (pss_cons (ps_expr (pe_bm PySem.F.plainAttrs_list PySem.F.slot_list_append PySem.F.type_list_append mt_append (pe_fld (pv 0) rfl) (pa_cons (pe_tup (pa_cons pe_str (pa_cons pe_str pa_nil))) pa_nil)))
    (pss_one (ps_endly (tb := fun W => tDrop (tBM K "list" rAppend (tFld K (tVar 0) "moments") (tCons (tCallS (spGa K X) (WE W) (tCons (tOp (rIxA K) (tFld K (tVar 0) "moments") (tUn (rU fun i => .int (-i)) (tC (.int 1)))) (tCons (tVar 1) tNil))) tNil))) (ta := tDrop (tBM K "list" rAppend (tFld K (tVar 0) "notes") (tCons (tTup (tCons (tC (.str "out")) (tCons (tC (.str "row")) tNil))) tNil))) (tz := tDrop (tBM K "list" rAppend (tFld K (tVar 0) "notes") (tCons (tTup (tCons (tC (.str "out")) (tCons (tC (.str "row")) tNil))) tNil))) rfl rfl rfl (takes_of rfl rfl rfl rfl) (fun W pn xe tk _ => (pss_one (ps_expr (pe_bm PySem.F.plainAttrs_list PySem.F.slot_list_append PySem.F.type_list_append mt_append (pe_fld (pv 0) rfl) (pa_cons (pe_callS Ga.ok hr rfl Ga.g Ga.k Ga.b (fun σ => passAt tk σ) (pa_cons (pe_ix (r := rIxA K) ix_any (pe_fld (pv 0) rfl) (pe_un un_neg pe_int) (fun _ _ => rfl)) (pa_cons (pv 1) pa_nil))) pa_nil))))) (pss_one (ps_expr (pe_bm PySem.F.plainAttrs_list PySem.F.slot_list_append PySem.F.type_list_append mt_append (pe_fld (pv 0) rfl) (pa_cons (pe_tup (pa_cons pe_str (pa_cons pe_str pa_nil))) pa_nil)))) (fun _ pn => (pss_one (ps_expr (pe_bm PySem.F.plainAttrs_list PySem.F.slot_list_append PySem.F.type_list_append mt_append (pe_fld (pv 0) rfl) (pa_cons (pe_tup (pa_cons pe_str (pa_cons pe_str pa_nil))) pa_nil)))))))), ?_⟩
  refine note_go kc kp rfl (by omega) fun us0 H1 _ f1 _ kp1 => ?_
  obtain ⟨dx, hi⟩ := kp1.i
  obtain ⟨vs, v, hm, hvl, hat, dv⟩ := kp1.last
  refine ⟨_, rfl, a, C, dx, _, _, rfl, hi, kc.cl, kc.nM, kpF_M M N, .inl ⟨rfl, _, SqL.of hm⟩, _, rfl, a, C, dx, _, _, rfl, hi, kc.cl, kc.nM, kpF_M M N, _, rfl, M, vs, _, _, rfl, rfl, .inl (SqL.of hm), hat, _, rfl, nil_go ⟨v, g, m, gs, rfl, dv, ok, hrow H1 f1 kp1, ?_⟩⟩
  have hnl1 : (ns ++ [noteD "in" "row"]).length ≤ 1000 := by rw [List.length_append]; show ns.length + 1 ≤ 1000; omega
  cases hres : rowR m gs with
  | ok m' =>
    rw [hres] at q
    intro v' H2 s2 d2
    refine nil_go ⟨M, vs, v', rfl, rfl, s2 _ _ hm, small1000 (by omega), ?_⟩
    refine note_go kc ((kp1.same s2).moment (s2 _ _ hm) d2) rfl hnl1 fun us1 H3 _ f3 _ kp3 => ?_
    refine q H3 (f1.trans ((FrK.of s2).trans (FrK.trans (fun b o h1 h2 e => by rw [upd_ne h1]; exact e) f3))) kp3
  | error e =>
    rw [hres] at q
    refine rfK_mk fun cls d H2 s2 nd rf => ?_
    refine note_go kc (kp1.same s2) rfl hnl1 fun us1 H3 en f3 g3 kp3 => ?_
    have nd0 : H d = none := by
      cases h : H d with
      | none => rfl
      | some o =>
        obtain ⟨_, hm0, _⟩ := kp.m
        obtain ⟨_, hn0, _⟩ := kp.n
        by_cases h1 : d = M
        · rw [h1, hm] at nd; cases nd
        · by_cases h2 : d = N
          · obtain ⟨_, hn1, _⟩ := kp1.n
            rw [h2, hn1] at nd; cases nd
          · rw [f1 d o h1 h2 h] at nd; cases nd
    exact q cls d H3 (f1.trans ((FrK.of s2).trans f3)) nd0 (rf.put en g3) kp3
/-! ### fill -/
abbrev sKfi : Stmt := inClass (topS 35) 3
abbrev nKfi : List Str := ["self", "water", "basin", "many"]
theorem scKfi : FnScope nKfi ["self", "water", "basin", "many"] (defScope sKfi) := ⟨rfl, rfl, rfl, by decide +kernel, rfl, by decide +kernel, by decide +kernel⟩
def spKfi (K : PySem.W.Frag) (X : Ks) (C : Addr) : Sp := fun vs H Q E => ∃ (a M N : Addr) (ms : List Mo) (m : Mo) (ns : List PyData) (r : Bool) (i : Int) (x : Int), vs = .ref a :: [.str (wS r), .int i, .int x] ∧ Kp K C H a M N (ms ++ [m]) ns ∧ okMo m ∧ ms.length ≤ 900 ∧ ns.length ≤ 900 ∧ dQ X K C a M N ms m ns "fill" (fillR m r i x) H (fun _ H' => Q .non H') E
theorem ok_Kfi {f fg C : Addr} {fd fdg : FuncData} {k : Nat} {X : Ks} (F : Fun K "fill" "Keep.fill" sKfi f fd) (kc : KC K C) (Fi : FnX P w K mg base k "filled" ["moment", "water", "basin", "many"] (spFi K X) fg fdg) : FnOk P w K mg base (L2.CX P w) (k + 1) f fd ["self", "water", "basin", "many"] (spKfi K X C) := by
  refine F.okX scKfi (fun vs H Q E h => ?_) (fun cdv A outer s H vs Q E hr h => ?_)
  · obtain ⟨a, M, N, ms, m, ns, r, i, x, rfl, _⟩ := h
    rfl
  obtain ⟨a, M, N, ms, m, ns, r, i, x, rfl, kp, ok, hml, hnl, q⟩ := h
  refine ⟨_, (pss_cons (ps_expr (pe_bm PySem.F.plainAttrs_list PySem.F.slot_list_append PySem.F.type_list_append mt_append (pe_fld (pv 0) rfl) (pa_cons (pe_tup (pa_cons pe_str (pa_cons pe_str pa_nil))) pa_nil)))
    (pss_one (ps_endly (tb := fun W => tDrop (tBM K "list" rAppend (tFld K (tVar 0) "moments") (tCons (tCallS (spFi K X) (WE W) (tCons (tOp (rIxA K) (tFld K (tVar 0) "moments") (tUn (rU fun i => .int (-i)) (tC (.int 1)))) (tCons (tVar 1) (tCons (tVar 2) (tCons (tVar 3) tNil))))) tNil))) (ta := tDrop (tBM K "list" rAppend (tFld K (tVar 0) "notes") (tCons (tTup (tCons (tC (.str "out")) (tCons (tC (.str "fill")) tNil))) tNil))) (tz := tDrop (tBM K "list" rAppend (tFld K (tVar 0) "notes") (tCons (tTup (tCons (tC (.str "out")) (tCons (tC (.str "fill")) tNil))) tNil))) rfl rfl rfl (takes_of rfl rfl rfl rfl) (fun W pn xe tk _ => (pss_one (ps_expr (pe_bm PySem.F.plainAttrs_list PySem.F.slot_list_append PySem.F.type_list_append mt_append (pe_fld (pv 0) rfl) (pa_cons (pe_callS Fi.ok hr rfl Fi.g Fi.k Fi.b (fun σ => passAt tk σ) (pa_cons (pe_ix (r := rIxA K) ix_any (pe_fld (pv 0) rfl) (pe_un un_neg pe_int) (fun _ _ => rfl)) (pa_cons (pv 1) (pa_cons (pv 2) (pa_cons (pv 3) pa_nil))))) pa_nil))))) (pss_one (ps_expr (pe_bm PySem.F.plainAttrs_list PySem.F.slot_list_append PySem.F.type_list_append mt_append (pe_fld (pv 0) rfl) (pa_cons (pe_tup (pa_cons pe_str (pa_cons pe_str pa_nil))) pa_nil)))) (fun _ pn => (pss_one (ps_expr (pe_bm PySem.F.plainAttrs_list PySem.F.slot_list_append PySem.F.type_list_append mt_append (pe_fld (pv 0) rfl) (pa_cons (pe_tup (pa_cons pe_str (pa_cons pe_str pa_nil))) pa_nil)))))))), ?_⟩
  refine note_go kc kp rfl (by omega) fun us0 H1 _ f1 _ kp1 => ?_
  obtain ⟨dx, hi⟩ := kp1.i
  obtain ⟨vs, v, hm, hvl, hat, dv⟩ := kp1.last
  refine ⟨_, rfl, a, C, dx, _, _, rfl, hi, kc.cl, kc.nM, kpF_M M N, .inl ⟨rfl, _, SqL.of hm⟩, _, rfl, a, C, dx, _, _, rfl, hi, kc.cl, kc.nM, kpF_M M N, _, rfl, M, vs, _, _, rfl, rfl, .inl (SqL.of hm), hat, _, rfl, _, rfl, _, rfl, nil_go ⟨v, m, r, i, x, rfl, dv, ok, ?_⟩⟩
  have hnl1 : (ns ++ [noteD "in" "fill"]).length ≤ 1000 := by rw [List.length_append]; show ns.length + 1 ≤ 1000; omega
  cases hres : fillR m r i x with
  | ok m' =>
    rw [hres] at q
    intro v' H2 s2 d2
    refine nil_go ⟨M, vs, v', rfl, rfl, s2 _ _ hm, small1000 (by omega), ?_⟩
    refine note_go kc ((kp1.same s2).moment (s2 _ _ hm) d2) rfl hnl1 fun us1 H3 _ f3 _ kp3 => ?_
    refine q H3 (f1.trans ((FrK.of s2).trans (FrK.trans (fun b o h1 h2 e => by rw [upd_ne h1]; exact e) f3))) kp3
  | error e =>
    rw [hres] at q
    refine rfK_mk fun cls d H2 s2 nd rf => ?_
    refine note_go kc (kp1.same s2) rfl hnl1 fun us1 H3 en f3 g3 kp3 => ?_
    have nd0 : H d = none := by
      cases h : H d with
      | none => rfl
      | some o =>
        obtain ⟨_, hm0, _⟩ := kp.m
        obtain ⟨_, hn0, _⟩ := kp.n
        by_cases h1 : d = M
        · rw [h1, hm] at nd; cases nd
        · by_cases h2 : d = N
          · obtain ⟨_, hn1, _⟩ := kp1.n
            rw [h2, hn1] at nd; cases nd
          · rw [f1 d o h1 h2 h] at nd; cases nd
    exact q cls d H3 (f1.trans ((FrK.of s2).trans f3)) nd0 (rf.put en g3) kp3
/-! ### drain -/
abbrev sKdr : Stmt := inClass (topS 35) 4
abbrev nKdr : List Str := ["self", "water", "basin", "many"]
theorem scKdr : FnScope nKdr ["self", "water", "basin", "many"] (defScope sKdr) := ⟨rfl, rfl, rfl, by decide +kernel, rfl, by decide +kernel, by decide +kernel⟩
def spKdr (K : PySem.W.Frag) (X : Ks) (C : Addr) : Sp := fun vs H Q E => ∃ (a M N : Addr) (ms : List Mo) (m : Mo) (ns : List PyData) (r : Bool) (i : Int) (x : Int), vs = .ref a :: [.str (wS r), .int i, .int x] ∧ Kp K C H a M N (ms ++ [m]) ns ∧ okMo m ∧ ms.length ≤ 900 ∧ ns.length ≤ 900 ∧ dQ X K C a M N ms m ns "drain" (drainR m r i x) H (fun _ H' => Q .non H') E
theorem ok_Kdr {f fg C : Addr} {fd fdg : FuncData} {k : Nat} {X : Ks} (F : Fun K "drain" "Keep.drain" sKdr f fd) (kc : KC K C) (Dr_ : FnX P w K mg base k "drained" ["moment", "water", "basin", "many"] (spDra K X) fg fdg) : FnOk P w K mg base (L2.CX P w) (k + 1) f fd ["self", "water", "basin", "many"] (spKdr K X C) := by
  refine F.okX scKdr (fun vs H Q E h => ?_) (fun cdv A outer s H vs Q E hr h => ?_)
  · obtain ⟨a, M, N, ms, m, ns, r, i, x, rfl, _⟩ := h
    rfl
  obtain ⟨a, M, N, ms, m, ns, r, i, x, rfl, kp, ok, hml, hnl, q⟩ := h
  refine ⟨_, (pss_cons (ps_expr (pe_bm PySem.F.plainAttrs_list PySem.F.slot_list_append PySem.F.type_list_append mt_append (pe_fld (pv 0) rfl) (pa_cons (pe_tup (pa_cons pe_str (pa_cons pe_str pa_nil))) pa_nil)))
    (pss_one (ps_endly (tb := fun W => tDrop (tBM K "list" rAppend (tFld K (tVar 0) "moments") (tCons (tCallS (spDra K X) (WE W) (tCons (tOp (rIxA K) (tFld K (tVar 0) "moments") (tUn (rU fun i => .int (-i)) (tC (.int 1)))) (tCons (tVar 1) (tCons (tVar 2) (tCons (tVar 3) tNil))))) tNil))) (ta := tDrop (tBM K "list" rAppend (tFld K (tVar 0) "notes") (tCons (tTup (tCons (tC (.str "out")) (tCons (tC (.str "drain")) tNil))) tNil))) (tz := tDrop (tBM K "list" rAppend (tFld K (tVar 0) "notes") (tCons (tTup (tCons (tC (.str "out")) (tCons (tC (.str "drain")) tNil))) tNil))) rfl rfl rfl (takes_of rfl rfl rfl rfl) (fun W pn xe tk _ => (pss_one (ps_expr (pe_bm PySem.F.plainAttrs_list PySem.F.slot_list_append PySem.F.type_list_append mt_append (pe_fld (pv 0) rfl) (pa_cons (pe_callS Dr_.ok hr rfl Dr_.g Dr_.k Dr_.b (fun σ => passAt tk σ) (pa_cons (pe_ix (r := rIxA K) ix_any (pe_fld (pv 0) rfl) (pe_un un_neg pe_int) (fun _ _ => rfl)) (pa_cons (pv 1) (pa_cons (pv 2) (pa_cons (pv 3) pa_nil))))) pa_nil))))) (pss_one (ps_expr (pe_bm PySem.F.plainAttrs_list PySem.F.slot_list_append PySem.F.type_list_append mt_append (pe_fld (pv 0) rfl) (pa_cons (pe_tup (pa_cons pe_str (pa_cons pe_str pa_nil))) pa_nil)))) (fun _ pn => (pss_one (ps_expr (pe_bm PySem.F.plainAttrs_list PySem.F.slot_list_append PySem.F.type_list_append mt_append (pe_fld (pv 0) rfl) (pa_cons (pe_tup (pa_cons pe_str (pa_cons pe_str pa_nil))) pa_nil)))))))), ?_⟩
  refine note_go kc kp rfl (by omega) fun us0 H1 _ f1 _ kp1 => ?_
  obtain ⟨dx, hi⟩ := kp1.i
  obtain ⟨vs, v, hm, hvl, hat, dv⟩ := kp1.last
  refine ⟨_, rfl, a, C, dx, _, _, rfl, hi, kc.cl, kc.nM, kpF_M M N, .inl ⟨rfl, _, SqL.of hm⟩, _, rfl, a, C, dx, _, _, rfl, hi, kc.cl, kc.nM, kpF_M M N, _, rfl, M, vs, _, _, rfl, rfl, .inl (SqL.of hm), hat, _, rfl, _, rfl, _, rfl, nil_go ⟨v, m, r, i, x, rfl, dv, ok, ?_⟩⟩
  have hnl1 : (ns ++ [noteD "in" "drain"]).length ≤ 1000 := by rw [List.length_append]; show ns.length + 1 ≤ 1000; omega
  cases hres : drainR m r i x with
  | ok m' =>
    rw [hres] at q
    intro v' H2 s2 d2
    refine nil_go ⟨M, vs, v', rfl, rfl, s2 _ _ hm, small1000 (by omega), ?_⟩
    refine note_go kc ((kp1.same s2).moment (s2 _ _ hm) d2) rfl hnl1 fun us1 H3 _ f3 _ kp3 => ?_
    refine q H3 (f1.trans ((FrK.of s2).trans (FrK.trans (fun b o h1 h2 e => by rw [upd_ne h1]; exact e) f3))) kp3
  | error e =>
    rw [hres] at q
    refine rfK_mk fun cls d H2 s2 nd rf => ?_
    refine note_go kc (kp1.same s2) rfl hnl1 fun us1 H3 en f3 g3 kp3 => ?_
    have nd0 : H d = none := by
      cases h : H d with
      | none => rfl
      | some o =>
        obtain ⟨_, hm0, _⟩ := kp.m
        obtain ⟨_, hn0, _⟩ := kp.n
        by_cases h1 : d = M
        · rw [h1, hm] at nd; cases nd
        · by_cases h2 : d = N
          · obtain ⟨_, hn1, _⟩ := kp1.n
            rw [h2, hn1] at nd; cases nd
          · rw [f1 d o h1 h2 h] at nd; cases nd
    exact q cls d H3 (f1.trans ((FrK.of s2).trans f3)) nd0 (rf.put en g3) kp3
/-! ### turn -/
abbrev sKtu : Stmt := inClass (topS 35) 5
abbrev nKtu : List Str := ["self", "lock"]
theorem scKtu : FnScope nKtu ["self", "lock"] (defScope sKtu) := ⟨rfl, rfl, rfl, by decide +kernel, rfl, by decide +kernel, by decide +kernel⟩
def spKtu (K : PySem.W.Frag) (X : Ks) (C : Addr) : Sp := fun vs H Q E => ∃ (a M N : Addr) (ms : List Mo) (m : Mo) (ns : List PyData) (i : Int), vs = .ref a :: [.int i] ∧ Kp K C H a M N (ms ++ [m]) ns ∧ okMo m ∧ ms.length ≤ 900 ∧ ns.length ≤ 900 ∧ dQ X K C a M N ms m ns "turn" (turnR m i) H (fun _ H' => Q .non H') E
theorem ok_Ktu {f fg C : Addr} {fd fdg : FuncData} {k : Nat} {X : Ks} (F : Fun K "turn" "Keep.turn" sKtu f fd) (kc : KC K C) (Tu_ : FnX P w K mg base k "turned" ["moment", "lock"] (spTur K X) fg fdg) : FnOk P w K mg base (L2.CX P w) (k + 1) f fd ["self", "lock"] (spKtu K X C) := by
  refine F.okX scKtu (fun vs H Q E h => ?_) (fun cdv A outer s H vs Q E hr h => ?_)
  · obtain ⟨a, M, N, ms, m, ns, i, rfl, _⟩ := h
    rfl
  obtain ⟨a, M, N, ms, m, ns, i, rfl, kp, ok, hml, hnl, q⟩ := h
  refine ⟨_, (pss_cons (ps_expr (pe_bm PySem.F.plainAttrs_list PySem.F.slot_list_append PySem.F.type_list_append mt_append (pe_fld (pv 0) rfl) (pa_cons (pe_tup (pa_cons pe_str (pa_cons pe_str pa_nil))) pa_nil)))
    (pss_one (ps_endly (tb := fun W => tDrop (tBM K "list" rAppend (tFld K (tVar 0) "moments") (tCons (tCallS (spTur K X) (WE W) (tCons (tOp (rIxA K) (tFld K (tVar 0) "moments") (tUn (rU fun i => .int (-i)) (tC (.int 1)))) (tCons (tVar 1) tNil))) tNil))) (ta := tDrop (tBM K "list" rAppend (tFld K (tVar 0) "notes") (tCons (tTup (tCons (tC (.str "out")) (tCons (tC (.str "turn")) tNil))) tNil))) (tz := tDrop (tBM K "list" rAppend (tFld K (tVar 0) "notes") (tCons (tTup (tCons (tC (.str "out")) (tCons (tC (.str "turn")) tNil))) tNil))) rfl rfl rfl (takes_of rfl rfl rfl rfl) (fun W pn xe tk _ => (pss_one (ps_expr (pe_bm PySem.F.plainAttrs_list PySem.F.slot_list_append PySem.F.type_list_append mt_append (pe_fld (pv 0) rfl) (pa_cons (pe_callS Tu_.ok hr rfl Tu_.g Tu_.k Tu_.b (fun σ => passAt tk σ) (pa_cons (pe_ix (r := rIxA K) ix_any (pe_fld (pv 0) rfl) (pe_un un_neg pe_int) (fun _ _ => rfl)) (pa_cons (pv 1) pa_nil))) pa_nil))))) (pss_one (ps_expr (pe_bm PySem.F.plainAttrs_list PySem.F.slot_list_append PySem.F.type_list_append mt_append (pe_fld (pv 0) rfl) (pa_cons (pe_tup (pa_cons pe_str (pa_cons pe_str pa_nil))) pa_nil)))) (fun _ pn => (pss_one (ps_expr (pe_bm PySem.F.plainAttrs_list PySem.F.slot_list_append PySem.F.type_list_append mt_append (pe_fld (pv 0) rfl) (pa_cons (pe_tup (pa_cons pe_str (pa_cons pe_str pa_nil))) pa_nil)))))))), ?_⟩
  refine note_go kc kp rfl (by omega) fun us0 H1 _ f1 _ kp1 => ?_
  obtain ⟨dx, hi⟩ := kp1.i
  obtain ⟨vs, v, hm, hvl, hat, dv⟩ := kp1.last
  refine ⟨_, rfl, a, C, dx, _, _, rfl, hi, kc.cl, kc.nM, kpF_M M N, .inl ⟨rfl, _, SqL.of hm⟩, _, rfl, a, C, dx, _, _, rfl, hi, kc.cl, kc.nM, kpF_M M N, _, rfl, M, vs, _, _, rfl, rfl, .inl (SqL.of hm), hat, _, rfl, nil_go ⟨v, m, i, rfl, dv, ok, ?_⟩⟩
  have hnl1 : (ns ++ [noteD "in" "turn"]).length ≤ 1000 := by rw [List.length_append]; show ns.length + 1 ≤ 1000; omega
  cases hres : turnR m i with
  | ok m' =>
    rw [hres] at q
    intro v' H2 s2 d2
    refine nil_go ⟨M, vs, v', rfl, rfl, s2 _ _ hm, small1000 (by omega), ?_⟩
    refine note_go kc ((kp1.same s2).moment (s2 _ _ hm) d2) rfl hnl1 fun us1 H3 _ f3 _ kp3 => ?_
    refine q H3 (f1.trans ((FrK.of s2).trans (FrK.trans (fun b o h1 h2 e => by rw [upd_ne h1]; exact e) f3))) kp3
  | error e =>
    rw [hres] at q
    refine rfK_mk fun cls d H2 s2 nd rf => ?_
    refine note_go kc (kp1.same s2) rfl hnl1 fun us1 H3 en f3 g3 kp3 => ?_
    have nd0 : H d = none := by
      cases h : H d with
      | none => rfl
      | some o =>
        obtain ⟨_, hm0, _⟩ := kp.m
        obtain ⟨_, hn0, _⟩ := kp.n
        by_cases h1 : d = M
        · rw [h1, hm] at nd; cases nd
        · by_cases h2 : d = N
          · obtain ⟨_, hn1, _⟩ := kp1.n
            rw [h2, hn1] at nd; cases nd
          · rw [f1 d o h1 h2 h] at nd; cases nd
    exact q cls d H3 (f1.trans ((FrK.of s2).trans f3)) nd0 (rf.put en g3) kp3
end
end XL
namespace XL
open PySem PySem.Spec PyProof.Rows L2
/-! ### data of numbers in tuples: it can be laid, it's plain -/
mutual
def numD : PyData → Bool
  | .int _ => true
  | .tuple ds => numDs ds
  | _ => false
def numDs : List PyData → Bool
  | [] => true
  | d :: ds => numD d && numDs ds
end
mutual
theorem num_lay : ∀ d : PyData, numD d = true → d.canLay0 = true
  | .int _, _ => by simp [PyData.canLay0]
  | .tuple ds, h => by
    have h : numDs ds = true := by simpa [numD] using h
    simp only [PyData.canLay0]; exact nums_lay ds h
  | .none, h => by simp [numD] at h
  | .bool _, h => by simp [numD] at h
  | .str _, h => by simp [numD] at h
  | .list _, h => by simp [numD] at h
  | .dict _, h => by simp [numD] at h
theorem nums_lay : ∀ ds : List PyData, numDs ds = true → PyData.canLayAll0 ds = true
  | [], _ => by simp [PyData.canLayAll0]
  | d :: ds, h => by
    have h : numD d = true ∧ numDs ds = true := by simpa [numDs] using h
    simp [PyData.canLayAll0, num_lay d h.1, nums_lay ds h.2]
end
theorem num_ints : ∀ zs : List Int, numDs (intsD zs) = true
  | [] => rfl
  | z :: zs => by show numDs (.int z :: intsD zs) = true; simp [numDs, numD, num_ints zs]
theorem num_pss : ∀ pss : List (List Int), numDs (pss.map fun zs => PyData.tuple (intsD zs)) = true
  | [] => rfl
  | z :: pss => by simp [numDs, numD, num_ints z, num_pss pss]
theorem num_lks : ∀ ls : List Lk, numDs (ls.map lkD) = true
  | [] => rfl
  | l :: ls => by simp [numDs, lkD, numD, num_lks ls]
theorem num_cn (c : Cn) : numD (cnD c) = true := by simp [cnD, numD, numDs, num_lks]
theorem num_sn (s : Sn) : numD (snD s) = true := num_pss (snL s)
/-- the first three parts of a moment -/
def mo3D (m : Mo) : PyData := .tuple [cnD m.c, snD m.s, pssD m.h]
theorem num_mo3 (m : Mo) : numD (mo3D m) = true := by
  show numDs [cnD m.c, snD m.s, pssD m.h] = true
  simp [numDs, num_cn, num_sn, show numD (pssD m.h) = true from num_pss m.h]
theorem dep_ints : ∀ zs : List Int, PyData.depthAll (intsD zs) = 0
  | [] => by simp [intsD, PyData.depthAll]
  | z :: zs => by show PyData.depthAll (.int z :: intsD zs) = 0; simp [PyData.depthAll, PyData.depth, dep_ints zs]
theorem dep_pss : ∀ pss : List (List Int), PyData.depthAll (pss.map fun zs => PyData.tuple (intsD zs)) ≤ 1
  | [] => by simp [PyData.depthAll]
  | z :: pss => by
    have := dep_pss pss
    simp only [List.map_cons, PyData.depthAll, PyData.depth, dep_ints]; omega
theorem dep_lks : ∀ ls : List Lk, PyData.depthAll (ls.map lkD) ≤ 1
  | [] => by simp [PyData.depthAll]
  | l :: ls => by
    have := dep_lks ls; have h2 := lk_depth l
    simp only [List.map_cons, PyData.depthAll]; omega
theorem dep_cn (c : Cn) : (cnD c).depth ≤ 3 := by
  have := dep_lks c.ls
  simp only [cnD, PyData.depth, PyData.depthAll]; omega
theorem dep_pssD (pss : List (List Int)) : (pssD pss).depth ≤ 2 := by
  have := dep_pss pss
  simp only [pssD, PyData.depth]; omega
theorem shaped_mo3 (m : Mo) : SeqAt.shaped (mo3D m) = true := by
  have h1 := dep_cn m.c; have h2 := dep_pssD (snL m.s); have h3 := dep_pssD m.h
  have h2 : (snD m.s).depth ≤ 2 := h2
  have hd : (mo3D m).depth ≤ 64 := by simp only [mo3D, PyData.depth, PyData.depthAll]; omega
  show ((mo3D m).canLay0 && decide ((mo3D m).depth ≤ 64)) = true
  rw [Bool.and_eq_true]; exact ⟨num_lay _ (num_mo3 m), decide_eq_true hd⟩
theorem plain_mo3 (m : Mo) : (mo3D m).plain = true := PyData.plain_of_canLay0 _ (num_lay _ (num_mo3 m))
theorem mo3_eq {m m' : Mo} (h1 : m.c = m'.c) (h2 : m.s = m'.s) (h3 : m.h = m'.h) : mo3D m = mo3D m' := by unfold mo3D; rw [h1, h2, h3]
abbrev sKi : Stmt := inClass (topS 35) 0
abbrev nKi : List Str := ["self", "canal", "standing"]
theorem scKi : FnScope nKi ["self", "canal", "standing"] (defScope sKi) := ⟨rfl, rfl, rfl, by decide +kernel, rfl, by decide +kernel, by decide +kernel⟩
abbrev sKca : Stmt := inClass (topS 35) 8
abbrev nKca : List Str := ["self"]
theorem scKca : FnScope nKca ["self"] (defScope sKca) := ⟨rfl, rfl, rfl, by decide +kernel, rfl, by decide +kernel, by decide +kernel⟩
abbrev sKst : Stmt := inClass (topS 35) 9
abbrev nKst : List Str := ["self"]
theorem scKst : FnScope nKst ["self"] (defScope sKst) := ⟨rfl, rfl, rfl, by decide +kernel, rfl, by decide +kernel, by decide +kernel⟩
abbrev sKde : Stmt := inClass (topS 35) 10
abbrev nKde : List Str := ["self"]
theorem scKde : FnScope nKde ["self"] (defScope sKde) := ⟨rfl, rfl, rfl, by decide +kernel, rfl, by decide +kernel, by decide +kernel⟩
abbrev sKha : Stmt := inClass (topS 35) 11
abbrev nKha : List Str := ["self", "part"]
theorem scKha : FnScope nKha ["self"] (defScope sKha) := ⟨rfl, rfl, rfl, by decide +kernel, rfl, by decide +kernel, by decide +kernel⟩
abbrev sKwe : Stmt := inClass (topS 35) 14
abbrev nKwe : List Str := ["self", "part"]
theorem scKwe : FnScope nKwe ["self"] (defScope sKwe) := ⟨rfl, rfl, rfl, by decide +kernel, rfl, by decide +kernel, by decide +kernel⟩
abbrev sKlo : Stmt := inClass (topS 35) 17
abbrev nKlo : List Str := ["self"]
theorem scKlo : FnScope nKlo ["self"] (defScope sKlo) := ⟨rfl, rfl, rfl, by decide +kernel, rfl, by decide +kernel, by decide +kernel⟩
abbrev sKln : Stmt := inClass (topS 35) 19
abbrev nKln : List Str := ["self"]
theorem scKln : FnScope nKln ["self"] (defScope sKln) := ⟨rfl, rfl, rfl, by decide +kernel, rfl, by decide +kernel, by decide +kernel⟩
abbrev sKao : Stmt := inClass (topS 35) 15
abbrev nKao : List Str := ["self", "many", "canal", "standing", "hands", "went", "kept"]
theorem scKao : FnScope nKao ["self", "many"] (defScope sKao) := ⟨rfl, rfl, rfl, by decide +kernel, rfl, by decide +kernel, by decide +kernel⟩
abbrev sKeq : Stmt := inClass (topS 35) 18
abbrev nKeq : List Str := ["self", "other"]
theorem scKeq : FnScope nKeq ["self", "other"] (defScope sKeq) := ⟨rfl, rfl, rfl, by decide +kernel, rfl, by decide +kernel, by decide +kernel⟩
section
variable {P : Program} {w : World} {K : PySem.W.Frag} {mg : Str → Option Value} {base : Heap}
/-! ### __init__ -/
def spKi (K : PySem.W.Frag) (C : Addr) : Sp := fun vs H Q _ => ∃ (a dx : Addr) (v u : V) (d1 d2 : PyData) (c : Cn) (s : Sn) (B : Int), vs = [.ref a, v, u] ∧ H a = some (.ins C dx []) ∧ Dp K H v d1 ∧ okD 4 d1 ∧ tupD d1 = cnD c ∧ Dp K H u d2 ∧ okD 4 d2 ∧ tupD d2 = snD s ∧ okCn 100 100 c ∧ okSn c B s ∧
  ∀ M N H', (∀ b o, b ≠ a → H b = some o → H' b = some o) → H M = none → H N = none → Kp K C H' a M N [mo0 c s] [] → Q .non H'
theorem ok_Ki {f fb C : Addr} {fd fdb : FuncData} {k : Nat} (F : Fun K "__init__" "Keep.__init__" sKi f fd) (kc : KC K C) (Be : Fns P w K mg base k "begun" ["canal", "standing"] (spBeg K) fb fdb) : FnOk P w K mg base CX0 (k + 1) f fd ["self", "canal", "standing"] (spKi K C) := by
  refine F.ok scKi (fun vs H Q E h => ?_) (fun cdv A outer s0 H vs Q E hr h => ?_)
  · obtain ⟨a, dx, v, u, d1, d2, c, s, B, rfl, _⟩ := h
    rfl
  obtain ⟨a, dx, v, u, d1, d2, c, s, B, rfl, hi, h1, k1, e1, h2, k2, e2, okc, os, q⟩ := h
  refine ⟨_, (pss_cons (ps_fld (pv 0) (pe_lst (pa_cons (pe_fn Be hr rfl (pa_cons (pv 1) (pa_cons (pv 2) pa_nil))) pa_nil)) rfl)
    (pss_one (ps_fld (pv 0) (pe_lst pa_nil) rfl))), ?_⟩
  refine ⟨_, rfl, _, rfl, nil_go ⟨v, u, d1, d2, c, s, B, rfl, h1, k1, e1, h2, k2, e2, okc, os, fun v1 H1 s1 dp1 => ?_⟩⟩
  refine ⟨(by show 1 ≤ sizeLine; decide), fun M nM => ?_⟩
  have sM := same_new nM (o := .lst [v1])
  have eM : (upd H1 M (.lst [v1])) M = some (.lst [v1]) := upd_same
  replace dp1 := Dp.same sM _ dp1
  have s2 := s1.trans sM
  generalize upd H1 M (.lst [v1]) = H2 at sM eM dp1 s2
  have hi2 := s2 _ _ hi
  have hMa : M ≠ a := fun z => by rw [z, hi2] at eM; cases eM
  refine ⟨_, rfl, a, C, dx, _, rfl, hi2, kc.cl, kc.nM, (by show 0 < 1000; decide), ?_⟩
  refine ⟨(by show 0 ≤ sizeLine; decide), fun N nN => ?_⟩
  have hNa : N ≠ a := fun z => by rw [z, upd_same] at nN; cases nN
  have hNM : M ≠ N := fun z => by rw [← z, upd_ne hMa, eM] at nN; cases nN
  refine ⟨_, rfl, a, C, dx, _, rfl, by rw [upd_ne (Ne.symm hNa)]; exact upd_same, kc.cl, kc.nN, (by show 1 < 1000; decide), ?_⟩
  have hput : putF "notes" (.ref N) (putF "moments" (.ref M) []) = kpF M N := by
    have h : ¬ (("moments" : Str) = ("notes" : Str)) := by decide +kernel
    unfold kpF
    simp [putF, h]
  have nM0 : H M = none := by
    cases h : H M with
    | none => rfl
    | some o => rw [s1 _ _ h] at nM; cases nM
  have nN0 : H N = none := by
    cases h : H N with
    | none => rfl
    | some o => rw [upd_ne hNa, s2 _ _ h] at nN; cases nN
  refine q M N _ (fun b o hb e => ?_) nM0 nN0 ⟨⟨dx, ?_⟩, ⟨[v1], ?_, ?_⟩, ⟨[], ?_, .nil⟩, hNM, rfl⟩
  · rw [upd_ne hb, upd_ne (fun z => by rw [z, nN0] at e; cases e), upd_ne hb]; exact s2 _ _ e
  · rw [upd_same, hput]
  · rw [upd_ne hMa, upd_ne hNM, upd_ne hMa]; exact eM
  · have tp : Tp H2 (upd (upd (upd H2 a (.ins C dx (putF "moments" (.ref M) []))) N (.lst [])) a (.ins C dx (putF "notes" (.ref N) (putF "moments" (.ref M) [])))) := by
      have k1 : ∀ {b o}, H2 b = some o → (∀ dx fs, o ≠ .ins C dx fs) → (upd (upd (upd H2 a (.ins C dx (putF "moments" (.ref M) []))) N (.lst [])) a (.ins C dx (putF "notes" (.ref N) (putF "moments" (.ref M) [])))) b = some o := fun {b o} e n => by
        have hba : b ≠ a := fun z => n dx [] (by rw [z, hi2] at e; exact (Option.some.inj e).symm)
        have hbN : b ≠ N := fun z => by rw [z] at e; rw [upd_ne hNa, e] at nN; cases nN
        rw [upd_ne hba, upd_ne hbN, upd_ne hba]; exact e
      exact ⟨fun b xs e => k1 e (fun _ _ z => by cases z), fun b o xs e => k1 e (fun _ _ z => by cases z)⟩
    exact .cons (Dp.tp tp _ (noL_mo _) dp1) .nil
  · rw [upd_ne hNa]; exact upd_same
/-! ### what a keep tells of itself -/
def spKca (K : PySem.W.Frag) (C : Addr) : Sp := fun vs H Q _ => ∃ (a M N : Addr) (ms : List Mo) (m : Mo) (ns : List PyData), vs = [.ref a] ∧ Kp K C H a M N (ms ++ [m]) ns ∧ ∀ v, Dp K H v (cnD m.c) → Q v H
theorem ok_Kca {f C : Addr} {fd : FuncData} {k : Nat} (F : Fun K "canal" "Keep.canal" sKca f fd) (kc : KC K C) : FnOk P w K mg base CX0 (k + 1) f fd ["self"] (spKca K C) := by
  refine F.ok scKca (fun vs H Q E h => ?_) (fun cdv A outer s0 H vs Q E hr h => ?_)
  · obtain ⟨a, M, N, ms, m, ns, rfl, _⟩ := h
    rfl
  obtain ⟨a, M, N, ms, m, ns, rfl, kp, q⟩ := h
  obtain ⟨dx, hi⟩ := kp.i
  obtain ⟨vs, v, hm, hvl, hat, dv⟩ := kp.last
  obtain ⟨t, vc, vs2, vh, vw, rfl, ht, hc, hs, hh, hw⟩ := mo_of dv
  refine ⟨_, (pss_one (ps_ret (pe_ix (r := rIxA K) ix_any (pe_ix (r := rIxA K) ix_any (pe_fld (pv 0) rfl) (pe_un un_neg pe_int) (fun _ _ => rfl)) pe_int (fun _ _ => rfl)))), ?_⟩
  exact ⟨_, rfl, a, C, dx, _, _, rfl, hi, kc.cl, kc.nM, kpF_M M N, _, rfl, M, vs, _, _, rfl, rfl, .inl (SqL.of hm), hat, t, _, _, _, rfl, rfl, .inr ht, rfl, q vc hc⟩
def spKst (K : PySem.W.Frag) (C : Addr) : Sp := fun vs H Q _ => ∃ (a M N : Addr) (ms : List Mo) (m : Mo) (ns : List PyData), vs = [.ref a] ∧ Kp K C H a M N (ms ++ [m]) ns ∧ ∀ v, Dp K H v (snD m.s) → Q v H
theorem ok_Kst {f C : Addr} {fd : FuncData} {k : Nat} (F : Fun K "standing" "Keep.standing" sKst f fd) (kc : KC K C) : FnOk P w K mg base CX0 (k + 1) f fd ["self"] (spKst K C) := by
  refine F.ok scKst (fun vs H Q E h => ?_) (fun cdv A outer s0 H vs Q E hr h => ?_)
  · obtain ⟨a, M, N, ms, m, ns, rfl, _⟩ := h
    rfl
  obtain ⟨a, M, N, ms, m, ns, rfl, kp, q⟩ := h
  obtain ⟨dx, hi⟩ := kp.i
  obtain ⟨vs, v, hm, hvl, hat, dv⟩ := kp.last
  obtain ⟨t, vc, vs2, vh, vw, rfl, ht, hc, hs, hh, hw⟩ := mo_of dv
  refine ⟨_, (pss_one (ps_ret (pe_ix (r := rIxA K) ix_any (pe_ix (r := rIxA K) ix_any (pe_fld (pv 0) rfl) (pe_un un_neg pe_int) (fun _ _ => rfl)) pe_int (fun _ _ => rfl)))), ?_⟩
  exact ⟨_, rfl, a, C, dx, _, _, rfl, hi, kc.cl, kc.nM, kpF_M M N, _, rfl, M, vs, _, _, rfl, rfl, .inl (SqL.of hm), hat, t, _, _, _, rfl, rfl, .inr ht, rfl, q vs2 hs⟩
def spKde (K : PySem.W.Frag) (C : Addr) : Sp := fun vs H Q _ => ∃ (a M N : Addr) (ms : List Mo) (ns : List PyData), vs = [.ref a] ∧ Kp K C H a M N ms ns ∧ Q (.int ((ms.length : Nat) - 1)) H
theorem ok_Kde {f C : Addr} {fd : FuncData} {k : Nat} (F : Fun K "deeds" "Keep.deeds" sKde f fd) (kc : KC K C) (m_len : mg "len" = none) : FnOk P w K mg base CX0 (k + 1) f fd ["self"] (spKde K C) := by
  refine F.ok scKde (fun vs H Q E h => ?_) (fun cdv A outer s0 H vs Q E hr h => ?_)
  · obtain ⟨a, M, N, ms, ns, rfl, _⟩ := h
    rfl
  obtain ⟨a, M, N, ms, ns, rfl, kp, q⟩ := h
  obtain ⟨dx, hi⟩ := kp.i
  obtain ⟨vs, hm, dm⟩ := kp.m
  have hl : vs.length = ms.length := by rw [DpAll.length dm, List.length_map]
  refine ⟨_, (pss_one (ps_ret (pe_op op_sub (pe_callB (r := rLenA K) call_lenA rfl m_len PySem.boot_len (pa_cons (pe_fld (pv 0) rfl) pa_nil)) pe_int))), ?_⟩
  refine ⟨_, rfl, a, C, dx, _, _, rfl, hi, kc.cl, kc.nM, kpF_M M N, nil_go ⟨M, vs, rfl, .inl (SqL.of hm), _, _, rfl, rfl, ?_⟩⟩
  rw [hl]; exact q
def spKlo (K : PySem.W.Frag) (C : Addr) : Sp := fun vs H Q _ => ∃ (a M N : Addr) (ms : List Mo) (ns : List PyData), vs = [.ref a] ∧ Kp K C H a M N ms ns ∧ ∀ l us H', Same H H' → H l = none → H' l = some (.lst us) → DpAll K H' us ns → Q (.ref l) H'
theorem ok_Klo {f C : Addr} {fd : FuncData} {k : Nat} (F : Fun K "log" "Keep.log" sKlo f fd) (kc : KC K C) (m_list : mg "list" = none) : FnOk P w K mg base CX0 (k + 1) f fd ["self"] (spKlo K C) := by
  refine F.ok scKlo (fun vs H Q E h => ?_) (fun cdv A outer s0 H vs Q E hr h => ?_)
  · obtain ⟨a, M, N, ms, ns, rfl, _⟩ := h
    rfl
  obtain ⟨a, M, N, ms, ns, rfl, kp, q⟩ := h
  obtain ⟨dx, hi⟩ := kp.i
  obtain ⟨us, hn, dn⟩ := kp.n
  refine ⟨_, (pss_one (ps_ret (pe_callTy (r := rLstA K) call_listA rfl m_list boot_list (pa_cons (pe_fld (pv 0) rfl) pa_nil)))), ?_⟩
  refine ⟨_, rfl, a, C, dx, _, _, rfl, hi, kc.cl, kc.nN, kpF_N M N, nil_go ⟨N, us, rfl, .inl (SqL.of hn), fun l nl => ?_⟩⟩
  exact q l us _ (same_new nl) nl upd_same (DpAll.same (same_new nl) _ dn)
def spKln (K : PySem.W.Frag) (C : Addr) : Sp := fun vs H Q _ => ∃ (a M N : Addr) (ms : List Mo) (m : Mo) (ns : List PyData), vs = [.ref a] ∧ Kp K C H a M N (ms ++ [m]) ns ∧ Q (.int (m.c.ls.length : Nat)) H
theorem ok_Kln {f C : Addr} {fd : FuncData} {k : Nat} (F : Fun K "__len__" "Keep.__len__" sKln f fd) (kc : KC K C) (m_len : mg "len" = none) : FnOk P w K mg base CX0 (k + 1) f fd ["self"] (spKln K C) := by
  refine F.ok scKln (fun vs H Q E h => ?_) (fun cdv A outer s0 H vs Q E hr h => ?_)
  · obtain ⟨a, M, N, ms, m, ns, rfl, _⟩ := h
    rfl
  obtain ⟨a, M, N, ms, m, ns, rfl, kp, q⟩ := h
  obtain ⟨dx, hi⟩ := kp.i
  obtain ⟨vs, v, hm, hvl, hat, dv⟩ := kp.last
  obtain ⟨t, vc, vs2, vh, vw, rfl, ht, hc, hs, hh, hw⟩ := mo_of dv
  obtain ⟨ca, g, gs, rfl, hca, hg, hgs⟩ := cn_of hc
  have hgl : gs.length = m.c.ls.length := by rw [DpAll.length hgs, List.length_map]
  refine ⟨_, (pss_one (ps_ret (pe_callB (r := rLenA K) call_lenA rfl m_len PySem.boot_len (pa_cons (pe_ix (r := rIxA K) ix_any (pe_ix (r := rIxA K) ix_any (pe_ix (r := rIxA K) ix_any (pe_fld (pv 0) rfl) (pe_un un_neg pe_int) (fun _ _ => rfl)) pe_int (fun _ _ => rfl)) pe_int (fun _ _ => rfl)) pa_nil)))), ?_⟩
  refine ⟨_, rfl, a, C, dx, _, _, rfl, hi, kc.cl, kc.nM, kpF_M M N, _, rfl, M, vs, _, _, rfl, rfl, .inl (SqL.of hm), hat, t, _, _, _, rfl, rfl, .inr ht, rfl, ca, _, _, _, rfl, rfl, .inr hca, rfl, nil_go ⟨g, gs, rfl, .inr hg, ?_⟩⟩
  rw [hgl]; exact q
/-- a tuple of lists of numbers -/
def plsD (pss : List (List Int)) : PyData := .tuple (pss.map fun zs => .list (intsD zs))
/-- a tuple of new lists of numbers -/
def NwL (H H' : Hp) (v : V) (pss : List (List Int)) : Prop := ∃ t ls, v = .ref t ∧ H' t = some (.tup ls) ∧ ls.length = pss.length ∧ ∀ (j : Nat) y, ls[j]? = some y → ∃ l zs, y = .ref l ∧ pss[j]? = some zs ∧ H' l = some (.lst (zs.map V.int)) ∧ H l = none
theorem NwL.same {H H' H2 : Hp} {v : V} {pss : List (List Int)} (h : NwL H H' v pss) (s : Same H' H2) : NwL H H2 v pss := by
  obtain ⟨t, ls, e, h1, h2, h3⟩ := h
  exact ⟨t, ls, e, s _ _ h1, h2, fun j y hy => by
    obtain ⟨l, zs, a1, a2, a3, a4⟩ := h3 j y hy
    exact ⟨l, zs, a1, a2, s _ _ a3, a4⟩⟩
theorem NwL.back {H0 H H' : Hp} {v : V} {pss : List (List Int)} (h : NwL H H' v pss) (s : Same H0 H) : NwL H0 H' v pss := by
  obtain ⟨t, ls, e, h1, h2, h3⟩ := h
  exact ⟨t, ls, e, h1, h2, fun j y hy => by
    obtain ⟨l, zs, a1, a2, a3, a4⟩ := h3 j y hy
    exact ⟨l, zs, a1, a2, a3, s.free a4⟩⟩
theorem NwL.dp {H H' : Hp} {v : V} {pss : List (List Int)} (h : NwL H H' v pss) : Dp K H' v (plsD pss) := by
  obtain ⟨t, ls, rfl, h1, h2, h3⟩ := h
  refine .tup (.inl (.inl h1)) (dpAll_mk (by rw [h2, List.length_map]) fun j y d e1 e2 => ?_)
  obtain ⟨l, zs, rfl, hz, e3, _⟩ := h3 j y e1
  rw [List.getElem?_map, hz] at e2
  obtain rfl := Option.some.inj e2
  exact .lst (SqL.of e3) (dp_ints _)
def spKha (K : PySem.W.Frag) (C : Addr) : Sp := fun vs H Q _ => ∃ (a M N : Addr) (ms : List Mo) (m : Mo) (ns : List PyData), vs = [.ref a] ∧ Kp K C H a M N (ms ++ [m]) ns ∧ m.h.length ≤ 1000 ∧ ∀ v H', Same H H' → NwL H H' v m.h → Q v H'
theorem ok_Kha {f C : Addr} {fd : FuncData} {k : Nat} (F : Fun K "hands" "Keep.hands" sKha f fd) (kc : KC K C) (m_list : mg "list" = none) (m_tuple : mg "tuple" = none) : FnOk P w K mg base CX0 (k + 1) f fd ["self"] (spKha K C) := by
  refine F.ok scKha (fun vs H Q E h => ?_) (fun cdv A outer s0 H vs Q E hr h => ?_)
  · obtain ⟨a, M, N, ms, m, ns, rfl, _⟩ := h
    rfl
  obtain ⟨a, M, N, ms, m, ns, rfl, kp, hlen, q⟩ := h
  obtain ⟨dx, hi⟩ := kp.i
  obtain ⟨vs, v, hm, hvl, hat, dv⟩ := kp.last
  obtain ⟨t, vc, vs2, vh, vw, rfl, ht, hc, hs, hh, hw⟩ := mo_of dv
  obtain ⟨b, xs, rfl, hb, hxl, _, hel⟩ := pss_of hh
  refine ⟨_, (pss_one (ps_ret (pe_callTy (r := rTupA K) call_tupleA rfl m_tuple boot_tuple (pa_cons (pe_lc (own := [("part", 1)]) (g := gName 1) (tt := tYes) rfl scKha.nd (pi_seq (pe_ix (r := rIxA K) ix_any (pe_ix (r := rIxA K) ix_any (pe_fld (pv 0) rfl) (pe_un un_neg pe_int) (fun _ _ => rfl)) pe_int (fun _ _ => rfl))) (blkOk_by (own := [("part", 1)]) (N := nKha) (sc := defScope sKha) (by decide +kernel)) (fun _ _ _ _ _ => (pg_name (i := 1) scKha.nd rfl (.inl rfl))) (fun _ _ _ _ _ => pts_nil) (fun _ _ _ _ _ => pe_hide (pe_callTy (r := rLstA K) call_listA rfl m_list boot_list (pa_cons (pv 1) pa_nil)))) pa_nil)))), ?_⟩
  refine ⟨_, rfl, a, C, dx, _, _, rfl, hi, kc.cl, kc.nM, kpF_M M N, _, rfl, M, vs, _, _, rfl, rfl, .inl (SqL.of hm), hat, t, _, _, _, rfl, rfl, .inr ht, rfl, b, xs, rfl, .inr hb, fun J wk => lc_map wk Same (fun a b => a.trans b) (fun j y F => ∃ l zs, y = .ref l ∧ m.h[j]? = some zs ∧ F l = some (.lst (zs.map V.int)) ∧ H l = none) (fun j y A B s p => by obtain ⟨l, zs, e1, e2, e3, e4⟩ := p; exact ⟨l, zs, e1, e2, s _ _ e3, e4⟩) (by rw [hxl]; exact small1000 hlen) (Same.refl _) (fun F D acc sF nF => ?_) (fun j x D acc F H' hj nD sF nF hy B hB => ?_) (fun D ys F nD sF nF hyl hR => ?_)⟩
  · have sD := sF.trans (same_new nF (o := .lst acc))
    exact ⟨fun _ z => sD.seq z, fun z => Same.tup sD z⟩
  · obtain ⟨rfl, hx⟩ := hy
    obtain ⟨zs, hz⟩ : ∃ zs, m.h[j]? = some zs := ⟨_, List.getElem?_eq_getElem (by have := (List.getElem?_eq_some_iff.mp hx).1; omega)⟩
    obtain ⟨u, rfl, hu⟩ := hel j x zs hx hz
    have sX := sF.trans (same_new nF (o := .lst acc))
    refine hB _ F rfl nF fun Qt hq => ?_
    refine ⟨_, rfl, nil_go ⟨u, _, rfl, .inr (Same.tup sF hu), fun l nl => ?_⟩⟩
    exact hq _ _ (same_new nl) ⟨l, zs, rfl, hz, upd_same, sF.free nl⟩
  have sD := same_new nF (o := .lst ys)
  refine nil_go ⟨D, ys, rfl, .inl ⟨SqL.of upd_same, fun l nl => ?_⟩⟩
  have sl := same_new nl (o := .tup ys)
  have s3 := sF.trans (sD.trans sl)
  refine q (.ref l) _ s3 ⟨l, ys, rfl, upd_same, by rw [hyl, hxl], fun j y h1 => ?_⟩
  obtain ⟨l2, zs, rfl, hz, e3, e4⟩ := hR j y h1
  exact ⟨l2, zs, rfl, hz, sl _ _ (sD _ _ e3), e4⟩
def spKwe (K : PySem.W.Frag) (C : Addr) : Sp := fun vs H Q _ => ∃ (a M N : Addr) (ms : List Mo) (m : Mo) (ns : List PyData), vs = [.ref a] ∧ Kp K C H a M N (ms ++ [m]) ns ∧ m.w.length ≤ 1000 ∧ ∀ v H', Same H H' → NwL H H' v m.w → Q v H'
theorem ok_Kwe {f C : Addr} {fd : FuncData} {k : Nat} (F : Fun K "went" "Keep.went" sKwe f fd) (kc : KC K C) (m_list : mg "list" = none) (m_tuple : mg "tuple" = none) : FnOk P w K mg base CX0 (k + 1) f fd ["self"] (spKwe K C) := by
  refine F.ok scKwe (fun vs H Q E h => ?_) (fun cdv A outer s0 H vs Q E hr h => ?_)
  · obtain ⟨a, M, N, ms, m, ns, rfl, _⟩ := h
    rfl
  obtain ⟨a, M, N, ms, m, ns, rfl, kp, hlen, q⟩ := h
  obtain ⟨dx, hi⟩ := kp.i
  obtain ⟨vs, v, hm, hvl, hat, dv⟩ := kp.last
  obtain ⟨t, vc, vs2, vh, vw, rfl, ht, hc, hs, hh, hw⟩ := mo_of dv
  obtain ⟨b, xs, rfl, hb, hxl, _, hel⟩ := pss_of hw
  refine ⟨_, (pss_one (ps_ret (pe_callTy (r := rTupA K) call_tupleA rfl m_tuple boot_tuple (pa_cons (pe_lc (own := [("part", 1)]) (g := gName 1) (tt := tYes) rfl scKwe.nd (pi_seq (pe_ix (r := rIxA K) ix_any (pe_ix (r := rIxA K) ix_any (pe_fld (pv 0) rfl) (pe_un un_neg pe_int) (fun _ _ => rfl)) pe_int (fun _ _ => rfl))) (blkOk_by (own := [("part", 1)]) (N := nKwe) (sc := defScope sKwe) (by decide +kernel)) (fun _ _ _ _ _ => (pg_name (i := 1) scKwe.nd rfl (.inl rfl))) (fun _ _ _ _ _ => pts_nil) (fun _ _ _ _ _ => pe_hide (pe_callTy (r := rLstA K) call_listA rfl m_list boot_list (pa_cons (pv 1) pa_nil)))) pa_nil)))), ?_⟩
  refine ⟨_, rfl, a, C, dx, _, _, rfl, hi, kc.cl, kc.nM, kpF_M M N, _, rfl, M, vs, _, _, rfl, rfl, .inl (SqL.of hm), hat, t, _, _, _, rfl, rfl, .inr ht, rfl, b, xs, rfl, .inr hb, fun J wk => lc_map wk Same (fun a b => a.trans b) (fun j y F => ∃ l zs, y = .ref l ∧ m.w[j]? = some zs ∧ F l = some (.lst (zs.map V.int)) ∧ H l = none) (fun j y A B s p => by obtain ⟨l, zs, e1, e2, e3, e4⟩ := p; exact ⟨l, zs, e1, e2, s _ _ e3, e4⟩) (by rw [hxl]; exact small1000 hlen) (Same.refl _) (fun F D acc sF nF => ?_) (fun j x D acc F H' hj nD sF nF hy B hB => ?_) (fun D ys F nD sF nF hyl hR => ?_)⟩
  · have sD := sF.trans (same_new nF (o := .lst acc))
    exact ⟨fun _ z => sD.seq z, fun z => Same.tup sD z⟩
  · obtain ⟨rfl, hx⟩ := hy
    obtain ⟨zs, hz⟩ : ∃ zs, m.w[j]? = some zs := ⟨_, List.getElem?_eq_getElem (by have := (List.getElem?_eq_some_iff.mp hx).1; omega)⟩
    obtain ⟨u, rfl, hu⟩ := hel j x zs hx hz
    have sX := sF.trans (same_new nF (o := .lst acc))
    refine hB _ F rfl nF fun Qt hq => ?_
    refine ⟨_, rfl, nil_go ⟨u, _, rfl, .inr (Same.tup sF hu), fun l nl => ?_⟩⟩
    exact hq _ _ (same_new nl) ⟨l, zs, rfl, hz, upd_same, sF.free nl⟩
  have sD := same_new nF (o := .lst ys)
  refine nil_go ⟨D, ys, rfl, .inl ⟨SqL.of upd_same, fun l nl => ?_⟩⟩
  have sl := same_new nl (o := .tup ys)
  have s3 := sF.trans (sD.trans sl)
  refine q (.ref l) _ s3 ⟨l, ys, rfl, upd_same, by rw [hyl, hxl], fun j y h1 => ?_⟩
  obtain ⟨l2, zs, rfl, hz, e3, e4⟩ := hR j y h1
  exact ⟨l2, zs, rfl, hz, sl _ _ (sD _ _ e3), e4⟩
end
end XL
namespace XL
open PySem PySem.Spec PyProof.Rows L2
/-- what the module has written of the class's own len, == and its place among classes -/
structure KO (K : PySem.W.Frag) (C fl fe : Addr) : Prop where
  len : PySem.W.findIn K (.ref C) "__len__" = some (some (.ref fl))
  lf : PySem.W.isFn K (.ref fl) = true
  eq : PySem.W.findIn K (.ref C) "__eq__" = some (some (.ref fe))
  ef : PySem.W.isFn K (.ref fe) = true
  ne : PySem.W.findIn K (.ref C) "__ne__" = some (some (.builtin "object.__ne__"))
  ca : PySem.W.findIn K (.ref C) "__class__" = some (some (.builtin "object.__class__"))
  cn : PySem.W.specialIn K (.builtin "object.__class__") "__get__" = some (some (.builtin "getset_descriptor.__get__"))
  ct : PySem.W.takesIn K (.builtin "object.__class__") = some true
  cm : PySem.W.mroIn K C (.type "object") = some true
  me : PySem.W.kitOne K (.ref C) (.ref C) = some true
theorem passC {X : Cx} {E : XK} : ∀ σ, PassesAt CX0 X σ E := fun _ _ _ _ _ _ _ h => h.elim
theorem okD_lk (n : Nat) (l : Lk) : okD (n + 2) (lkD l) := ⟨by show 4 ≤ 1000; decide, fun d h => by
  simp only [List.mem_cons, List.not_mem_nil, or_false] at h
  rcases h with rfl | rfl | rfl | rfl <;> exact trivial⟩
theorem okD_cn (n : Nat) {c : Cn} (h : c.ls.length ≤ 1000) : okD (n + 4) (cnD c) := ⟨by show 3 ≤ 1000; decide, fun d hd => by
  simp only [List.mem_cons, List.not_mem_nil, or_false] at hd
  rcases hd with rfl | rfl | rfl
  · exact trivial
  · exact trivial
  · refine ⟨by rw [List.length_map]; exact h, fun e he => ?_⟩
    obtain ⟨l, _, rfl⟩ := List.mem_map.mp he
    exact okD_lk n l⟩
theorem okD_ints (n : Nat) {zs : List Int} (h : zs.length ≤ 1000) : okD (n + 2) (.tuple (intsD zs)) := ⟨by rw [intsD, List.length_map]; exact h, fun e he => by
  obtain ⟨z, _, rfl⟩ := List.mem_map.mp he
  exact trivial⟩
theorem okD_sn (n : Nat) {s : Sn} (h1 : s.rs.length ≤ 1000) (h2 : s.bs.length ≤ 1000) (h3 : s.ls.length ≤ 1000) : okD (n + 3) (snD s) := ⟨by show 3 ≤ 1000; decide, fun d hd => by
  simp only [List.mem_cons, List.not_mem_nil, or_false] at hd
  rcases hd with rfl | rfl | rfl
  · exact okD_ints n h1
  · exact okD_ints n h2
  · exact okD_ints n h3⟩
theorem sn_len {c : Cn} {B : Int} {s : Sn} (oc : okCn 100 100 c) (os : okSn c B s) : s.rs.length ≤ 100 ∧ s.bs.length ≤ 100 ∧ s.ls.length ≤ 100 := by
  have h1 := os.r; have h2 := os.b; have h3 := os.n; have h4 := oc.r2; have h5 := oc.b2; have h6 := oc.n
  omega
mutual
theorem tup_num : ∀ d : PyData, numD d = true → tupD d = d
  | .int _, _ => rfl
  | .tuple ds, h => by
    have h : numDs ds = true := by simpa [numD] using h
    show PyData.tuple (tupDs ds) = _
    rw [tup_nums ds h]
  | .none, h => by simp [numD] at h
  | .bool _, h => by simp [numD] at h
  | .str _, h => by simp [numD] at h
  | .list _, h => by simp [numD] at h
  | .dict _, h => by simp [numD] at h
theorem tup_nums : ∀ ds : List PyData, numDs ds = true → tupDs ds = ds
  | [], _ => rfl
  | d :: ds, h => by
    have h : numD d = true ∧ numDs ds = true := by simpa [numDs] using h
    show tupD d :: tupDs ds = _
    rw [tup_num d h.1, tup_nums ds h.2]
end
theorem dpAll_take {K : PySem.W.Frag} {H : Hp} : ∀ {vs : List V} {ds : List PyData} (n : Nat), DpAll K H vs ds → DpAll K H (vs.take n) (ds.take n)
  | _, _, _, .nil => by simp only [List.take_nil]; exact .nil
  | _, _, 0, _ => .nil
  | _, _, n + 1, .cons h hs => .cons h (dpAll_take n hs)
theorem at0 (v : V) (vs : List V) : atI (v :: vs) 0 = some v := by simp [atI, ixN]
theorem cut_to (vs : List V) (n : Nat) : cutV vs none (some (n : Int)) = vs.take n := by
  unfold cutV
  rw [HT.sIx_nat]
  show (vs.drop 0).take (min n vs.length - 0) = _
  rw [List.drop_zero, Nat.sub_zero]
  rcases Nat.le_total n vs.length with h | h
  · rw [Nat.min_eq_left h]
  · rw [Nat.min_eq_right h, List.take_of_length_le (Nat.le_refl _), List.take_of_length_le h]
section
variable {P : Program} {w : World} {K : PySem.W.Frag} {mg : Str → Option Value} {base : Heap}
/-! ### dig -/
abbrev sKdi : Stmt := inClass (topS 35) 6
abbrev nKdi : List Str := ["self", "a", "c", "x", "y"]
theorem scKdi : FnScope nKdi ["self", "a", "c", "x", "y"] (defScope sKdi) := ⟨rfl, rfl, rfl, by decide +kernel, rfl, by decide +kernel, by decide +kernel⟩
def spKdi (K : PySem.W.Frag) (X : Ks) (C : Addr) : Sp := fun vs H Q E => ∃ (a M N : Addr) (ms : List Mo) (m : Mo) (ns : List PyData) (p c x y : Int), vs = .ref a :: [.int p, .int c, .int x, .int y] ∧ Kp K C H a M N (ms ++ [m]) ns ∧ okMo m ∧ ms.length ≤ 900 ∧ ns.length ≤ 900 ∧ dQ X K C a M N ms m ns "dig" (digR m p c x y) H (fun m' H' => Q (.int (m'.c.ls.length - 1)) H') E
theorem digR_len {m m' : Mo} {p c x y : Int} (h : digR m p c x y = .ok m') : m'.c.ls.length = m.c.ls.length + 1 := by
  unfold digR at h
  cases hb : badB [(p, m.c.r), (c, m.c.r), (x, m.c.b), (y, m.c.b)] with
  | some i => rw [hb] at h; cases h
  | none =>
    rw [hb] at h
    cases h
    unfold digM
    simp
theorem ok_Kdi {f fg C fl fe : Addr} {fd fdg fdl : FuncData} {k : Nat} {X : Ks} (F : Fun K "dig" "Keep.dig" sKdi f fd) (kc : KC K C) (ko : KO K C fl fe) (Ln : FnOk P w K mg base CX0 1 fl fdl ["self"] (spKln K C)) (bl : Binds K fdl ["self"] []) (m_len : mg "len" = none) (Du : FnX P w K mg base (k + 2) "dug" ["moment", "a", "c", "x", "y"] (spDug K X) fg fdg) : FnOk P w K mg base (L2.CX P w) (k + 2 + 1) f fd ["self", "a", "c", "x", "y"] (spKdi K X C) := by
  refine F.okX scKdi (fun vs H Q E h => ?_) (fun cdv A outer s H vs Q E hr h => ?_)
  · obtain ⟨a, M, N, ms, m, ns, p, c, x, y, rfl, _⟩ := h
    rfl
  obtain ⟨a, M, N, ms, m, ns, p, c, x, y, rfl, kp, ok, hml, hnl, q⟩ := h
  have hrL : Room (1 + 1) _ := hr.mono (by omega)
  refine ⟨_, (pss_cons (ps_expr (pe_bm PySem.F.plainAttrs_list PySem.F.slot_list_append PySem.F.type_list_append mt_append (pe_fld (pv 0) rfl) (pa_cons (pe_tup (pa_cons pe_str (pa_cons pe_str pa_nil))) pa_nil)))
    (pss_cons (ps_endly (tb := fun W => tDrop (tBM K "list" rAppend (tFld K (tVar 0) "moments") (tCons (tCallS (spDug K X) (WE W) (tCons (tOp (rIxA K) (tFld K (tVar 0) "moments") (tUn (rU fun i => .int (-i)) (tC (.int 1)))) (tCons (tVar 1) (tCons (tVar 2) (tCons (tVar 3) (tCons (tVar 4) tNil)))))) tNil))) (ta := tDrop (tBM K "list" rAppend (tFld K (tVar 0) "notes") (tCons (tTup (tCons (tC (.str "out")) (tCons (tC (.str "dig")) tNil))) tNil))) (tz := tDrop (tBM K "list" rAppend (tFld K (tVar 0) "notes") (tCons (tTup (tCons (tC (.str "out")) (tCons (tC (.str "dig")) tNil))) tNil))) rfl rfl rfl (takes_of rfl rfl rfl rfl) (fun W pn xe tk _ => (pss_one (ps_expr (pe_bm PySem.F.plainAttrs_list PySem.F.slot_list_append PySem.F.type_list_append mt_append (pe_fld (pv 0) rfl) (pa_cons (pe_callS Du.ok hr rfl Du.g Du.k Du.b (fun σ => passAt tk σ) (pa_cons (pe_ix (r := rIxA K) ix_any (pe_fld (pv 0) rfl) (pe_un un_neg pe_int) (fun _ _ => rfl)) (pa_cons (pv 1) (pa_cons (pv 2) (pa_cons (pv 3) (pa_cons (pv 4) pa_nil)))))) pa_nil))))) (pss_one (ps_expr (pe_bm PySem.F.plainAttrs_list PySem.F.slot_list_append PySem.F.type_list_append mt_append (pe_fld (pv 0) rfl) (pa_cons (pe_tup (pa_cons pe_str (pa_cons pe_str pa_nil))) pa_nil)))) (fun _ pn => (pss_one (ps_expr (pe_bm PySem.F.plainAttrs_list PySem.F.slot_list_append PySem.F.type_list_append mt_append (pe_fld (pv 0) rfl) (pa_cons (pe_tup (pa_cons pe_str (pa_cons pe_str pa_nil))) pa_nil))))))
    (pss_one (ps_ret (pe_op op_sub (pe_callB (r := rLenI C (spKln K C) E0) (call_lenI ko.len ko.lf Ln hrL bl passC) rfl m_len PySem.boot_len (pa_cons (pv 0) pa_nil)) pe_int))))), ?_⟩
  refine note_go kc kp rfl (by omega) fun us0 H1 _ f1 _ kp1 => ?_
  obtain ⟨dx, hi⟩ := kp1.i
  obtain ⟨vs, v, hm, hvl, hat, dv⟩ := kp1.last
  refine ⟨_, rfl, a, C, dx, _, _, rfl, hi, kc.cl, kc.nM, kpF_M M N, .inl ⟨rfl, _, SqL.of hm⟩, _, rfl, a, C, dx, _, _, rfl, hi, kc.cl, kc.nM, kpF_M M N, _, rfl, M, vs, _, _, rfl, rfl, .inl (SqL.of hm), hat, _, rfl, _, rfl, _, rfl, _, rfl, nil_go ⟨v, m, p, c, x, y, rfl, dv, ok, ?_⟩⟩
  have hnl1 : (ns ++ [noteD "in" "dig"]).length ≤ 1000 := by rw [List.length_append]; show ns.length + 1 ≤ 1000; omega
  cases hres : digR m p c x y with
  | ok m' =>
    rw [hres] at q
    intro v' H2 s2 d2
    refine nil_go ⟨M, vs, v', rfl, rfl, s2 _ _ hm, small1000 (by omega), ?_⟩
    refine note_go kc ((kp1.same s2).moment (s2 _ _ hm) d2) rfl hnl1 fun us1 H3 _ f3 _ kp3 => ?_
    obtain ⟨dx3, hi3⟩ := kp3.i
    refine ⟨_, rfl, nil_go ⟨a, dx3, _, rfl, hi3, a, M, N, _, _, _, rfl, kp3, m'.c.ls.length, rfl, ?_, _, _, rfl, rfl, ?_⟩⟩
    · have := digR_len hres
      have := ok.c.n
      omega
    exact q H3 (f1.trans ((FrK.of s2).trans (FrK.trans (fun b o h1 h2 e => by rw [upd_ne h1]; exact e) f3))) kp3
  | error e =>
    rw [hres] at q
    refine rfK_mk fun cls d H2 s2 nd rf => ?_
    refine note_go kc (kp1.same s2) rfl hnl1 fun us1 H3 en f3 g3 kp3 => ?_
    have nd0 : H d = none := by
      cases h : H d with
      | none => rfl
      | some o =>
        obtain ⟨_, hm0, _⟩ := kp.m
        obtain ⟨_, hn0, _⟩ := kp.n
        by_cases h1 : d = M
        · rw [h1, hm] at nd; cases nd
        · by_cases h2 : d = N
          · obtain ⟨_, hn1, _⟩ := kp1.n
            rw [h2, hn1] at nd; cases nd
          · rw [f1 d o h1 h2 h] at nd; cases nd
    exact q cls d H3 (f1.trans ((FrK.of s2).trans f3)) nd0 (rf.put en g3) kp3
end
end XL
namespace XL
open PySem PySem.Spec PyProof.Rows L2
/-! ### refusals: their classes -/
def Ks.at (X : Ks) : Nat → Addr
  | 0 => X.S | 1 => X.B | 2 => X.D | 3 => X.L | _ => X.O
def bAt : Nat → Nat
  | 0 => 1 | 1 => 2 | 2 => 1 | 3 => 1 | _ => 2
def fAt : Nat → Str
  | 0 => "basin" | 1 => "going" | 2 => "many" | 3 => "lock" | _ => "many"
structure WkE (K : PySem.W.Frag) (X : Ks) : Prop where
  ex : ∀ j, j < 5 → ExK K (X.at j) (bAt j)
  kit : ∀ i j, i < 5 → j < 5 → PySem.W.kitOne K (.ref (X.at i)) (.ref (X.at j)) = some (decide (i = j))
  xm : ∀ j, j < 5 → PySem.W.exmAny K (.ref (X.at j)) [.ref X.S, .ref X.B, .ref X.D, .ref X.L, .ref X.O] = some true
  no : ∀ j, j < 5 → PySem.W.findIn K (.ref (X.at j)) (fAt j) = some none
def Rf.j : Rf → Nat
  | .basin _ => 0 | .boat _ _ => 1 | .deed _ => 2 | .lock _ => 3 | .short _ => 4
def Wd : Rf → PyData
  | .basin i => .tuple [.str "NoBasin", .int i]
  | .boat i r => .tuple [.str "NoBoat", mvD (i, r)]
  | .deed i => .tuple [.str "NoDeed", .int i]
  | .lock i => .tuple [.str "NoLock", .int i]
  | .short x => .tuple [.str "Short", .int x]
def nmR : Rf → Str
  | .basin _ => "NoBasin" | .boat _ _ => "NoBoat" | .deed _ => "NoDeed" | .lock _ => "NoLock" | .short _ => "Short"
theorem Rf.j5 : ∀ e : Rf, e.j < 5
  | .basin _ => (by decide : 0 < 5) | .boat _ _ => (by decide : 1 < 5) | .deed _ => (by decide : 2 < 5) | .lock _ => (by decide : 3 < 5) | .short _ => (by decide : 4 < 5)
theorem Rf.b12 : ∀ e : Rf, bAt e.j = 1 ∨ bAt e.j = 2
  | .basin _ => .inl rfl | .boat _ _ => .inr rfl | .deed _ => .inl rfl | .lock _ => .inl rfl | .short _ => .inr rfl
theorem Rf.one : ∀ e : Rf, ([decide (e.j = 0), decide (e.j = 1), decide (e.j = 2)] ++ [decide (e.j = 3), decide (e.j = 4)]).countP (fun b => b == true) = 1
  | .basin _ => rfl | .boat _ _ => rfl | .deed _ => rfl | .lock _ => rfl | .short _ => rfl
theorem kit_lr {K : PySem.W.Frag} {C : Addr} {b : Nat} (T : ExK K C b) (h : b = 1 ∨ b = 2) : PySem.W.kitAny K (.ref C) [.type "LookupError", .type "RuntimeError"] = some true := by
  rcases h with rfl | rfl
  · exact kitAny_cons (kit_py T (by decide +kernel) rfl) (fun z => by cases z) (fun _ => rfl)
  · exact kitAny_cons (kit_py T (by decide +kernel) rfl) (fun _ => kitAny_cons (kit_py T (by decide +kernel) rfl) (fun z => by cases z) (fun _ => rfl)) (fun z => by cases z)
/-- the field of a refusal -/
def FldAt (H : Hp) : Rf → V → Prop
  | .boat i r, v => ∃ t, v = .ref t ∧ H t = some (.tup (mvV (i, r)))
  | .basin i, v => v = .int i
  | .deed i, v => v = .int i
  | .lock i, v => v = .int i
  | .short i, v => v = .int i
def ErAt (X : Ks) (H : Hp) (e : Rf) (a : Addr) : Prop := ∃ v, ErO a (X.at e.j) (fAt e.j) v H ∧ FldAt H e v
theorem FldAt.same {H H' : Hp} {e : Rf} {v : V} (h : FldAt H e v) (s : Same H H') : FldAt H' e v := by
  cases e with
  | boat i r => obtain ⟨t, h1, h2⟩ := h; exact ⟨t, h1, s _ _ h2⟩
  | _ => exact h
theorem ErAt.same {X : Ks} {H H' : Hp} {e : Rf} {a : Addr} (h : ErAt X H e a) (s : Same H H') : ErAt X H' e a := by
  obtain ⟨v, h1, h2⟩ := h
  exact ⟨v, h1.same s, h2.same s⟩
/-- a refusal that has left, kept -/
theorem ErAt.kept {X : Ks} {e : Rf} {cls : Value} {d a : Addr} {H : Hp} (h : RfAt X e cls d H) (na : H a = none) : cls = .ref (X.at e.j) ∧ ErAt X (upd H a (exk a cls (some d))) e a := by
  have s := same_new na (o := exk a cls (some d))
  cases e with
  | boat i r =>
    obtain ⟨rfl, t, h1, h2⟩ := h
    exact ⟨rfl, _, ⟨d, .inl ⟨upd_same, s _ _ h1⟩⟩, t, rfl, s _ _ h2⟩
  | basin i => obtain ⟨rfl, h1⟩ := h; exact ⟨rfl, _, ⟨d, .inl ⟨upd_same, s _ _ h1⟩⟩, rfl⟩
  | deed i => obtain ⟨rfl, h1⟩ := h; exact ⟨rfl, _, ⟨d, .inl ⟨upd_same, s _ _ h1⟩⟩, rfl⟩
  | lock i => obtain ⟨rfl, h1⟩ := h; exact ⟨rfl, _, ⟨d, .inl ⟨upd_same, s _ _ h1⟩⟩, rfl⟩
  | short i => obtain ⟨rfl, h1⟩ := h; exact ⟨rfl, _, ⟨d, .inl ⟨upd_same, s _ _ h1⟩⟩, rfl⟩
theorem FldAt.dp {K : PySem.W.Frag} {H : Hp} {e : Rf} {v : V} {t : Addr} (h : FldAt H e v) (ht : H t = some (.tup [.str (nmR e), v])) : Dp K H (.ref t) (Wd e) := by
  cases e with
  | boat i r =>
    obtain ⟨t, rfl, h⟩ := h
    exact .tup (.inl (.inl ht)) (.cons (.str _) (.cons (.tup (.inl (.inl h)) (.cons (.int _) (.cons (.str _) .nil))) .nil))
  | _ => obtain rfl := h; exact .tup (.inl (.inl ht)) (.cons (.str _) (.cons (.int _) .nil))
theorem boot_LookupError' : bootBuiltins "LookupError" = some (.type "LookupError") := by decide +kernel
section
variable {P : Program} {w : World} {K : PySem.W.Frag} {mg : Str → Option Value} {base : Heap}
abbrev sWo : Stmt := topS 58
abbrev nWo : List Str := ["_law_error", "_law_kinds"]
theorem scWo : FnScope nWo ["_law_error"] (defScope sWo) := ⟨rfl, rfl, rfl, by decide +kernel, rfl, by decide +kernel, by decide +kernel⟩
def spWo (K : PySem.W.Frag) (X : Ks) : Sp := fun vs H Q _ => ∃ (a : Addr) (e : Rf), vs = [.ref a] ∧ ErAt X H e a ∧ ∀ t v H', Same H H' → H' t = some (.tup [.str (nmR e), v]) → FldAt H' e v → Q (.ref t) H'
theorem ok_wo {f f0 f1 f2 f3 f4 : Addr} {fd d0 d1 d2 d3 d4 : FuncData} {k : Nat} {X : Ks} (F : Fun K "_law_word" "_law_word" sWo f fd) (wk : WkE K X) (eS : Er P w K mg base "NoBasin" 1 X.S f0 d0 ["self", "basin"] (spI X.S "basin")) (eB : Er P w K mg base "NoBoat" 2 X.B f1 d1 ["self", "going"] (spI X.B "going")) (eD : Er P w K mg base "NoDeed" 1 X.D f2 d2 ["self", "many"] (spI X.D "many")) (eL : Er P w K mg base "NoLock" 1 X.L f3 d3 ["self", "lock"] (spI X.L "lock")) (eO : Er P w K mg base "Short" 2 X.O f4 d4 ["self", "many"] (spI X.O "many")) (m_isinstance : mg "isinstance" = none) (m_LookupError : mg "LookupError" = none) (m_RuntimeError : mg "RuntimeError" = none) : FnOk P w K mg base CX0 (k + 1) f fd ["_law_error"] (spWo K X) := by
  refine F.ok scWo (fun vs H Q E h => ?_) (fun cdv A outer s0 H vs Q E hr h => ?_)
  · obtain ⟨a, e, rfl, _⟩ := h
    rfl
  obtain ⟨a, e, rfl, ⟨v, ho, hf⟩, q⟩ := h
  have TX := wk.ex e.j e.j5
  have is : ∀ j, j < 5 → PySem.W.kitOne K (.ref (X.at e.j)) (.ref (X.at j)) = some (decide (e.j = j)) := fun j hj => wk.kit _ _ e.j5 hj
  refine ⟨_, (pss_cons (ps_set (i := 1) scWo.nd rfl (.inl rfl) (pe_lst (pa_cons (pe_callB call_isEo rfl m_isinstance boot_isinstance (pa_cons (pv 0) (pa_cons (pe_glob (v := .ref X.S) rfl eS.g rfl) pa_nil))) (pa_cons (pe_callB call_isEo rfl m_isinstance boot_isinstance (pa_cons (pv 0) (pa_cons (pe_glob (v := .ref X.B) rfl eB.g rfl) pa_nil))) (pa_cons (pe_callB call_isEo rfl m_isinstance boot_isinstance (pa_cons (pv 0) (pa_cons (pe_glob (v := .ref X.D) rfl eD.g rfl) pa_nil))) pa_nil)))))
    (pss_cons (ps_set (i := 1) scWo.nd rfl (.inl rfl) (pe_op op_catL (pv 1) (pe_lst (pa_cons (pe_callB call_isEo rfl m_isinstance boot_isinstance (pa_cons (pv 0) (pa_cons (pe_glob (v := .ref X.L) rfl eL.g rfl) pa_nil))) (pa_cons (pe_callB call_isEo rfl m_isinstance boot_isinstance (pa_cons (pv 0) (pa_cons (pe_glob (v := .ref X.O) rfl eO.g rfl) pa_nil))) pa_nil)))))
    (pss_cons (ps_if (PW.pt (pw_or (pt_cmpR op_ne (pe_bm PySem.F.plainAttrs_list PySem.F.slot_list_count PySem.F.type_list_count mt_cntB (pv 1) (pa_cons pe_bl pa_nil)) pe_int (nomark _)) (pw_or1 (pt_not (pt_val (pe_callB call_isEoT rfl m_isinstance boot_isinstance (pa_cons (pv 0) (pa_cons (pe_tup (pa_cons (pe_bltn (v := .ty "LookupError") rfl m_LookupError boot_LookupError rfl) (pa_cons (pe_bltn (v := .ty "RuntimeError") rfl m_RuntimeError boot_RuntimeError rfl) pa_nil))) pa_nil)))))))) (pss_one (ps_ret pe_str)) pss_nil)
    (pss_cons (ps_if (pt_val (pe_ix (r := rIxA K) ix_any (pv 1) pe_int (fun _ _ => rfl))) (pss_one (ps_ret (pe_tup (pa_cons pe_str (pa_cons (pe_eoget eS.ex (wk.no 0 (by decide)) (pv 0)) pa_nil))))) pss_nil)
    (pss_cons (ps_if (pt_val (pe_ix (r := rIxA K) ix_any (pv 1) pe_int (fun _ _ => rfl))) (pss_one (ps_ret (pe_tup (pa_cons pe_str (pa_cons (pe_eoget eB.ex (wk.no 1 (by decide)) (pv 0)) pa_nil))))) pss_nil)
    (pss_cons (ps_if (pt_val (pe_ix (r := rIxA K) ix_any (pv 1) pe_int (fun _ _ => rfl))) (pss_one (ps_ret (pe_tup (pa_cons pe_str (pa_cons (pe_eoget eD.ex (wk.no 2 (by decide)) (pv 0)) pa_nil))))) pss_nil)
    (pss_one (ps_ret (pe_ifExp (pt_val (pe_ix (r := rIxA K) ix_any (pv 1) pe_int (fun _ _ => rfl))) (pe_tup (pa_cons pe_str (pa_cons (pe_eoget eL.ex (wk.no 3 (by decide)) (pv 0)) pa_nil))) (pe_tup (pa_cons pe_str (pa_cons (pe_eoget eO.ex (wk.no 4 (by decide)) (pv 0)) pa_nil)))))))))))), ?_⟩
  refine ⟨_, rfl, a, _, _, v, _, _, _, _, _, _, _, rfl, TX, ho, .own _, is 0 (by decide), _, rfl, a, _, _, v, _, _, _, _, _, _, _, rfl, TX, ho, .own _, is 1 (by decide), _, rfl, a, _, _, v, _, _, _, _, _, _, _, rfl, TX, ho, .own _, is 2 (by decide), (by show 3 ≤ sizeLine; decide), fun L nL => ?_⟩
  have s1 := same_new nL (o := .lst [.bl (decide (e.j = 0)), .bl (decide (e.j = 1)), .bl (decide (e.j = 2))])
  have e1 : (upd H L (.lst [.bl (decide (e.j = 0)), .bl (decide (e.j = 1)), .bl (decide (e.j = 2))])) L = some (.lst [.bl (decide (e.j = 0)), .bl (decide (e.j = 1)), .bl (decide (e.j = 2))]) := upd_same
  replace ho := ho.same s1
  replace hf := hf.same s1
  generalize upd H L (.lst [.bl (decide (e.j = 0)), .bl (decide (e.j = 1)), .bl (decide (e.j = 2))]) = H1 at s1 e1 ho hf
  refine at_g (σ' := [some (.ref a), some (.ref L)]) rfl ?_
  refine ⟨_, rfl, _, rfl, a, _, _, v, _, _, _, _, _, _, _, rfl, TX, ho, .own _, is 3 (by decide), _, rfl, a, _, _, v, _, _, _, _, _, _, _, rfl, TX, ho, .own _, is 4 (by decide), (by show 2 ≤ sizeLine; decide), fun M nM => ?_⟩
  have s2 := same_new nM (o := .lst [.bl (decide (e.j = 3)), .bl (decide (e.j = 4))])
  have e2 : (upd H1 M (.lst [.bl (decide (e.j = 3)), .bl (decide (e.j = 4))])) M = some (.lst [.bl (decide (e.j = 3)), .bl (decide (e.j = 4))]) := upd_same
  replace ho := ho.same s2
  replace hf := hf.same s2
  replace e1 := s2 _ _ e1
  generalize upd H1 M (.lst [.bl (decide (e.j = 3)), .bl (decide (e.j = 4))]) = H2 at s2 e1 e2 ho hf
  refine ⟨L, M, _, _, rfl, rfl, SqL.of e1, SqL.of e2, (by show 5 ≤ sizeLine; decide), fun N nN => ?_⟩
  have s3 := same_new nN (o := .lst ([.bl (decide (e.j = 0)), .bl (decide (e.j = 1)), .bl (decide (e.j = 2))] ++ [.bl (decide (e.j = 3)), .bl (decide (e.j = 4))]))
  have e3 : (upd H2 N (.lst ([.bl (decide (e.j = 0)), .bl (decide (e.j = 1)), .bl (decide (e.j = 2))] ++ [.bl (decide (e.j = 3)), .bl (decide (e.j = 4))]))) N = some (.lst (([decide (e.j = 0), decide (e.j = 1), decide (e.j = 2)] ++ [decide (e.j = 3), decide (e.j = 4)]).map V.bl)) := upd_same
  replace ho := ho.same s3
  replace hf := hf.same s3
  generalize upd H2 N (.lst ([.bl (decide (e.j = 0)), .bl (decide (e.j = 1)), .bl (decide (e.j = 2))] ++ [.bl (decide (e.j = 3)), .bl (decide (e.j = 4))])) = H3 at s3 e3 ho hf
  have S3 := s1.trans (s2.trans s3)
  refine at_g (σ' := [some (.ref a), some (.ref N)]) rfl ?_
  refine ⟨_, rfl, .inl ⟨rfl, _, SqL.of e3⟩, N, _, _, rfl, rfl, SqL.of e3, ?_⟩
  rw [e.one]
  refine ⟨rfl, false, by rw [decide_eq_true (show V.int ((1 : Nat) : Int) = V.int 1 from rfl)]; rfl, iteF ?_⟩
  refine ⟨_, rfl, (by show 2 ≤ sizeLine; decide), fun tp ntp => ?_⟩
  have s4 := same_new ntp (o := .tup [.ty "LookupError", .ty "RuntimeError"])
  have e4 : (upd H3 tp (.tup [.ty "LookupError", .ty "RuntimeError"])) tp = some (.tup [.ty "LookupError", .ty "RuntimeError"]) := upd_same
  replace ho := ho.same s4
  replace hf := hf.same s4
  replace e3 := s4 _ _ e3
  generalize upd H3 tp (.tup [.ty "LookupError", .ty "RuntimeError"]) = H4 at s4 e3 e4 ho hf
  refine ⟨a, _, tp, _, v, _, _, true, _, _, _, _, rfl, TX, ho, e4, .cons (.ty _) (.cons (.ty _) .nil), kit_lr TX e.b12, _, rfl, iteF ?_⟩
  have S4 := S3.trans s4
  have fin : ∀ (n : Str), n = nmR e → ∀ t, H4 t = none → Q (.ref t) (upd H4 t (.tup [.str n, v])) := fun n en t nt => by
    subst en
    exact q t v _ (S4.trans (same_new nt)) upd_same (hf.same (same_new nt))
  cases e with
  | basin i =>
    refine ⟨_, rfl, N, _, _, _, rfl, rfl, .inl (SqL.of e3), rfl, _, rfl, iteT ⟨_, rfl, a, v, rfl, ho, (by show 2 ≤ sizeLine; decide), fun t nt => fin _ rfl t nt⟩⟩
  | boat i r =>
    refine ⟨_, rfl, N, _, _, _, rfl, rfl, .inl (SqL.of e3), rfl, _, rfl, iteF ⟨_, rfl, N, _, _, _, rfl, rfl, .inl (SqL.of e3), rfl, _, rfl, iteT ⟨_, rfl, a, v, rfl, ho, (by show 2 ≤ sizeLine; decide), fun t nt => fin _ rfl t nt⟩⟩⟩
  | deed i =>
    refine ⟨_, rfl, N, _, _, _, rfl, rfl, .inl (SqL.of e3), rfl, _, rfl, iteF ⟨_, rfl, N, _, _, _, rfl, rfl, .inl (SqL.of e3), rfl, _, rfl, iteF ⟨_, rfl, N, _, _, _, rfl, rfl, .inl (SqL.of e3), rfl, _, rfl, iteT ⟨_, rfl, a, v, rfl, ho, (by show 2 ≤ sizeLine; decide), fun t nt => fin _ rfl t nt⟩⟩⟩⟩
  | lock i =>
    refine ⟨_, rfl, N, _, _, _, rfl, rfl, .inl (SqL.of e3), rfl, _, rfl, iteF ⟨_, rfl, N, _, _, _, rfl, rfl, .inl (SqL.of e3), rfl, _, rfl, iteF ⟨_, rfl, N, _, _, _, rfl, rfl, .inl (SqL.of e3), rfl, _, rfl, iteF ⟨_, rfl, N, _, _, _, rfl, rfl, .inl (SqL.of e3), rfl, _, rfl, iteT ⟨_, rfl, a, v, rfl, ho, (by show 2 ≤ sizeLine; decide), fun t nt => fin _ rfl t nt⟩⟩⟩⟩⟩
  | short i =>
    refine ⟨_, rfl, N, _, _, _, rfl, rfl, .inl (SqL.of e3), rfl, _, rfl, iteF ⟨_, rfl, N, _, _, _, rfl, rfl, .inl (SqL.of e3), rfl, _, rfl, iteF ⟨_, rfl, N, _, _, _, rfl, rfl, .inl (SqL.of e3), rfl, _, rfl, iteF ⟨_, rfl, N, _, _, _, rfl, rfl, .inl (SqL.of e3), rfl, _, rfl, iteF ⟨_, rfl, a, v, rfl, ho, (by show 2 ≤ sizeLine; decide), fun t nt => fin _ rfl t nt⟩⟩⟩⟩⟩
end
end XL
namespace XL
open PySem PySem.Spec PyProof.Rows L2
/-! ### deeds as data -/
inductive Dd
  | go (i : Int) (r : Bool) | row (gs : List (Int × Bool)) | fill (r : Bool) (i x : Int) | drain (r : Bool) (i x : Int) | turn (i : Int) | dig (p c x y : Int)
def gD (g : Int × Bool) : PyData := .tuple [.int g.1, .str (wS g.2)]
def nmD : Dd → Str
  | .go _ _ => "go" | .row _ => "row" | .fill _ _ _ => "fill" | .drain _ _ _ => "drain" | .turn _ => "turn" | .dig _ _ _ _ => "dig"
def ddD : Dd → PyData
  | .go i r => .tuple [.str "go", .int i, .str (wS r)]
  | .row gs => .tuple [.str "row", .list (gs.map gD)]
  | .fill r i x => .tuple [.str "fill", .str (wS r), .int i, .int x]
  | .drain r i x => .tuple [.str "drain", .str (wS r), .int i, .int x]
  | .turn i => .tuple [.str "turn", .int i]
  | .dig p c x y => .tuple [.str "dig", .int p, .int c, .int x, .int y]
def doR (m : Mo) : Dd → Res
  | .go i r => goR m i r
  | .row gs => rowR m gs
  | .fill r i x => fillR m r i x
  | .drain r i x => drainR m r i x
  | .turn i => turnR m i
  | .dig p c x y => digR m p c x y
def prD (p : Dd × Rf) : PyData := .tuple [ddD p.1, Wd p.2]
/-! ### methods, to be called -/
structure Mt (P : Program) (w : World) (K : PySem.W.Frag) (mg : Str → Option Value) (base : Heap) (n : Nat) (C : Addr) (name : Str) (ps : List Str) (sp : Sp) (f : Addr) (fd : FuncData) : Prop where
  ok : FnOk P w K mg base CX0 n f fd ps sp
  m : Meth K C name f
  b : Binds K fd ps []
structure MtX (P : Program) (w : World) (K : PySem.W.Frag) (mg : Str → Option Value) (base : Heap) (n : Nat) (C : Addr) (name : Str) (ps : List Str) (sp : Sp) (f : Addr) (fd : FuncData) : Prop where
  ok : FnOk P w K mg base (L2.CX P w) n f fd ps sp
  m : Meth K C name f
  b : Binds K fd ps []
theorem kpF_no {M N : Addr} {m : Str} (h1 : (m == ("moments" : Str)) = false) (h2 : (m == ("notes" : Str)) = false) : (kpF M N).lookup m = none := by unfold kpF; simp [List.lookup, h1, h2]
def toD (m : Mo) : PyData := .list [cnD m.c, snD m.s, plsD m.h, plsD m.w, .int m.c.ls.length]
section
variable {P : Program} {w : World} {K : PySem.W.Frag} {mg : Str → Option Value} {base : Heap}
abbrev sTo : Stmt := topS 59
abbrev nTo : List Str := ["_law_house"]
theorem scTo : FnScope nTo ["_law_house"] (defScope sTo) := ⟨rfl, rfl, rfl, by decide +kernel, rfl, by decide +kernel, by decide +kernel⟩
def spTo (K : PySem.W.Frag) (C : Addr) : Sp := fun vs H Q _ => ∃ (a M N : Addr) (ms : List Mo) (m : Mo) (ns : List PyData), vs = [.ref a] ∧ Kp K C H a M N (ms ++ [m]) ns ∧ okMo m ∧ ∀ L v1 v2 v3 v4 H', Same H H' → H L = none → H' L = some (.lst [v1, v2, v3, v4, .int m.c.ls.length]) → Dp K H' v1 (cnD m.c) → Dp K H' v2 (snD m.s) → NwL H H' v3 m.h → NwL H H' v4 m.w → Q (.ref L) H'
theorem ok_to {f f0 f1 f2 f3 fl C fe : Addr} {fd d0 d1 d2 d3 dl : FuncData} {k : Nat} (F : Fun K "_law_told_of" "_law_told_of" sTo f fd) (kc : KC K C) (ko : KO K C fl fe) (mCa : Mt P w K mg base 1 C "canal" ["self"] (spKca K C) f0 d0) (mSt : Mt P w K mg base 1 C "standing" ["self"] (spKst K C) f1 d1) (mHa : Mt P w K mg base 1 C "hands" ["self"] (spKha K C) f2 d2) (mWe : Mt P w K mg base 1 C "went" ["self"] (spKwe K C) f3 d3) (mLn : Mt P w K mg base 1 C "__len__" ["self"] (spKln K C) fl dl) (m_len : mg "len" = none) : FnOk P w K mg base CX0 (k + 2 + 1) f fd ["_law_house"] (spTo K C) := by
  refine F.ok scTo (fun vs H Q E h => ?_) (fun cdv A outer s0 H vs Q E hr h => ?_)
  · obtain ⟨a, M, N, ms, m, ns, rfl, _⟩ := h
    rfl
  obtain ⟨a, M, N, ms, m, ns, rfl, kp, ok, q⟩ := h
  have hrL : Room (1 + 1) _ := hr.mono (by omega)
  refine ⟨_, (pss_one (ps_ret (pe_lst (pa_cons (pe_meth0 (E := E0) (pv 0) kc.cl mCa.m mCa.ok (hr.mono (by omega)) mCa.b .nil pass0) (pa_cons (pe_meth0 (E := E0) (pv 0) kc.cl mSt.m mSt.ok (hr.mono (by omega)) mSt.b .nil pass0) (pa_cons (pe_meth0 (E := E0) (pv 0) kc.cl mHa.m mHa.ok (hr.mono (by omega)) mHa.b .nil pass0) (pa_cons (pe_meth0 (E := E0) (pv 0) kc.cl mWe.m mWe.ok (hr.mono (by omega)) mWe.b .nil pass0) (pa_cons (pe_callB (r := rLenI C (spKln K C) E0) (call_lenI ko.len ko.lf mLn.ok hrL mLn.b passC) rfl m_len PySem.boot_len (pa_cons (pv 0) pa_nil)) pa_nil)))))))), ?_⟩
  obtain ⟨dx, hi⟩ := kp.i
  have hh := ok.h
  have hw := ok.w
  refine ⟨_, rfl, a, dx, _, rfl, hi, kpF_no (by decide +kernel) (by decide +kernel), nil_go ⟨a, M, N, ms, m, ns, rfl, kp, fun v1 p1 => ?_⟩⟩
  refine ⟨_, rfl, a, dx, _, rfl, hi, kpF_no (by decide +kernel) (by decide +kernel), nil_go ⟨a, M, N, ms, m, ns, rfl, kp, fun v2 p2 => ?_⟩⟩
  refine ⟨_, rfl, a, dx, _, rfl, hi, kpF_no (by decide +kernel) (by decide +kernel), nil_go ⟨a, M, N, ms, m, ns, rfl, kp, by omega, fun v3 H1 s1 p3 => ?_⟩⟩
  refine ⟨_, rfl, a, dx, _, rfl, s1 _ _ hi, kpF_no (by decide +kernel) (by decide +kernel), nil_go ⟨a, M, N, ms, m, ns, rfl, kp.same s1, by omega, fun v4 H2 s2 p4 => ?_⟩⟩
  have s12 := s1.trans s2
  have lc := ok.c.n
  refine ⟨_, rfl, nil_go ⟨a, dx, _, rfl, s12 _ _ hi, a, M, N, ms, m, ns, rfl, kp.same s12, m.c.ls.length, rfl, by omega, ?_⟩⟩
  refine ⟨(by show 5 ≤ sizeLine; decide), fun L nL => ?_⟩
  have s3 := same_new nL (o := .lst [v1, v2, v3, v4, .int m.c.ls.length])
  have S3 := s12.trans s3
  exact q L v1 v2 v3 v4 _ S3 (s12.free nL) upd_same (Dp.same S3 _ p1) (Dp.same S3 _ p2) (p3.same (s2.trans s3)) ((p4.back s1).same s3)
end
end XL
namespace XL
open PySem PySem.Spec PyProof.Rows L2
/-- what stands but for the keep's two lists -/
def ap (M N : Addr) (H : Hp) : Hp := fun b => if b = M ∨ b = N then none else H b
theorem ap_sub {M N : Addr} {H : Hp} : Same (ap M N H) H := fun b o e => by
  unfold ap at e
  split at e
  · cases e
  · exact e
theorem FrK.ap {M N : Addr} {H H' : Hp} (f : FrK M N H H') : Same (ap M N H) (ap M N H') := fun b o e => by
  unfold XL.ap at e ⊢
  split at e
  · cases e
  · rename_i h
    rw [if_neg h]
    exact f b o (fun z => h (.inl z)) (fun z => h (.inr z)) e
theorem ap_frh {M N : Addr} {H H' : Hp} {vs us : List V} (h1 : H M = some (.lst vs)) (h2 : H N = some (.lst us)) : Same (frh H H') (ap M N H') := fun b o e => by
  unfold frh at e
  split at e
  · cases e
  · rename_i h
    unfold ap
    rw [if_neg (fun z => z.elim (fun z => h vs (by rw [z]; exact h1)) (fun z => h us (by rw [z]; exact h2)))]
    exact e
theorem dp_strV {K : PySem.W.Frag} {H : Hp} {v : V} {x : Str} (h : Dp K H v (.str x)) : v = .str x := by cases h; rfl
section
variable {K : PySem.W.Frag} {H : Hp} {v : V} {a b c d e : PyData}
theorem dpT2 (h : Dp K H v (.tuple [a, b])) : ∃ t x y, v = .ref t ∧ SqT K H t [x, y] ∧ Dp K H x a ∧ Dp K H y b := by
  cases h with
  | tup hs hd => cases hd with
    | cons h1 hd => cases hd with
      | cons h2 hd => cases hd; exact ⟨_, _, _, rfl, hs, h1, h2⟩
theorem dpT3 (h : Dp K H v (.tuple [a, b, c])) : ∃ t x y z, v = .ref t ∧ SqT K H t [x, y, z] ∧ Dp K H x a ∧ Dp K H y b ∧ Dp K H z c := by
  cases h with
  | tup hs hd => cases hd with
    | cons h1 hd => cases hd with
      | cons h2 hd => cases hd with
        | cons h3 hd => cases hd; exact ⟨_, _, _, _, rfl, hs, h1, h2, h3⟩
theorem dpT4 (h : Dp K H v (.tuple [a, b, c, d])) : ∃ t x y z u, v = .ref t ∧ SqT K H t [x, y, z, u] ∧ Dp K H x a ∧ Dp K H y b ∧ Dp K H z c ∧ Dp K H u d := by
  cases h with
  | tup hs hd => cases hd with
    | cons h1 hd => cases hd with
      | cons h2 hd => cases hd with
        | cons h3 hd => cases hd with
          | cons h4 hd => cases hd; exact ⟨_, _, _, _, _, rfl, hs, h1, h2, h3, h4⟩
theorem dpT5 (h : Dp K H v (.tuple [a, b, c, d, e])) : ∃ t x y z u s, v = .ref t ∧ SqT K H t [x, y, z, u, s] ∧ Dp K H x a ∧ Dp K H y b ∧ Dp K H z c ∧ Dp K H u d ∧ Dp K H s e := by
  cases h with
  | tup hs hd => cases hd with
    | cons h1 hd => cases hd with
      | cons h2 hd => cases hd with
        | cons h3 hd => cases hd with
          | cons h4 hd => cases hd with
            | cons h5 hd => cases hd; exact ⟨_, _, _, _, _, _, rfl, hs, h1, h2, h3, h4, h5⟩
theorem rowZ_dp {H : Hp} {v : V} {gs : List (Int × Bool)} (h : Dp K H v (.list (gs.map gD))) : ∃ g, v = .ref g ∧ RowZ K H g gs := by
  cases h with
  | lst hs hd =>
    refine ⟨_, rfl, _, .inl hs, by rw [DpAll.length hd, List.length_map], fun j u hu => ?_⟩
    obtain ⟨d, ed, pd⟩ := DpAll.get hd hu
    rw [List.getElem?_map] at ed
    obtain ⟨e, ee, rfl⟩ := Option.map_eq_some_iff.mp ed
    obtain ⟨t, x, y, rfl, ht, px, py⟩ := dpT2 pd
    obtain rfl := dp_intV px
    obtain rfl := dp_strV py
    exact ⟨t, e, rfl, ee, .inr ht⟩
end
theorem dq_of {X : Ks} {K : PySem.W.Frag} {C a M N : Addr} {ms : List Mo} {m : Mo} {ns : List PyData} {w : Str} {res : Res} {H : Hp} {Q : Mo → Hp → Prop} {E : XK} (h1 : ∀ m', res = .ok m' → ∀ H', FrK M N H H' → Kp K C H' a M N (ms ++ [m] ++ [m']) (ns ++ [noteD "in" w] ++ [noteD "out" w]) → Q m' H')
    (h2 : ∀ e, res = .error e → ∀ cls d H', FrK M N H H' → H d = none → RfAt X e cls d H' → Kp K C H' a M N (ms ++ [m]) (ns ++ [noteD "in" w] ++ [noteD "out" w]) → E cls (some d) H') : dQ X K C a M N ms m ns w res H Q E := by
  cases res with
  | ok m' => exact h1 m' rfl
  | error e => exact h2 e rfl
theorem str_ne {a b : Str} (h : (a == b) = false) : V.bl (decide (V.str a = V.str b)) = V.bl false := by
  rw [decide_eq_false fun z => by
    rw [V.str.inj z, beq_self_eq_true] at h
    cases h]
theorem str_eq {a : Str} : V.bl (decide (V.str a = V.str a)) = V.bl true := by rw [decide_eq_true rfl]
theorem shW (e : Rf) : SeqAt.shaped (Wd e) = true := by
  have h : ∀ r, PyData.strOk (wS r) = true := by decide +kernel
  have h1 : PyData.strOk ("NoLock" : Str) = true := by decide +kernel
  have h2 : PyData.strOk ("NoBasin" : Str) = true := by decide +kernel
  have h3 : PyData.strOk ("NoDeed" : Str) = true := by decide +kernel
  have h4 : PyData.strOk ("NoBoat" : Str) = true := by decide +kernel
  have h5 : PyData.strOk ("Short" : Str) = true := by decide +kernel
  cases e <;> (show ((Wd _).canLay0 && decide ((Wd _).depth ≤ 64)) = true; simp [Wd, mvD, PyData.canLay0, PyData.canLayAll0, PyData.depth, PyData.depthAll, h, h1, h2, h3, h4, h5])
/-- a deed as data; a row's goings may be lists or tuples -/
def DdZ (K : PySem.W.Frag) (H : Hp) (v : V) : Dd → Prop
  | .row gs => ∃ t g, v = .ref t ∧ SqT K H t [.str "row", .ref g] ∧ RowZ K H g gs
  | dd => Dp K H v (ddD dd)
theorem RowZ.same {K : PySem.W.Frag} {H H' : Hp} {g : Addr} {gs : List (Int × Bool)} (h : RowZ K H g gs) (s : Same H H') : RowZ K H' g gs := by
  obtain ⟨us, h1, h2, h3⟩ := h.ex
  exact ⟨us, Same.sq2 s h1, h2, fun j u hu => by
    obtain ⟨t, e, e1, e2, e3⟩ := h3 j u hu
    exact ⟨t, e, e1, e2, Same.sq2 s e3⟩⟩
theorem DdZ.same {K : PySem.W.Frag} {H H' : Hp} {v : V} {dd : Dd} (h : DdZ K H v dd) (s : Same H H') : DdZ K H' v dd := by
  cases dd with
  | row gs =>
    obtain ⟨t, g, e, h1, h2⟩ := h
    exact ⟨t, g, e, Same.tup s h1, h2.same s⟩
  | go i r => exact Dp.same s (ddD (.go i r)) h
  | fill r i x => exact Dp.same s (ddD (.fill r i x)) h
  | drain r i x => exact Dp.same s (ddD (.drain r i x)) h
  | turn i => exact Dp.same s (ddD (.turn i)) h
  | dig p c x y => exact Dp.same s (ddD (.dig p c x y)) h
/-- what a deed tells -/
def tellV : Dd → Mo → V
  | .dig _ _ _ _, m' => .int (m'.c.ls.length - 1)
  | _, _ => .non
section
variable {P : Program} {w : World} {K : PySem.W.Frag} {mg : Str → Option Value} {base : Heap}
theorem do_go {X : Ks} {C a M N : Addr} {H : Hp} {ms : List Mo} {m : Mo} {ns : List PyData} {v : V} {dd : Dd} {W : WX} {D : Ends} (kp : Kp K C H a M N (ms ++ [m]) ns) (ok : okMo m) (hml : ms.length ≤ 900) (hnl : ns.length ≤ 900) (hd : DdZ K (ap M N H) v dd)
    (q1 : ∀ m', doR m dd = .ok m' → ∀ H', FrK M N H H' → Kp K C H' a M N (ms ++ [m] ++ [m']) (ns ++ [noteD "in" (nmD dd)] ++ [noteD "out" (nmD dd)]) → D.nx [some (.ref a), some v, some (tellV dd m'), some .non, none] H')
    (q2 : ∀ e, doR m dd = .error e → ∀ cls d H', FrK M N H H' → RfAt X e cls d H' → Kp K C H' a M N (ms ++ [m]) (ns ++ [noteD "in" (nmD dd)] ++ [noteD "out" (nmD dd)]) → W cls (some d) [some (.ref a), some v, some .non, some .non, none] H') :
    ((tIfS (tTest (tOp rEq (tOp (rIxA K) (tVar 1) (tC (.int 0))) (tC (.str "go")))) (tAsg (tMx C "go" (spKgo K X C) (WE W) (tVar 0) (tCons (tOp (rIxA K) (tVar 1) (tC (.int 1))) (tCons (tOp (rIxA K) (tVar 1) (tC (.int 2))) tNil))) (gName 2)) (tIfS (tTest (tOp rEq (tOp (rIxA K) (tVar 1) (tC (.int 0))) (tC (.str "row")))) (tAsg (tMx C "row" (spKro K X C) (WE W) (tVar 0) (tCons (tOp (rIxA K) (tVar 1) (tC (.int 1))) tNil)) (gName 2)) (tIfS (tTest (tOp rEq (tOp (rIxA K) (tVar 1) (tC (.int 0))) (tC (.str "fill")))) (tAsg (tMx C "fill" (spKfi K X C) (WE W) (tVar 0) (tCons (tOp (rIxA K) (tVar 1) (tC (.int 1))) (tCons (tOp (rIxA K) (tVar 1) (tC (.int 2))) (tCons (tOp (rIxA K) (tVar 1) (tC (.int 3))) tNil)))) (gName 2)) (tIfS (tTest (tOp rEq (tOp (rIxA K) (tVar 1) (tC (.int 0))) (tC (.str "drain")))) (tAsg (tMx C "drain" (spKdr K X C) (WE W) (tVar 0) (tCons (tOp (rIxA K) (tVar 1) (tC (.int 1))) (tCons (tOp (rIxA K) (tVar 1) (tC (.int 2))) (tCons (tOp (rIxA K) (tVar 1) (tC (.int 3))) tNil)))) (gName 2)) (tIfS (tTest (tOp rEq (tOp (rIxA K) (tVar 1) (tC (.int 0))) (tC (.str "turn")))) (tAsg (tMx C "turn" (spKtu K X C) (WE W) (tVar 0) (tCons (tOp (rIxA K) (tVar 1) (tC (.int 1))) tNil)) (gName 2)) (tAsg (tMx C "dig" (spKdi K X C) (WE W) (tVar 0) (tCons (tOp (rIxA K) (tVar 1) (tC (.int 1))) (tCons (tOp (rIxA K) (tVar 1) (tC (.int 2))) (tCons (tOp (rIxA K) (tVar 1) (tC (.int 3))) (tCons (tOp (rIxA K) (tVar 1) (tC (.int 4))) tNil))))) (gName 2))))))) : TS) D [some (.ref a), some v, some .non, some .non, none] H := by
  obtain ⟨dx, hi⟩ := kp.i
  cases dd with
  | go i r =>
    obtain ⟨t, y0, y1, y2, rfl, ht, p0, p1, p2⟩ := dpT3 hd
    obtain rfl := dp_strV p0
    obtain rfl := dp_intV p1
    obtain rfl := dp_strV p2
    have ht' : Sq2 K H t _ := .inr (Same.tup ap_sub ht)
    refine ⟨_, rfl, t, _, _, _, rfl, rfl, ht', rfl, rfl, true, str_eq, iteT ⟨_, rfl, a, dx, _, rfl, hi, kpF_no (by decide +kernel) (by decide +kernel), _, rfl, t, _, _, _, rfl, rfl, ht', rfl, _, rfl, t, _, _, _, rfl, rfl, ht', rfl, a, M, N, ms, m, ns, r, i, rfl, kp, ok, hml, hnl, dq_of (fun m' e H2 f2 kp2 => ?_) (fun e he cls d H2 f2 nd rf kp2 => ?_)⟩⟩
    · exact at_g rfl (q1 m' e H2 f2 kp2)
    · exact q2 e he cls d H2 f2 rf kp2
  | row gs =>
    obtain ⟨t, g, rfl, ht, hrz⟩ := hd
    have ht' : Sq2 K H t _ := .inr (Same.tup ap_sub ht)
    refine ⟨_, rfl, t, _, _, _, rfl, rfl, ht', rfl, rfl, false, str_ne (by decide +kernel), iteF ⟨_, rfl, t, _, _, _, rfl, rfl, ht', rfl, rfl, true, str_eq, iteT ⟨_, rfl, a, dx, _, rfl, hi, kpF_no (by decide +kernel) (by decide +kernel), _, rfl, t, _, _, _, rfl, rfl, ht', rfl, a, M, N, ms, m, ns, g, gs, rfl, kp, ok, hml, hnl, fun H1 f1 _ => (hrz.same f1.ap).same ap_sub, dq_of (fun m' e H2 f2 kp2 => ?_) (fun e he cls d H2 f2 nd rf kp2 => ?_)⟩⟩⟩
    · exact at_g rfl (q1 m' e H2 f2 kp2)
    · exact q2 e he cls d H2 f2 rf kp2
  | fill r i x =>
    obtain ⟨t, y0, y1, y2, y3, rfl, ht, p0, p1, p2, p3⟩ := dpT4 hd
    obtain rfl := dp_strV p0
    obtain rfl := dp_strV p1
    obtain rfl := dp_intV p2
    obtain rfl := dp_intV p3
    have ht' : Sq2 K H t _ := .inr (Same.tup ap_sub ht)
    refine ⟨_, rfl, t, _, _, _, rfl, rfl, ht', rfl, rfl, false, str_ne (by decide +kernel), iteF ⟨_, rfl, t, _, _, _, rfl, rfl, ht', rfl, rfl, false, str_ne (by decide +kernel), iteF ⟨_, rfl, t, _, _, _, rfl, rfl, ht', rfl, rfl, true, str_eq, iteT ⟨_, rfl, a, dx, _, rfl, hi, kpF_no (by decide +kernel) (by decide +kernel), _, rfl, t, _, _, _, rfl, rfl, ht', rfl, _, rfl, t, _, _, _, rfl, rfl, ht', rfl, _, rfl, t, _, _, _, rfl, rfl, ht', rfl, a, M, N, ms, m, ns, r, i, x, rfl, kp, ok, hml, hnl, dq_of (fun m' e H2 f2 kp2 => ?_) (fun e he cls d H2 f2 nd rf kp2 => ?_)⟩⟩⟩⟩
    · exact at_g rfl (q1 m' e H2 f2 kp2)
    · exact q2 e he cls d H2 f2 rf kp2
  | drain r i x =>
    obtain ⟨t, y0, y1, y2, y3, rfl, ht, p0, p1, p2, p3⟩ := dpT4 hd
    obtain rfl := dp_strV p0
    obtain rfl := dp_strV p1
    obtain rfl := dp_intV p2
    obtain rfl := dp_intV p3
    have ht' : Sq2 K H t _ := .inr (Same.tup ap_sub ht)
    refine ⟨_, rfl, t, _, _, _, rfl, rfl, ht', rfl, rfl, false, str_ne (by decide +kernel), iteF ⟨_, rfl, t, _, _, _, rfl, rfl, ht', rfl, rfl, false, str_ne (by decide +kernel), iteF ⟨_, rfl, t, _, _, _, rfl, rfl, ht', rfl, rfl, false, str_ne (by decide +kernel), iteF ⟨_, rfl, t, _, _, _, rfl, rfl, ht', rfl, rfl, true, str_eq, iteT ⟨_, rfl, a, dx, _, rfl, hi, kpF_no (by decide +kernel) (by decide +kernel), _, rfl, t, _, _, _, rfl, rfl, ht', rfl, _, rfl, t, _, _, _, rfl, rfl, ht', rfl, _, rfl, t, _, _, _, rfl, rfl, ht', rfl, a, M, N, ms, m, ns, r, i, x, rfl, kp, ok, hml, hnl, dq_of (fun m' e H2 f2 kp2 => ?_) (fun e he cls d H2 f2 nd rf kp2 => ?_)⟩⟩⟩⟩⟩
    · exact at_g rfl (q1 m' e H2 f2 kp2)
    · exact q2 e he cls d H2 f2 rf kp2
  | turn i =>
    obtain ⟨t, y0, y1, rfl, ht, p0, p1⟩ := dpT2 hd
    obtain rfl := dp_strV p0
    obtain rfl := dp_intV p1
    have ht' : Sq2 K H t _ := .inr (Same.tup ap_sub ht)
    refine ⟨_, rfl, t, _, _, _, rfl, rfl, ht', rfl, rfl, false, str_ne (by decide +kernel), iteF ⟨_, rfl, t, _, _, _, rfl, rfl, ht', rfl, rfl, false, str_ne (by decide +kernel), iteF ⟨_, rfl, t, _, _, _, rfl, rfl, ht', rfl, rfl, false, str_ne (by decide +kernel), iteF ⟨_, rfl, t, _, _, _, rfl, rfl, ht', rfl, rfl, false, str_ne (by decide +kernel), iteF ⟨_, rfl, t, _, _, _, rfl, rfl, ht', rfl, rfl, true, str_eq, iteT ⟨_, rfl, a, dx, _, rfl, hi, kpF_no (by decide +kernel) (by decide +kernel), _, rfl, t, _, _, _, rfl, rfl, ht', rfl, a, M, N, ms, m, ns, i, rfl, kp, ok, hml, hnl, dq_of (fun m' e H2 f2 kp2 => ?_) (fun e he cls d H2 f2 nd rf kp2 => ?_)⟩⟩⟩⟩⟩⟩
    · exact at_g rfl (q1 m' e H2 f2 kp2)
    · exact q2 e he cls d H2 f2 rf kp2
  | dig p c x y =>
    obtain ⟨t, y0, y1, y2, y3, y4, rfl, ht, p0, p1, p2, p3, p4⟩ := dpT5 hd
    obtain rfl := dp_strV p0
    obtain rfl := dp_intV p1
    obtain rfl := dp_intV p2
    obtain rfl := dp_intV p3
    obtain rfl := dp_intV p4
    have ht' : Sq2 K H t _ := .inr (Same.tup ap_sub ht)
    refine ⟨_, rfl, t, _, _, _, rfl, rfl, ht', rfl, rfl, false, str_ne (by decide +kernel), iteF ⟨_, rfl, t, _, _, _, rfl, rfl, ht', rfl, rfl, false, str_ne (by decide +kernel), iteF ⟨_, rfl, t, _, _, _, rfl, rfl, ht', rfl, rfl, false, str_ne (by decide +kernel), iteF ⟨_, rfl, t, _, _, _, rfl, rfl, ht', rfl, rfl, false, str_ne (by decide +kernel), iteF ⟨_, rfl, t, _, _, _, rfl, rfl, ht', rfl, rfl, false, str_ne (by decide +kernel), iteF ⟨_, rfl, a, dx, _, rfl, hi, kpF_no (by decide +kernel) (by decide +kernel), _, rfl, t, _, _, _, rfl, rfl, ht', rfl, _, rfl, t, _, _, _, rfl, rfl, ht', rfl, _, rfl, t, _, _, _, rfl, rfl, ht', rfl, _, rfl, t, _, _, _, rfl, rfl, ht', rfl, a, M, N, ms, m, ns, p, c, x, y, rfl, kp, ok, hml, hnl, dq_of (fun m' e H2 f2 kp2 => ?_) (fun e he cls d H2 f2 nd rf kp2 => ?_)⟩⟩⟩⟩⟩⟩
    · exact at_g rfl (q1 m' e H2 f2 kp2)
    · exact q2 e he cls d H2 f2 rf kp2
abbrev sDo : Stmt := topS 57
abbrev nDo : List Str := ["_law_house", "_law_deed_here", "_law_found", "_law_caught", "_law_error"]
theorem scDo : FnScope nDo ["_law_house", "_law_deed_here"] (defScope sDo) := ⟨rfl, rfl, rfl, by decide +kernel, rfl, by decide +kernel, by decide +kernel⟩
def spDo (K : PySem.W.Frag) (X : Ks) (C : Addr) : Sp := fun vs H Q _ => ∃ (a M N : Addr) (ms : List Mo) (m : Mo) (ns : List PyData) (v : V) (dd : Dd), vs = [.ref a, v] ∧ Kp K C H a M N (ms ++ [m]) ns ∧ okMo m ∧ ms.length ≤ 900 ∧ ns.length ≤ 900 ∧ DdZ K (ap M N H) v dd ∧
  (∀ m', doR m dd = .ok m' → ∀ H', FrK M N H H' → Kp K C H' a M N (ms ++ [m] ++ [m']) (ns ++ [noteD "in" (nmD dd)] ++ [noteD "out" (nmD dd)]) → Q (tellV dd m') H') ∧
  (∀ e, doR m dd = .error e → ∀ t v H', FrK M N H H' → H' t = some (.tup [.str (nmR e), v]) → FldAt H' e v → Kp K C H' a M N (ms ++ [m]) (ns ++ [noteD "in" (nmD dd)] ++ [noteD "out" (nmD dd)]) → Q (.ref t) H')
theorem ok_do {f fw f0 f1 f2 f3 f4 g0 g1 g2 g3 g4 g5 C : Addr} {fd dw d0 d1 d2 d3 d4 e0 e1 e2 e3 e4 e5 : FuncData} {k : Nat} {X : Ks} (F : Fun K "_law_done" "_law_done" sDo f fd) (kc : KC K C) (wk : WkE K X) (eS : Er P w K mg base "NoBasin" 1 X.S f0 d0 ["self", "basin"] (spI X.S "basin")) (eB : Er P w K mg base "NoBoat" 2 X.B f1 d1 ["self", "going"] (spI X.B "going")) (eD : Er P w K mg base "NoDeed" 1 X.D f2 d2 ["self", "many"] (spI X.D "many")) (eL : Er P w K mg base "NoLock" 1 X.L f3 d3 ["self", "lock"] (spI X.L "lock")) (eO : Er P w K mg base "Short" 2 X.O f4 d4 ["self", "many"] (spI X.O "many"))
    (mGo : MtX P w K mg base k C "go" ["self", "lock", "water"] (spKgo K X C) g0 e0) (mRo : MtX P w K mg base k C "row" ["self", "goings"] (spKro K X C) g1 e1) (mFi : MtX P w K mg base k C "fill" ["self", "water", "basin", "many"] (spKfi K X C) g2 e2) (mDr : MtX P w K mg base k C "drain" ["self", "water", "basin", "many"] (spKdr K X C) g3 e3) (mTu : MtX P w K mg base k C "turn" ["self", "lock"] (spKtu K X C) g4 e4) (mDi : MtX P w K mg base k C "dig" ["self", "a", "c", "x", "y"] (spKdi K X C) g5 e5)
    (Wo : Fns P w K mg base k "_law_word" ["_law_error"] (spWo K X) fw dw) : FnOk P w K mg base CX0 (k + 1) f fd ["_law_house", "_law_deed_here"] (spDo K X C) := by
  refine F.ok scDo (fun vs H Q E h => ?_) (fun cdv A outer s0 H vs Q E hr h => ?_)
  · obtain ⟨a, M, N, ms, m, ns, v, dd, rfl, _⟩ := h
    rfl
  obtain ⟨a, M, N, ms, m, ns, v, dd, rfl, kp, ok, hml, hnl, hd, q1, q2⟩ := h
  refine ⟨_, (pss_cons (ps_asg (pe_tup (pa_cons pe_non (pa_cons pe_non pa_nil))) (pg_any rfl (pgs_cons (pg_name (i := 2) scDo.nd rfl (.inl rfl)) (pgs_cons (pg_name (i := 3) scDo.nd rfl (.inl rfl)) pgs_nil))))
    (pss_cons (ps_try_ct (i := 4) (cs := [.ref X.S, .ref X.B, .ref X.D, .ref X.L, .ref X.O]) (tb := fun W => (tIfS (tTest (tOp rEq (tOp (rIxA K) (tVar 1) (tC (.int 0))) (tC (.str "go")))) (tAsg (tMx C "go" (spKgo K X C) (WE W) (tVar 0) (tCons (tOp (rIxA K) (tVar 1) (tC (.int 1))) (tCons (tOp (rIxA K) (tVar 1) (tC (.int 2))) tNil))) (gName 2)) (tIfS (tTest (tOp rEq (tOp (rIxA K) (tVar 1) (tC (.int 0))) (tC (.str "row")))) (tAsg (tMx C "row" (spKro K X C) (WE W) (tVar 0) (tCons (tOp (rIxA K) (tVar 1) (tC (.int 1))) tNil)) (gName 2)) (tIfS (tTest (tOp rEq (tOp (rIxA K) (tVar 1) (tC (.int 0))) (tC (.str "fill")))) (tAsg (tMx C "fill" (spKfi K X C) (WE W) (tVar 0) (tCons (tOp (rIxA K) (tVar 1) (tC (.int 1))) (tCons (tOp (rIxA K) (tVar 1) (tC (.int 2))) (tCons (tOp (rIxA K) (tVar 1) (tC (.int 3))) tNil)))) (gName 2)) (tIfS (tTest (tOp rEq (tOp (rIxA K) (tVar 1) (tC (.int 0))) (tC (.str "drain")))) (tAsg (tMx C "drain" (spKdr K X C) (WE W) (tVar 0) (tCons (tOp (rIxA K) (tVar 1) (tC (.int 1))) (tCons (tOp (rIxA K) (tVar 1) (tC (.int 2))) (tCons (tOp (rIxA K) (tVar 1) (tC (.int 3))) tNil)))) (gName 2)) (tIfS (tTest (tOp rEq (tOp (rIxA K) (tVar 1) (tC (.int 0))) (tC (.str "turn")))) (tAsg (tMx C "turn" (spKtu K X C) (WE W) (tVar 0) (tCons (tOp (rIxA K) (tVar 1) (tC (.int 1))) tNil)) (gName 2)) (tAsg (tMx C "dig" (spKdi K X C) (WE W) (tVar 0) (tCons (tOp (rIxA K) (tVar 1) (tC (.int 1))) (tCons (tOp (rIxA K) (tVar 1) (tC (.int 2))) (tCons (tOp (rIxA K) (tVar 1) (tC (.int 3))) (tCons (tOp (rIxA K) (tVar 1) (tC (.int 4))) tNil))))) (gName 2)))))))) (ts := fun _ _ _ => tAsg (tVar 4) (gName 3)) rfl rfl scDo.nd rfl rfl (ev_cons rfl eS.g (ev_cons rfl eB.g (ev_cons rfl eD.g (ev_cons rfl eL.g (ev_cons rfl eO.g ev_nil))))) (ext5 _ _ _ _ _) rfl (by show 5 ≤ 1000; decide)
      (fun W pn xe tk _ => pss_one (ps_if (pt_cmpR op_eq (pe_ix (r := rIxA K) ix_any (pv 1) pe_int (fun _ _ => rfl)) pe_str (nomark _)) (pss_one (ps_set (i := 2) scDo.nd rfl (.inl rfl) (pe_mx (pv 0) kc.cl mGo.m mGo.ok (hr.mono (by omega)) mGo.b (fun σ => passAt tk σ) (pa_cons (pe_ix (r := rIxA K) ix_any (pv 1) pe_int (fun _ _ => rfl)) (pa_cons (pe_ix (r := rIxA K) ix_any (pv 1) pe_int (fun _ _ => rfl)) pa_nil))))) (pss_one (ps_if (pt_cmpR op_eq (pe_ix (r := rIxA K) ix_any (pv 1) pe_int (fun _ _ => rfl)) pe_str (nomark _)) (pss_one (ps_set (i := 2) scDo.nd rfl (.inl rfl) (pe_mx (pv 0) kc.cl mRo.m mRo.ok (hr.mono (by omega)) mRo.b (fun σ => passAt tk σ) (pa_cons (pe_ix (r := rIxA K) ix_any (pv 1) pe_int (fun _ _ => rfl)) pa_nil)))) (pss_one (ps_if (pt_cmpR op_eq (pe_ix (r := rIxA K) ix_any (pv 1) pe_int (fun _ _ => rfl)) pe_str (nomark _)) (pss_one (ps_set (i := 2) scDo.nd rfl (.inl rfl) (pe_mx (pv 0) kc.cl mFi.m mFi.ok (hr.mono (by omega)) mFi.b (fun σ => passAt tk σ) (pa_cons (pe_ix (r := rIxA K) ix_any (pv 1) pe_int (fun _ _ => rfl)) (pa_cons (pe_ix (r := rIxA K) ix_any (pv 1) pe_int (fun _ _ => rfl)) (pa_cons (pe_ix (r := rIxA K) ix_any (pv 1) pe_int (fun _ _ => rfl)) pa_nil)))))) (pss_one (ps_if (pt_cmpR op_eq (pe_ix (r := rIxA K) ix_any (pv 1) pe_int (fun _ _ => rfl)) pe_str (nomark _)) (pss_one (ps_set (i := 2) scDo.nd rfl (.inl rfl) (pe_mx (pv 0) kc.cl mDr.m mDr.ok (hr.mono (by omega)) mDr.b (fun σ => passAt tk σ) (pa_cons (pe_ix (r := rIxA K) ix_any (pv 1) pe_int (fun _ _ => rfl)) (pa_cons (pe_ix (r := rIxA K) ix_any (pv 1) pe_int (fun _ _ => rfl)) (pa_cons (pe_ix (r := rIxA K) ix_any (pv 1) pe_int (fun _ _ => rfl)) pa_nil)))))) (pss_one (ps_if (pt_cmpR op_eq (pe_ix (r := rIxA K) ix_any (pv 1) pe_int (fun _ _ => rfl)) pe_str (nomark _)) (pss_one (ps_set (i := 2) scDo.nd rfl (.inl rfl) (pe_mx (pv 0) kc.cl mTu.m mTu.ok (hr.mono (by omega)) mTu.b (fun σ => passAt tk σ) (pa_cons (pe_ix (r := rIxA K) ix_any (pv 1) pe_int (fun _ _ => rfl)) pa_nil)))) (pss_one (ps_set (i := 2) scDo.nd rfl (.inl rfl) (pe_mx (pv 0) kc.cl mDi.m mDi.ok (hr.mono (by omega)) mDi.b (fun σ => passAt tk σ) (pa_cons (pe_ix (r := rIxA K) ix_any (pv 1) pe_int (fun _ _ => rfl)) (pa_cons (pe_ix (r := rIxA K) ix_any (pv 1) pe_int (fun _ _ => rfl)) (pa_cons (pe_ix (r := rIxA K) ix_any (pv 1) pe_int (fun _ _ => rfl)) (pa_cons (pe_ix (r := rIxA K) ix_any (pv 1) pe_int (fun _ _ => rfl)) pa_nil)))))))))))))))))
      (fun a oe cls d pn hz hf => pss_one (ps_set (i := 3) scDo.nd rfl (.inl rfl) (pv 4))))
    (pss_one (ps_ret (pe_ifExp (pt_cmpR op_isN (pv 3) pe_non (nomark _)) (pv 2) (pe_fn Wo hr rfl (pa_cons (pv 3) pa_nil))))))), ?_⟩
  refine ⟨(by show 2 ≤ sizeLine; decide), fun tp ntp => ?_⟩
  have s1 := same_new ntp (o := .tup [.non, .non])
  have e1 : (upd H tp (.tup [.non, .non])) tp = some (.tup [.non, .non]) := upd_same
  have f1 : FrK M N H _ := FrK.of s1
  replace kp := kp.same s1
  replace hd := hd.same f1.ap
  generalize upd H tp (.tup [.non, .non]) = H1 at s1 e1 f1 kp hd
  refine ⟨tp, _, rfl, .inr (.inl (.inl e1)), rfl, _, _, rfl, _, _, rfl, rfl, ?_⟩
  refine at_g (σ' := [some (.ref a), some v, some .non, some .non, none]) rfl ?_
  refine do_go (X := X) kp ok hml hnl hd (fun m' e H2 f2 kp2 => ?_) (fun e he cls d H2 f2 rf kp2 => ?_)
  · refine ⟨_, rfl, rfl, _, rfl, iteT ⟨_, rfl, q1 m' e H2 (f1.trans f2) kp2⟩⟩
  · obtain rfl : cls = .ref (X.at e.j) := by cases e <;> exact rf.1
    refine ⟨wk.xm e.j e.j5, fun a' na => ?_⟩
    obtain ⟨_, ea⟩ := ErAt.kept rf na
    have s3 := same_new na (o := exk a' (.ref (X.at e.j)) (some d))
    refine ⟨_, rfl, ?_⟩
    refine at_g (σ' := [some (.ref a), some v, some .non, some (.ref a'), some (.ref a')]) rfl ?_
    dsimp only
    refine at_s (σ' := [some (.ref a), some v, some .non, some (.ref a'), none]) rfl ?_
    refine ⟨_, rfl, rfl, _, rfl, iteF ⟨_, rfl, a', e, rfl, ea, fun t v H4 s4 et hf => ?_⟩⟩
    exact q2 e he t v H4 (f1.trans (f2.trans (FrK.of (s3.trans s4)))) et hf (kp2.same (s3.trans s4))
end
end XL
namespace XL
open PySem PySem.Spec PyProof.Rows L2
section
variable {K : PySem.W.Frag}
theorem ints_eq {H : Hp} : ∀ {us : List V} {zs : List Int}, DpAll K H us (intsD zs) → us = zs.map V.int
  | [], [], _ => rfl
  | u :: us, z :: zs, h => by
    have h : DpAll K H (u :: us) (.int z :: intsD zs) := h
    cases h with
    | cons h1 h2 =>
      cases h1
      rw [ints_eq h2]
      rfl
  | [], z :: zs, h => by
    have h : DpAll K H [] (.int z :: intsD zs) := h
    cases h
  | u :: us, [], h => by
    have h : DpAll K H (u :: us) [] := h
    cases h
theorem ints_at {H : Hp} {v : V} {zs : List Int} (h : Dp K H v (.tuple (intsD zs))) : ∃ a, v = .ref a ∧ SqT K H a (zs.map V.int) := by
  cases h with
  | tup hs hd =>
    rw [ints_eq hd] at hs
    exact ⟨_, rfl, hs⟩
/-- xs[:i] + (e,) + xs[i + 1:] -/
def tSetU (K : PySem.W.Frag) (ja ji : Nat) (te : TE) : TE := tOp (rCatU K) (tOp (rCatU K) (tSl (rSlU K) (tVar ja) tNoPart (tPart (tVar ji))) (tTup (tCons te tNil))) (tSl (rSlU K) (tVar ja) (tPart (tOp (rI0 fun i j => .int (i + j)) (tVar ji) (tC (.int 1)))) tNoPart)
theorem setU_go {σ : L2.St} {H : Hp} {Q : VK} {ja ji i : Nat} {a : Addr} {xs : List V} {te : TE} (h1 : σ[ja]? = some (some (.ref a))) (h2 : σ[ji]? = some (some (.int (i : Nat)))) (ha : SqT K H a xs) (hi : i < xs.length) (hl : xs.length ≤ 998)
    (q : ∀ H1, Same H H1 → ∀ R : VK, (∀ y H2, Same H1 H2 → (∀ r H3, Same H2 H3 → SqT K H3 r (xs.set i y) → Q (.ref r) H3) → R y H2) → te σ H1 R) : tSetU K ja ji te σ H Q := by
  refine ⟨_, h1, _, h2, _, rfl, a, _, rfl, ha, fun p1 H1 s1 e1 => ?_⟩
  rw [cutTo] at e1
  refine q H1 s1 _ fun y H2 s2 q2 => ⟨(by show 1 ≤ sizeLine; decide), fun p2 n2 => ?_⟩
  have s3 := same_new n2 (o := .tup [y])
  refine ⟨p1, p2, _, _, rfl, rfl, Same.tup (s2.trans s3) e1, .inl (.inl upd_same), ?_, fun p3 H3 s4 e3 => ?_⟩
  · rw [List.length_take]; exact Nat.le_of_lt (small1000 (n := min i xs.length + 1) (by omega))
  have S := s1.trans (s2.trans (s3.trans s4))
  refine ⟨_, h1, _, h2, _, _, rfl, rfl, _, rfl, a, _, rfl, Same.tup S ha, fun p4 H4 s5 e4 => ?_⟩
  rw [show ((i : Nat) : Int) + 1 = ((i + 1 : Nat) : Int) from by omega, cutFrom] at e4
  refine ⟨p3, p4, _, _, rfl, rfl, Same.tup s5 e3, e4, ?_, fun p5 H5 s6 e5 => ?_⟩
  · rw [List.length_append, List.length_take, List.length_drop]; exact Nat.le_of_lt (small1000 (n := min i xs.length + 1 + (xs.length - (i + 1))) (by omega))
  rw [set_cut _ _ _ hi] at e5
  exact q2 p5 H5 (s3.trans (s4.trans (s5.trans s6))) e5
end
section
variable {P : Program} {w : World} {K : PySem.W.Frag} {mg : Str → Option Value} {base : Heap}
/-! ### one number so much more -/
abbrev sWi : Stmt := topS 49
abbrev nWi : List Str := ["_law_some", "_law_spot", "_law_more"]
theorem scWi : FnScope nWi ["_law_some", "_law_spot", "_law_more"] (defScope sWi) := ⟨rfl, rfl, rfl, by decide +kernel, rfl, by decide +kernel, by decide +kernel⟩
def spWi (K : PySem.W.Frag) : Sp := fun vs H Q _ => ∃ (v : V) (zs : List Int) (i : Nat) (x : Int), vs = [v, .int (i : Nat), .int x] ∧ Dp K H v (.tuple (intsD zs)) ∧ i < zs.length ∧ zs.length ≤ 900 ∧ ∀ v' H', Same H H' → Dp K H' v' (.tuple (intsD (zs.set i (zs.getD i 0 + x)))) → Q v' H'
theorem ok_wi {f : Addr} {fd : FuncData} {k : Nat} (F : Fun K "_law_with" "_law_with" sWi f fd) : FnOk P w K mg base CX0 (k + 1) f fd ["_law_some", "_law_spot", "_law_more"] (spWi K) := by
  refine F.ok scWi (fun vs H Q E h => ?_) (fun cdv A outer s0 H vs Q E hr h => ?_)
  · obtain ⟨v, zs, i, x, rfl, _⟩ := h
    rfl
  obtain ⟨v, zs, i, x, rfl, hv, hi, hl, q⟩ := h
  obtain ⟨a, rfl, ha⟩ := ints_at hv
  obtain ⟨y, hy⟩ : ∃ y, zs[i]? = some y := ⟨_, List.getElem?_eq_getElem hi⟩
  rw [show zs.getD i 0 = y from by rw [List.getD_eq_getElem?_getD, hy]; rfl] at q
  refine ⟨_, (pss_one (ps_ret (pe_op op_catU (pe_op op_catU (pe_slice (r := rSlU K) sl_tupU (pv 0) po_none (po_some (pv 1))) (pe_tup (pa_cons (pe_op op_add (pe_ix (r := rIxA K) ix_any (pv 0) (pv 1) (fun _ _ => rfl)) (pv 2)) pa_nil))) (pe_slice (r := rSlU K) sl_tupU (pv 0) (po_some (pe_op op_add (pv 1) pe_int)) po_none)))), ?_⟩
  refine setU_go (K := K) rfl rfl ha (by rw [List.length_map]; exact hi) (by rw [List.length_map]; omega) fun H1 s1 R hR => ?_
  refine ⟨_, rfl, _, rfl, a, _, _, _, rfl, rfl, .inr (Same.tup s1 ha), atI_nat (by rw [List.getElem?_map, hy]; rfl), _, rfl, _, _, rfl, rfl, hR _ _ (Same.refl _) fun r H3 s3 e3 => ?_⟩
  refine q (.ref r) H3 (s1.trans s3) (.tup e3 ?_)
  rw [← List.map_set (f := V.int)]
  exact dp_ints _
/-! ### the book's first moment -/
abbrev sBg : Stmt := topS 50
abbrev nBg : List Str := ["_law_ship_way", "_law_lying_here", "_law_nought"]
theorem scBg : FnScope nBg ["_law_ship_way", "_law_lying_here"] (defScope sBg) := ⟨rfl, rfl, rfl, by decide +kernel, rfl, by decide +kernel, by decide +kernel⟩
theorem rep_nought (n : Nat) : (List.replicate n [V.int 0]).flatten = (List.replicate n (0 : Int)).map V.int := by
  induction n with
  | zero => rfl
  | succ n ih => rw [List.replicate_succ, List.flatten_cons, ih, List.replicate_succ]; rfl
theorem nat_cn {c : Cn} {W U : Nat} (ok : okCn W U c) : ((c.r.toNat : Nat) : Int) = c.r ∧ ((c.b.toNat : Nat) : Int) = c.b := by
  have := ok.r1; have := ok.b1
  omega
def spBg (K : PySem.W.Frag) : Sp := fun vs H Q _ => ∃ (v u : V) (c : Cn) (s : Sn), vs = [v, u] ∧ Dp K H v (cnD c) ∧ Dp K H u (snD s) ∧ okCn 100 100 c ∧ ∀ v' H', Same H H' → Dp K H' v' (moD (mo0 c s)) → Q v' H'
theorem ok_bg {f : Addr} {fd : FuncData} {k : Nat} (F : Fun K "_law_begun" "_law_begun" sBg f fd) (m_len : mg "len" = none) : FnOk P w K mg base CX0 (k + 1) f fd ["_law_ship_way", "_law_lying_here"] (spBg K) := by
  refine F.ok scBg (fun vs H Q E h => ?_) (fun cdv A outer s0 H vs Q E hr h => ?_)
  · obtain ⟨v, u, c, s, rfl, _⟩ := h
    rfl
  obtain ⟨v, u, c, s, rfl, hc, hs, okc, q⟩ := h
  obtain ⟨a, g, gs, rfl, ha, hg, hgs⟩ := cn_of hc
  have hgl : gs.length = c.ls.length := by rw [DpAll.length hgs, List.length_map]
  obtain ⟨er, eb⟩ := nat_cn okc
  have r2 := okc.r2; have b2 := okc.b2; have ln := okc.n; have r1 := okc.r1; have b1 := okc.b1
  refine ⟨_, (pss_cons (ps_set (i := 2) scBg.nd rfl (.inl rfl) (pe_op op_repU (pe_tup (pa_cons pe_int pa_nil)) (pe_callB (r := rLenA K) call_lenA rfl m_len PySem.boot_len (pa_cons (pe_ix (r := rIxA K) ix_any (pv 0) pe_int (fun _ _ => rfl)) pa_nil))))
    (pss_one (ps_ret (pe_tup (pa_cons (pv 0) (pa_cons (pv 1) (pa_cons (pe_tup (pa_cons (pe_op op_repU (pe_tup (pa_cons pe_int pa_nil)) (pe_ix (r := rIxA K) ix_any (pv 0) pe_int (fun _ _ => rfl))) (pa_cons (pe_op op_repU (pe_tup (pa_cons pe_int pa_nil)) (pe_ix (r := rIxA K) ix_any (pv 0) pe_int (fun _ _ => rfl))) (pa_cons (pv 2) pa_nil)))) (pa_cons (pe_tup (pa_cons (pv 2) (pa_cons (pv 2) pa_nil))) pa_nil)))))))), ?_⟩
  refine ⟨(by show 1 ≤ sizeLine; decide), fun t1 n1 => ?_⟩
  have s1 := same_new n1 (o := .tup [.int 0])
  have e1 : (upd H t1 (.tup [.int 0])) t1 = some (.tup [.int 0]) := upd_same
  generalize upd H t1 (.tup [.int 0]) = H1 at s1 e1
  refine ⟨_, rfl, a, _, _, _, rfl, rfl, .inr (Same.tup s1 ha), rfl, nil_go ⟨g, gs, rfl, .inr (Same.tup s1 hg), t1, _, _, rfl, rfl, .inl (.inl e1), by simp, by omega, by omega, by decide, fun p1 H2 s2 e2 => ?_⟩⟩
  rw [Int.toNat_natCast, hgl, rep_nought] at e2
  replace s2 := s1.trans s2
  refine at_g (σ' := [some (.ref a), some u, some (.ref p1)]) rfl ?_
  refine ⟨_, rfl, _, rfl, (by show 1 ≤ sizeLine; decide), fun t2 n2 => ?_⟩
  have s3 := same_new n2 (o := .tup [.int 0])
  have e3 : (upd H2 t2 (.tup [.int 0])) t2 = some (.tup [.int 0]) := upd_same
  generalize upd H2 t2 (.tup [.int 0]) = H3 at s3 e3
  refine ⟨_, rfl, a, _, _, _, rfl, rfl, .inr (Same.tup (s2.trans s3) ha), rfl, t2, _, _, rfl, rfl, .inl (.inl e3), by simp, by omega, by omega, by decide, fun p2 H4 s4 e4 => ?_⟩
  rw [rep_nought] at e4
  replace s3 := s3.trans s4
  refine ⟨(by show 1 ≤ sizeLine; decide), fun t3 n3 => ?_⟩
  have s5 := same_new n3 (o := .tup [.int 0])
  have e5 : (upd H4 t3 (.tup [.int 0])) t3 = some (.tup [.int 0]) := upd_same
  generalize upd H4 t3 (.tup [.int 0]) = H5 at s5 e5
  refine ⟨_, rfl, a, _, _, _, rfl, rfl, .inr (Same.tup (s2.trans (s3.trans s5)) ha), rfl, t3, _, _, rfl, rfl, .inl (.inl e5), by simp, by omega, by omega, by decide, fun p3 H6 s6 e6 => ?_⟩
  rw [rep_nought] at e6
  replace s5 := s5.trans s6
  refine ⟨_, rfl, (by show 3 ≤ sizeLine; decide), fun t4 n4 => ?_⟩
  have s7 := same_new n4 (o := .tup [.ref p2, .ref p3, .ref p1])
  have e7 : (upd H6 t4 (.tup [.ref p2, .ref p3, .ref p1])) t4 = some (.tup [.ref p2, .ref p3, .ref p1]) := upd_same
  generalize upd H6 t4 (.tup [.ref p2, .ref p3, .ref p1]) = H7 at s7 e7
  refine ⟨_, rfl, _, rfl, (by show 2 ≤ sizeLine; decide), fun t5 n5 => ?_⟩
  have s8 := same_new n5 (o := .tup [.ref p1, .ref p1])
  have e8 : (upd H7 t5 (.tup [.ref p1, .ref p1])) t5 = some (.tup [.ref p1, .ref p1]) := upd_same
  generalize upd H7 t5 (.tup [.ref p1, .ref p1]) = H8 at s8 e8
  refine ⟨(by show 4 ≤ sizeLine; decide), fun t6 n6 => ?_⟩
  have s9 := same_new n6 (o := .tup [.ref a, u, .ref t4, .ref t5])
  have d1 : SqT K (upd H8 t6 (.tup [.ref a, u, .ref t4, .ref t5])) p1 _ := Same.tup (s3.trans (s5.trans (s7.trans (s8.trans s9)))) e2
  have d2 : SqT K (upd H8 t6 (.tup [.ref a, u, .ref t4, .ref t5])) p2 _ := Same.tup (s5.trans (s7.trans (s8.trans s9))) e4
  have d3 : SqT K (upd H8 t6 (.tup [.ref a, u, .ref t4, .ref t5])) p3 _ := Same.tup (s7.trans (s8.trans s9)) e6
  have S := s2.trans (s3.trans (s5.trans (s7.trans (s8.trans s9))))
  refine q (.ref t6) _ S (.tup (.inl (.inl upd_same)) (.cons (Dp.same S _ hc) (.cons (Dp.same S _ hs) (.cons ?_ (.cons ?_ .nil)))))
  · exact .tup (.inl (.inl (s9 _ _ (s8 _ _ e7)))) (.cons (.tup d2 (dp_ints _)) (.cons (.tup d3 (dp_ints _)) (.cons (.tup d1 (dp_ints _)) .nil)))
  · exact .tup (.inl (.inl (s9 _ _ e8))) (.cons (.tup d1 (dp_ints _)) (.cons (.tup d1 (dp_ints _)) .nil))
/-! ### what is due of a book's moment -/
abbrev sTd : Stmt := topS 60
abbrev nTd : List Str := ["_law_s", "_law_hands_so", "_law_nets", "_law_part"]
theorem scTd : FnScope nTd ["_law_s"] (defScope sTd) := ⟨rfl, rfl, rfl, by decide +kernel, rfl, by decide +kernel, by decide +kernel⟩
def spTd (K : PySem.W.Frag) : Sp := fun vs H Q _ => ∃ (v : V) (m : Mo), vs = [v] ∧ Dp K H v (moD m) ∧ m.h.length ≤ 1000 ∧ m.w.length ≤ 1000 ∧ ∀ v' H', Same H H' → Dp K H' v' (toD m) → Q v' H'
theorem ok_td {f : Addr} {fd : FuncData} {k : Nat} (F : Fun K "_law_told_due" "_law_told_due" sTd f fd) (m_list : mg "list" = none) (m_tuple : mg "tuple" = none) (m_len : mg "len" = none) : FnOk P w K mg base CX0 (k + 1) f fd ["_law_s"] (spTd K) := by
  refine F.ok scTd (fun vs H Q E h => ?_) (fun cdv A outer s0 H vs Q E hr h => ?_)
  · obtain ⟨v, m, rfl, _⟩ := h
    rfl
  obtain ⟨v, m, rfl, dv, hlen1, hlen2, q⟩ := h
  obtain ⟨t, vc, vs2, vh, vw, rfl, ht, hc, hs, hh, hw⟩ := mo_of dv
  obtain ⟨g, gg, gs, rfl, hg, hgg, hgs⟩ := cn_of hc
  have hgl : gs.length = m.c.ls.length := by rw [DpAll.length hgs, List.length_map]
  obtain ⟨b1, xs1, rfl, hb1, hxl1, _, hel1⟩ := pss_of hh
  obtain ⟨b2, xs2, rfl, hb2, hxl2, _, hel2⟩ := pss_of hw
  refine ⟨_, (pss_cons (ps_par (i := 1) (j := 2) rfl scTd.nd rfl rfl (by decide) rfl rfl (pa_cons (pe_callTy (r := rTupA K) call_tupleA rfl m_tuple boot_tuple (pa_cons (pe_lc (own := [("_law_part", 3)]) (g := gName 3) (tt := tYes) rfl scTd.nd (pi_seq (pe_ix (r := rIxA K) ix_any (pv 0) pe_int (fun _ _ => rfl))) (blkOk_by (own := [("_law_part", 3)]) (N := nTd) (sc := defScope sTd) (by decide +kernel)) (fun _ _ _ _ _ => (pg_name (i := 3) scTd.nd rfl (.inl rfl))) (fun _ _ _ _ _ => pts_nil) (fun _ _ _ _ _ => pe_hide (pe_callTy (r := rLstA K) call_listA rfl m_list boot_list (pa_cons (pv 3) pa_nil)))) pa_nil)) (pa_cons (pe_callTy (r := rTupA K) call_tupleA rfl m_tuple boot_tuple (pa_cons (pe_lc (own := [("_law_part", 3)]) (g := gName 3) (tt := tYes) rfl scTd.nd (pi_seq (pe_ix (r := rIxA K) ix_any (pv 0) pe_int (fun _ _ => rfl))) (blkOk_by (own := [("_law_part", 3)]) (N := nTd) (sc := defScope sTd) (by decide +kernel)) (fun _ _ _ _ _ => (pg_name (i := 3) scTd.nd rfl (.inl rfl))) (fun _ _ _ _ _ => pts_nil) (fun _ _ _ _ _ => pe_hide (pe_callTy (r := rLstA K) call_listA rfl m_list boot_list (pa_cons (pv 3) pa_nil)))) pa_nil)) pa_nil)) rfl)
    (pss_one (ps_ret (pe_lst (pa_cons (pe_ix (r := rIxA K) ix_any (pv 0) pe_int (fun _ _ => rfl)) (pa_cons (pe_ix (r := rIxA K) ix_any (pv 0) pe_int (fun _ _ => rfl)) (pa_cons (pv 1) (pa_cons (pv 2) (pa_cons (pe_callB (r := rLenA K) call_lenA rfl m_len PySem.boot_len (pa_cons (pe_ix (r := rIxA K) ix_any (pe_ix (r := rIxA K) ix_any (pv 0) pe_int (fun _ _ => rfl)) pe_int (fun _ _ => rfl)) pa_nil)) pa_nil))))))))), ?_⟩
  refine ⟨_, rfl, t, _, _, _, rfl, rfl, .inr (ht), rfl, b1, xs1, rfl, .inr (hb1), fun J wk => lc_map wk Same (fun a b => a.trans b) (fun j y F => ∃ l zs, y = .ref l ∧ m.h[j]? = some zs ∧ F l = some (.lst (zs.map V.int))) (fun j y A B s p => by obtain ⟨l, zs, e1, e2, e3⟩ := p; exact ⟨l, zs, e1, e2, s _ _ e3⟩) (by rw [hxl1]; exact small1000 hlen1) (Same.refl _) (fun F D acc sF nF => ?_) (fun j x D acc F H' hj nD sF nF hy B hB => ?_) (fun D1 ys F nD sF nF hyl hR => ?_)⟩
  · have sD := sF.trans (same_new nF (o := .lst acc))
    exact ⟨fun _ z => sD.seq z, fun z => Same.tup sD z⟩
  · obtain ⟨rfl, hx⟩ := hy
    obtain ⟨zs, hz⟩ : ∃ zs, m.h[j]? = some zs := ⟨_, List.getElem?_eq_getElem (by have := (List.getElem?_eq_some_iff.mp hx).1; omega)⟩
    obtain ⟨u, rfl, hu⟩ := hel1 j x zs hx hz
    refine hB _ F rfl nF fun Qt hq => ?_
    refine ⟨_, rfl, nil_go ⟨u, _, rfl, .inr (Same.tup sF hu), fun l nl => ?_⟩⟩
    exact hq _ _ (same_new nl) ⟨l, zs, rfl, hz, upd_same⟩
  have sD1 := same_new nF (o := .lst ys)
  refine nil_go ⟨D1, ys, rfl, .inl ⟨SqL.of upd_same, fun l1 nl1 => ?_⟩⟩
  have sl1 := same_new nl1 (o := .tup ys)
  have S1 := (sF.trans (sD1.trans sl1))
  have dl1 : Dp K (upd (upd F D1 (.lst ys)) l1 (.tup ys)) (.ref l1) (plsD m.h) := .tup (.inl (.inl upd_same)) (dpAll_mk (by rw [hyl, hxl1, List.length_map]) fun j y d h1 h2 => by
    obtain ⟨l2, zs, rfl, hz, e3⟩ := hR j y h1
    rw [List.getElem?_map, hz] at h2
    obtain rfl := Option.some.inj h2
    exact .lst (SqL.of (sl1 _ _ (sD1 _ _ e3))) (dp_ints _))
  generalize upd (upd F D1 (.lst ys)) l1 (.tup ys) = Z1 at S1 dl1
  clear hR hyl nF sF nD sD1 sl1 nl1
  refine ⟨_, rfl, t, _, _, _, rfl, rfl, .inr (Same.tup S1 ht), rfl, b2, xs2, rfl, .inr (Same.tup S1 hb2), fun J wk => lc_map wk Same (fun a b => a.trans b) (fun j y F => ∃ l zs, y = .ref l ∧ m.w[j]? = some zs ∧ F l = some (.lst (zs.map V.int))) (fun j y A B s p => by obtain ⟨l, zs, e1, e2, e3⟩ := p; exact ⟨l, zs, e1, e2, s _ _ e3⟩) (by rw [hxl2]; exact small1000 hlen2) (Same.refl _) (fun F D acc sF nF => ?_) (fun j x D acc F H' hj nD sF nF hy B hB => ?_) (fun D2 ys F nD sF nF hyl hR => ?_)⟩
  · have sD := sF.trans (same_new nF (o := .lst acc))
    exact ⟨fun _ z => sD.seq z, fun z => Same.tup sD z⟩
  · obtain ⟨rfl, hx⟩ := hy
    obtain ⟨zs, hz⟩ : ∃ zs, m.w[j]? = some zs := ⟨_, List.getElem?_eq_getElem (by have := (List.getElem?_eq_some_iff.mp hx).1; omega)⟩
    obtain ⟨u, rfl, hu⟩ := hel2 j x zs hx hz
    refine hB _ F rfl nF fun Qt hq => ?_
    refine ⟨_, rfl, nil_go ⟨u, _, rfl, .inr (Same.tup (S1.trans sF) hu), fun l nl => ?_⟩⟩
    exact hq _ _ (same_new nl) ⟨l, zs, rfl, hz, upd_same⟩
  have sD2 := same_new nF (o := .lst ys)
  refine nil_go ⟨D2, ys, rfl, .inl ⟨SqL.of upd_same, fun l2 nl2 => ?_⟩⟩
  have sl2 := same_new nl2 (o := .tup ys)
  have S2 := (S1.trans (sF.trans (sD2.trans sl2)))
  have dl2 : Dp K (upd (upd F D2 (.lst ys)) l2 (.tup ys)) (.ref l2) (plsD m.w) := .tup (.inl (.inl upd_same)) (dpAll_mk (by rw [hyl, hxl2, List.length_map]) fun j y d h1 h2 => by
    obtain ⟨l2, zs, rfl, hz, e3⟩ := hR j y h1
    rw [List.getElem?_map, hz] at h2
    obtain rfl := Option.some.inj h2
    exact .lst (SqL.of (sl2 _ _ (sD2 _ _ e3))) (dp_ints _))
  have dk1 := Dp.same (sF.trans (sD2.trans sl2)) _ dl1
  generalize upd (upd F D2 (.lst ys)) l2 (.tup ys) = Z2 at S2 dl2 dk1
  clear hR hyl nF sF nD sD2 sl2 nl2
  refine ⟨_, _, rfl, ?_⟩
  refine at_s (σ' := [some (.ref t), some (.ref l1), some (.ref l2), none]) rfl ?_
  refine ⟨_, rfl, t, _, _, _, rfl, rfl, .inr (Same.tup S2 ht), rfl, _, rfl, t, _, _, _, rfl, rfl, .inr (Same.tup S2 ht), rfl, _, rfl, _, rfl, _, rfl, t, _, _, _, rfl, rfl, .inr (Same.tup S2 ht), rfl, g, _, _, _, rfl, rfl, .inr (Same.tup S2 hg), rfl, nil_go ⟨gg, gs, rfl, .inr (Same.tup S2 hgg), (by show 5 ≤ sizeLine; decide), fun L nL => ?_⟩⟩
  rw [hgl]
  have s3 := same_new nL (o := .lst [.ref g, vs2, .ref l1, .ref l2, .int m.c.ls.length])
  have S3 := S2.trans s3
  exact q (.ref L) _ S3 (.lst (SqL.of upd_same) (.cons (Dp.same S3 _ hc) (.cons (Dp.same S3 _ hs) (.cons (Dp.same s3 _ dk1) (.cons (Dp.same s3 _ dl2) (.cons (.int _) .nil))))))
end
end XL
namespace XL
open PySem PySem.Spec PyProof.Rows L2
theorem mv_eqv (m m' : Mv) : PyData.eqv (mvD m) (mvD m') = decide (m = m') := by
  obtain ⟨i, r⟩ := m
  obtain ⟨j, q⟩ := m'
  have e : PyData.eqv (mvD (i, r)) (mvD (j, q)) = (((i : Int) == (j : Int)) && (wS r == wS q)) := by simp [mvD, PyData.eqv, PyData.eqvAll]
  have hs : (wS r == wS q) = decide (r = q) := by cases r <;> cases q <;> decide +kernel
  have hi : ((i : Int) == (j : Int)) = decide (i = j) := by
    by_cases h : i = j
    · rw [h, decide_eq_true rfl]; exact beq_self_eq_true _
    · rw [decide_eq_false h]; exact beq_eq_false_iff_ne.mpr (fun z => h (by omega))
  rw [e, hs, hi]
  by_cases h1 : i = j
  · by_cases h3 : r = q
    · rw [h1, h3]; simp
    · rw [decide_eq_false h3, decide_eq_false (fun z => h3 (Prod.mk.inj z).2), Bool.and_false]
  · rw [decide_eq_false h1, decide_eq_false (fun z => h1 (Prod.mk.inj z).1)]; rfl
theorem any_mv (m : Mv) : ∀ ms : List Mv, ((ms.map mvD).any fun z => PyData.eqv z (mvD m)) = decide (m ∈ ms)
  | [] => rfl
  | x :: ms => by
    rw [List.map_cons, List.any_cons, any_mv m ms, mv_eqv]
    by_cases h : x = m
    · rw [decide_eq_true h, Bool.true_or, decide_eq_true (show m ∈ x :: ms by rw [h]; exact List.mem_cons_self ..)]
    · rw [decide_eq_false h, Bool.false_or]
      by_cases h2 : m ∈ ms
      · rw [decide_eq_true h2, decide_eq_true (List.mem_cons_of_mem _ h2)]
      · rw [decide_eq_false h2, decide_eq_false (fun z => by rcases List.mem_cons.mp z with q | q; exact h q.symm; exact h2 q)]
/-! ### what the book tells of a deed -/
def resD (t : Mo → PyData) : Res → PyData
  | .ok m' => .tuple [t m', moD m']
  | .error e => .tuple [Wd e, .none]
theorem dp2 {K : PySem.W.Frag} {H : Hp} {t : Addr} {x y : V} {a b : PyData} (h : H t = some (.tup [x, y])) (hx : Dp K H x a) (hy : Dp K H y b) : Dp K H (.ref t) (.tuple [a, b]) := .tup (.inl (.inl h)) (.cons hx (.cons hy .nil))
theorem setP_go {K : PySem.W.Frag} {σ : L2.St} {H : Hp} {Q : VK} {ja ji p : Nat} {a : Addr} {pss : List (List Int)} {zs : List Int} {te : TE} (h1 : σ[ja]? = some (some (.ref a))) (h2 : σ[ji]? = some (some (.int (p : Nat)))) (hd : Dp K H (.ref a) (pssD pss)) (hp : p < pss.length) (hl : pss.length ≤ 998)
    (q : ∀ H1, Same H H1 → ∀ R : VK, (∀ y H2, Same H1 H2 → Dp K H2 y (.tuple (intsD zs)) → R y H2) → te σ H1 R) (f : ∀ r H3, Same H H3 → Dp K H3 (.ref r) (pssD (pss.set p zs)) → Q (.ref r) H3) : tSetU K ja ji te σ H Q := by
  obtain ⟨b, xs, e, hb, hxl, hall, hel⟩ := pss_of hd
  cases e
  refine setU_go h1 h2 hb (by rw [hxl]; exact hp) (by rw [hxl]; exact hl) fun H1 s1 R hR => q H1 s1 R fun y H2 s2 d2 => hR y H2 s2 fun r H3 s3 e3 => f r H3 (s1.trans (s2.trans s3)) ?_
  show Dp K H3 (.ref r) (.tuple ((pss.set p zs).map fun zs => .tuple (intsD zs)))
  rw [List.map_set]
  exact .tup e3 (dpall_set (DpAll.same (s1.trans (s2.trans s3)) _ hall) (Dp.same s3 _ d2))
theorem one_less {m : Mo} (ok : okMo m) {j : Nat} (hj : j < m.c.ls.length) : 1 - 2 * gt m.s.ls j = upD m j := by
  obtain ⟨B, os⟩ := ok.s
  have h := os.l0 _ (mem_getD (zs := m.s.ls) (i := j) (by rw [os.n]; exact hj))
  unfold upD
  rw [gt_nat, show ((j : Nat) : Int).toNat = j from by omega]
  rcases h with h | h <;> rw [h] <;> rfl
theorem plW_eq (r : Bool) : (if decide (V.str (wS r) = V.str "blue") = true then (1 : Int) else 0) = ((plW r : Nat) : Int) := by cases r <;> decide +kernel
/-- the tuple of two that a refusal is -/
def tRef (te : TE) : TE := tTup (tCons te (tCons (tC .non) tNil))
section
variable {P : Program} {w : World} {K : PySem.W.Frag} {mg : Str → Option Value} {base : Heap}
abbrev sWb : Stmt := topS 51
abbrev nWb : List Str := ["_law_s", "_law_gate", "_law_hue", "_law_ship_way", "_law_lying_here", "_law_hands_on", "_law_nets", "_law_more", "_law_part", "_law_later"]
theorem scWb : FnScope nWb ["_law_s", "_law_gate", "_law_hue"] (defScope sWb) := ⟨rfl, rfl, rfl, by decide +kernel, rfl, by decide +kernel, by decide +kernel⟩
def spWb (K : PySem.W.Frag) : Sp := fun vs H Q _ => ∃ (v : V) (m : Mo) (i : Int) (r : Bool), vs = [v, .int i, .str (wS r)] ∧ Dp K H v (moD m) ∧ okMo m ∧ ∀ v' H', Same H H' → Dp K H' v' (resD (fun _ => .none) (goR m i r)) → Q v' H'
theorem ok_wb {f fs fw fb : Addr} {fd fds fdw fdb : FuncData} {k : Nat} (F : Fun K "_law_went_by" "_law_went_by" sWb f fd) (St : Fns P w K mg base k "_law_steps" ["_law_ship_way", "_law_lying_here"] (spSt K) fs fds) (Wi : Fns P w K mg base k "_law_with" ["_law_some", "_law_spot", "_law_more"] (spWi K) fw fdw) (Be : Fns P w K mg base k "_law_behind" ["_law_ship_way", "_law_lying_here", "_law_hop"] (spBe K) fb fdb) (m_len : mg "len" = none) (m_int : mg "int" = none) : FnOk P w K mg base CX0 (k + 1) f fd ["_law_s", "_law_gate", "_law_hue"] (spWb K) := by
  refine F.ok scWb (fun vs H Q E h => ?_) (fun cdv A outer s0 H vs Q E hr h => ?_)
  · obtain ⟨v, m, i, r, rfl, _⟩ := h
    rfl
  obtain ⟨v, m, i, r, rfl, dv, ok, q⟩ := h
  refine ⟨_, (pss_cons (ps_asg (pv 0) (pg_any rfl (pgs_cons (pg_name (i := 3) scWb.nd rfl (.inl rfl)) (pgs_cons (pg_name (i := 4) scWb.nd rfl (.inl rfl)) (pgs_cons (pg_name (i := 5) scWb.nd rfl (.inl rfl)) (pgs_cons (pg_name (i := 6) scWb.nd rfl (.inl rfl)) pgs_nil))))))
    (pss_cons (ps_if (pt_not (pt_chain op_le op_lt pe_int (pv 1) (pe_callB (r := rLenA K) call_lenA rfl m_len PySem.boot_len (pa_cons (pe_ix (r := rIxA K) ix_any (pv 3) pe_int (fun _ _ => rfl)) pa_nil)))) (pss_one (ps_ret (pe_tup (pa_cons (pe_tup (pa_cons pe_str (pa_cons (pv 1) pa_nil))) (pa_cons pe_non pa_nil))))) pss_nil)
    (pss_cons (ps_if (pt_cmpR (op_notInD (room65 hr)) (pe_tup (pa_cons (pv 1) (pa_cons (pv 2) pa_nil))) (pe_fn St hr rfl (pa_cons (pv 3) (pa_cons (pv 4) pa_nil))) (by rfl)) (pss_one (ps_ret (pe_tup (pa_cons (pe_tup (pa_cons pe_str (pa_cons (pe_tup (pa_cons (pv 1) (pa_cons (pv 2) pa_nil))) pa_nil))) (pa_cons pe_non pa_nil))))) pss_nil)
    (pss_cons (ps_par (i := 7) (j := 8) rfl scWb.nd rfl rfl (by decide) rfl rfl (pa_cons (pe_op op_sub pe_int (pe_op op_mul pe_int (pe_ix (r := rIxA K) ix_any (pe_ix (r := rIxA K) ix_any (pv 4) pe_int (fun _ _ => rfl)) (pv 1) (fun _ _ => rfl)))) (pa_cons (pe_callTy call_int1 rfl m_int boot_int' (pa_cons (pe_cmpR op_eq (pv 2) pe_str (nomark _)) pa_nil)) pa_nil)) rfl)
    (pss_cons (ps_set (i := 9) scWb.nd rfl (.inl rfl) (pe_op op_catU (pe_op op_catU (pe_slice (r := rSlU K) sl_tupU (pv 6) po_none (po_some (pv 8))) (pe_tup (pa_cons (pe_fn Wi hr rfl (pa_cons (pe_ix (r := rIxA K) ix_any (pv 6) (pv 8) (fun _ _ => rfl)) (pa_cons (pv 1) (pa_cons (pv 7) pa_nil)))) pa_nil))) (pe_slice (r := rSlU K) sl_tupU (pv 6) (po_some (pe_op op_add (pv 8) pe_int)) po_none)))
    (pss_one (ps_ret (pe_tup (pa_cons pe_non (pa_cons (pe_tup (pa_cons (pv 3) (pa_cons (pe_fn Be hr rfl (pa_cons (pv 3) (pa_cons (pv 4) (pa_cons (pe_tup (pa_cons (pv 1) (pa_cons (pv 2) pa_nil))) pa_nil)))) (pa_cons (pv 5) (pa_cons (pv 9) pa_nil))))) pa_nil)))))))))), ?_⟩
  obtain ⟨a, vc, vs, vh, vw, rfl, ha, hc, hs, hh, hw⟩ := mo_of dv
  obtain ⟨g, gg, gs, rfl, hg, hgg, hgs⟩ := cn_of hc
  have hgl : gs.length = m.c.ls.length := by rw [DpAll.length hgs, List.length_map]
  obtain ⟨sa, ar, ab, al, rfl, hsa, har, hab, hal⟩ := sn_of hs
  obtain ⟨B, os⟩ := ok.s
  have hnl := ok.c.n
  unfold goR at q
  refine ⟨_, rfl, a, _, rfl, .inr ha, rfl, _, _, rfl, _, _, rfl, _, _, rfl, _, _, rfl, rfl, ?_⟩
  refine at_s (σ' := [some (.ref a), some (.int i), some (.str (wS r)), some (.ref g), some (.ref sa), some vh, some vw, none, none, none]) rfl ?_
  have nolock : ¬ inB i m.c.ls.length → ((tRet (tTup (tCons (tTup (tCons (tC (.str "NoLock")) (tCons (tVar 1) tNil))) (tCons (tC .non) tNil)))) : TS) { nx := fun x H' => Q V.non H', rt := Q } [some (.ref a), some (.int i), some (.str (wS r)), some (.ref g), some (.ref sa), some vh, some vw, none, none, none] H := fun hn => by
    rw [if_neg hn] at q
    refine ⟨_, rfl, (by show 2 ≤ sizeLine; decide), fun t nt => ⟨(by show 2 ≤ sizeLine; decide), fun t2 nt2 => ?_⟩⟩
    have s2 := same_new nt2 (o := .tup [.ref t, .non])
    exact q (.ref t2) _ ((same_new nt).trans s2) (dp2 upd_same (dp2 (s2 _ _ upd_same) (.str _) (.int _)) .non)
  by_cases hi0 : 0 ≤ i
  rotate_left
  · refine ⟨_, rfl, _, _, rfl, rfl, false, congrArg V.bl (decide_eq_false hi0), _, rfl, iteT (nolock fun z => hi0 z.1)⟩
  by_cases hi1 : i < m.c.ls.length
  rotate_left
  · refine ⟨_, rfl, _, _, rfl, rfl, true, congrArg V.bl (decide_eq_true hi0), iteT ⟨_, rfl, g, _, _, _, rfl, rfl, .inr hg, rfl, nil_go ⟨gg, gs, rfl, .inr hgg, _, _, rfl, rfl, _, rfl, ?_⟩⟩⟩
    rw [hgl, decide_eq_false hi1]
    exact iteT (nolock fun z => hi1 z.2)
  refine ⟨_, rfl, _, _, rfl, rfl, true, congrArg V.bl (decide_eq_true hi0), iteT ⟨_, rfl, g, _, _, _, rfl, rfl, .inr hg, rfl, nil_go ⟨gg, gs, rfl, .inr hgg, _, _, rfl, rfl, _, rfl, ?_⟩⟩⟩
  rw [hgl, decide_eq_true hi1]
  refine iteF ?_
  rw [if_pos (show inB i m.c.ls.length from ⟨hi0, hi1⟩)] at q
  clear nolock
  obtain ⟨j, rfl⟩ : ∃ j : Nat, i = j := ⟨i.toNat, by omega⟩
  rw [show ((j : Nat) : Int).toNat = j from by omega] at q
  have hj : j < m.c.ls.length := by omega
  have hjl : ((j : Nat) : Int) < (m.s.ls.length : Nat) := by rw [os.n]; exact hi1
  refine ⟨_, rfl, _, rfl, (by show 2 ≤ sizeLine; decide), fun t nt => ⟨_, rfl, _, rfl, nil_go ⟨.ref g, .ref sa, m.c, m.s, B, rfl, Dp.same (same_new nt) _ hc, snAny_t (Dp.same (same_new nt) _ hs), ok.c, os, fun p us H1 s1 np M => ?_⟩⟩⟩
  have st := same_new nt (o := .tup (mvV (j, r)))
  have et : H1 t = some (.tup (mvV (j, r))) := s1 _ _ upd_same
  have S1 := st.trans s1
  refine ⟨mvD (j, r), (may m.c m.s m.c.ls.length).map mvD, dp2 et (.int _) (.str _), .lst (SqL.of M.e) (MvAt.dp (a := p) M.l M.d), mv_shaped _, mvs_shaped _, _, rfl, ?_⟩
  rw [any_mv]
  by_cases hb : hasB m.c m.s j r = true
  rotate_left
  · rw [decide_eq_false (fun z => hb (mem_may.mp z).2)]
    rw [if_neg hb] at q
    refine iteT ⟨_, rfl, _, rfl, (by show 2 ≤ sizeLine; decide), fun t2 nt2 => ⟨(by show 2 ≤ sizeLine; decide), fun t3 nt3 => ⟨(by show 2 ≤ sizeLine; decide), fun t4 nt4 => ?_⟩⟩⟩
    have s4 := same_new nt4 (o := .tup [.ref t3, .non])
    have s3 := same_new nt3 (o := .tup [.str "NoBoat", .ref t2])
    have s2 := same_new nt2 (o := .tup (mvV (j, r)))
    exact q (.ref t4) _ (S1.trans (s2.trans (s3.trans s4))) (dp2 upd_same (dp2 (s4 _ _ upd_same) (.str _) (dp2 ((s3.trans s4) _ _ upd_same) (.int _) (.str _))) .non)
  rw [if_pos hb] at q
  rw [decide_eq_true (mem_may.mpr ⟨hj, hb⟩)]
  refine iteF ?_
  have ol := one_less ok hj
  refine ⟨_, rfl, sa, _, _, _, rfl, rfl, .inr (Same.tup S1 hsa), rfl, _, rfl, al, _, _, _, rfl, rfl, .inr (Same.tup S1 hal), gt_ix hi0 hjl, _, _, rfl, rfl, .inl ⟨by decide, by decide⟩, _, _, rfl, rfl, ?_⟩
  dsimp only
  rw [ol]
  refine ⟨_, rfl, rfl, nil_go (.inr ⟨_, rfl, ?_⟩)⟩
  rw [plW_eq]
  refine ⟨_, _, rfl, ?_⟩
  refine at_s (σ' := [some (.ref a), some (.int (j : Nat)), some (.str (wS r)), some (.ref g), some (.ref sa), some vh, some vw, some (.int (upD m j)), some (.int (plW r : Nat)), none]) rfl ?_
  obtain ⟨nb, nxs, rfl, hnb, hnxl, hnall, hnel⟩ := pss_of hw
  have hwl : plW r < m.w.length := by rw [ok.w]; cases r <;> decide
  have hwlen : (m.w.getD (plW r) []).length = m.c.ls.length := by
    cases r with
    | true => exact ok.w0
    | false => exact ok.w1
  refine setP_go (K := K) (p := plW r) (zs := (m.w.getD (plW r) []).set j ((m.w.getD (plW r) []).getD j 0 + upD m j)) rfl rfl (Dp.same S1 _ hw) hwl (by rw [ok.w]; decide) (fun H2 s2 R hR => ?_) fun y H3 s3 d3 => ?_
  · obtain ⟨x, hx⟩ : ∃ x, nxs[plW r]? = some x := ⟨_, List.getElem?_eq_getElem (by omega)⟩
    obtain ⟨zs, hz⟩ : ∃ zs, m.w[plW r]? = some zs := ⟨_, List.getElem?_eq_getElem hwl⟩
    have hzs : m.w.getD (plW r) [] = zs := getD_of hz
    obtain ⟨u, rfl, hu⟩ := hnel _ _ _ hx hz
    refine ⟨_, rfl, _, rfl, nb, _, _, _, rfl, rfl, .inr (Same.tup (S1.trans s2) hnb), atI_nat hx, _, rfl, _, rfl, nil_go ⟨.ref u, zs, j, upD m j, rfl, .tup (Same.tup (S1.trans s2) hu) (dp_ints _), by rw [← hzs, hwlen]; exact hj, by rw [← hzs, hwlen]; omega, fun v' H' s' d' => hR v' H' s' (by rw [hzs]; exact d')⟩⟩
  refine at_g (σ' := [some (.ref a), some (.int (j : Nat)), some (.str (wS r)), some (.ref g), some (.ref sa), some vh, some (.ref nb), some (.int (upD m j)), some (.int (plW r : Nat)), some (.ref y)]) rfl ?_
  have S3 := S1.trans s3
  refine ⟨_, rfl, _, rfl, _, rfl, _, rfl, _, rfl, (by show 2 ≤ sizeLine; decide), fun t2 nt2 => ?_⟩
  have s4 := same_new nt2 (o := .tup (mvV (j, r)))
  have S4 := S3.trans s4
  refine nil_go ⟨.ref g, .ref sa, t2, j, r, m.c, m.s, B, rfl, Dp.same S4 _ hc, snAny_t (Dp.same S4 _ hs), .inr (.inl (.inl upd_same)), hj, ok.c, os, fun v5 H5 s5 d5 => ?_⟩
  refine ⟨_, rfl, _, rfl, (by show 4 ≤ sizeLine; decide), fun t6 nt6 => ⟨(by show 2 ≤ sizeLine; decide), fun t7 nt7 => ?_⟩⟩
  have s6 := same_new nt6 (o := .tup [.ref g, v5, vh, .ref y])
  have s7 := same_new nt7 (o := .tup [.non, .ref t6])
  have S5 := s5.trans (s6.trans s7)
  refine q (.ref t7) _ (S4.trans S5) (dp2 upd_same .non ?_)
  exact .tup (.inl (.inl (s7 _ _ upd_same))) (.cons (Dp.same (S4.trans S5) _ hc) (.cons (Dp.same (s6.trans s7) _ d5) (.cons (Dp.same (S4.trans S5) _ hh) (.cons (Dp.same (s4.trans S5) _ d3) .nil))))
end
end XL
namespace XL
open PySem PySem.Spec PyProof.Rows L2
def phR (m : Mo) (r : Bool) (i x : Int) : Res := if inB i (many m r) then (if gt (boatsW r m.s) i + x < 0 then .error (.short (0 - x - gt (boatsW r m.s) i)) else .ok (handM m (plW r) i.toNat x)) else .error (.basin i)
theorem fill_ph {m : Mo} (ok : okMo m) {r : Bool} {i x : Int} (hx : 0 ≤ x) : fillR m r i x = phR m r i x := by
  unfold fillR phR
  split
  · rename_i hi
    obtain ⟨B, os⟩ := ok.s
    obtain ⟨h1, h2⟩ := in_part ok hi
    have hb : 0 ≤ gt (boatsW r m.s) i := by
      cases r with
      | true => exact (os.r0 _ (mem_getD h1)).1
      | false => exact (os.b0 _ (mem_getD h1)).1
    rw [if_neg (by omega)]
  · rfl
theorem drain_ph {m : Mo} {r : Bool} {i x : Int} : drainR m r i x = phR m r i (0 - x) := by
  unfold drainR phR lackR
  split
  · by_cases h : x - gt (boatsW r m.s) i > 0
    · rw [if_pos h, if_pos (by omega), show 0 - (0 - x) - gt (boatsW r m.s) i = x - gt (boatsW r m.s) i by omega]
    · rw [if_neg h, if_neg (by omega), show 0 - x = -x by omega]
  · rfl
theorem withP_go {K : PySem.W.Frag} {σ : L2.St} {H : Hp} {Q : VK} {ja jp ji jx p i : Nat} {x : Int} {a : Addr} {pss : List (List Int)} (h1 : σ[ja]? = some (some (.ref a))) (h2 : σ[jp]? = some (some (.int (p : Nat)))) (h3 : σ[ji]? = some (some (.int (i : Nat)))) (h4 : σ[jx]? = some (some (.int x))) (hd : Dp K H (.ref a) (pssD pss)) (hp : p < pss.length) (hi : i < (pss.getD p []).length) (hl : (pss.getD p []).length ≤ 900)
    (q : ∀ v H', Same H H' → Dp K H' v (.tuple (intsD ((pss.getD p []).set i ((pss.getD p []).getD i 0 + x)))) → Q v H') : tCall (spWi K) [] E0 (tCons (tOp (rIxA K) (tVar ja) (tVar jp)) (tCons (tVar ji) (tCons (tVar jx) tNil))) σ H Q := by
  obtain ⟨nb, nxs, e, hnb, hnxl, hnall, hnel⟩ := pss_of hd
  cases e
  obtain ⟨y, hy⟩ : ∃ y, nxs[p]? = some y := ⟨_, List.getElem?_eq_getElem (by omega)⟩
  obtain ⟨zs, hz⟩ : ∃ zs, pss[p]? = some zs := ⟨_, List.getElem?_eq_getElem hp⟩
  have hzs : pss.getD p [] = zs := getD_of hz
  obtain ⟨u, rfl, hu⟩ := hnel _ _ _ hy hz
  rw [hzs] at hi hl q
  exact ⟨_, h1, _, h2, _, _, _, _, rfl, rfl, .inr hnb, atI_nat hy, _, h3, _, h4, nil_go ⟨.ref u, zs, i, x, rfl, .tup hu (dp_ints _), hi, hl, q⟩⟩
section
variable {P : Program} {w : World} {K : PySem.W.Frag} {mg : Str → Option Value} {base : Heap}
abbrev sPb : Stmt := topS 52
abbrev nPb : List Str := ["_law_s", "_law_hue", "_law_spot", "_law_more", "_law_ship_way", "_law_lying_here", "_law_hands_on", "_law_nets", "_law_part", "_law_own", "_law_hands_so", "_law_there"]
theorem scPb : FnScope nPb ["_law_s", "_law_hue", "_law_spot", "_law_more"] (defScope sPb) := ⟨rfl, rfl, rfl, by decide +kernel, rfl, by decide +kernel, by decide +kernel⟩
def spPb (K : PySem.W.Frag) : Sp := fun vs H Q _ => ∃ (v : V) (m : Mo) (r : Bool) (i x : Int), vs = [v, .str (wS r), .int i, .int x] ∧ Dp K H v (moD m) ∧ okMo m ∧ ∀ v' H', Same H H' → Dp K H' v' (resD (fun _ => .none) (phR m r i x)) → Q v' H'
theorem ok_pb {f fw : Addr} {fd fdw : FuncData} {k : Nat} (F : Fun K "_law_put_by_hand" "_law_put_by_hand" sPb f fd) (Wi : Fns P w K mg base k "_law_with" ["_law_some", "_law_spot", "_law_more"] (spWi K) fw fdw) (m_int : mg "int" = none) : FnOk P w K mg base CX0 (k + 1) f fd ["_law_s", "_law_hue", "_law_spot", "_law_more"] (spPb K) := by
  refine F.ok scPb (fun vs H Q E h => ?_) (fun cdv A outer s0 H vs Q E hr h => ?_)
  · obtain ⟨v, m, r, i, x, rfl, _⟩ := h
    rfl
  obtain ⟨v, m, r, i, x, rfl, dv, ok, q⟩ := h
  refine ⟨_, (pss_cons (ps_asg (pv 0) (pg_any rfl (pgs_cons (pg_name (i := 4) scPb.nd rfl (.inl rfl)) (pgs_cons (pg_name (i := 5) scPb.nd rfl (.inl rfl)) (pgs_cons (pg_name (i := 6) scPb.nd rfl (.inl rfl)) (pgs_cons (pg_name (i := 7) scPb.nd rfl (.inl rfl)) pgs_nil))))))
    (pss_cons (ps_set (i := 8) scPb.nd rfl (.inl rfl) (pe_callTy call_int1 rfl m_int boot_int' (pa_cons (pe_cmpR op_eq (pv 1) pe_str (nomark _)) pa_nil)))
    (pss_cons (ps_if (pt_not (pt_chain op_le op_lt pe_int (pv 2) (pe_ix (r := rIxA K) ix_any (pv 4) (pv 8) (fun _ _ => rfl)))) (pss_one (ps_ret (pe_tup (pa_cons (pe_tup (pa_cons pe_str (pa_cons (pv 2) pa_nil))) (pa_cons pe_non pa_nil))))) pss_nil)
    (pss_cons (ps_if (pt_cmpR op_lt (pe_op op_add (pe_ix (r := rIxA K) ix_any (pe_ix (r := rIxA K) ix_any (pv 5) (pv 8) (fun _ _ => rfl)) (pv 2) (fun _ _ => rfl)) (pv 3)) pe_int (nomark _)) (pss_one (ps_ret (pe_tup (pa_cons (pe_tup (pa_cons pe_str (pa_cons (pe_op op_sub (pe_op op_sub pe_int (pv 3)) (pe_ix (r := rIxA K) ix_any (pe_ix (r := rIxA K) ix_any (pv 5) (pv 8) (fun _ _ => rfl)) (pv 2) (fun _ _ => rfl))) pa_nil))) (pa_cons pe_non pa_nil))))) pss_nil)
    (pss_cons (ps_par (i := 9) (j := 10) rfl scPb.nd rfl rfl (by decide) rfl rfl (pa_cons (pe_fn Wi hr rfl (pa_cons (pe_ix (r := rIxA K) ix_any (pv 5) (pv 8) (fun _ _ => rfl)) (pa_cons (pv 2) (pa_cons (pv 3) pa_nil)))) (pa_cons (pe_fn Wi hr rfl (pa_cons (pe_ix (r := rIxA K) ix_any (pv 6) (pv 8) (fun _ _ => rfl)) (pa_cons (pv 2) (pa_cons (pv 3) pa_nil)))) pa_nil)) rfl)
    (pss_cons (ps_set (i := 11) scPb.nd rfl (.inl rfl) (pe_op op_catU (pe_op op_catU (pe_slice (r := rSlU K) sl_tupU (pv 5) po_none (po_some (pv 8))) (pe_tup (pa_cons (pv 9) pa_nil))) (pe_slice (r := rSlU K) sl_tupU (pv 5) (po_some (pe_op op_add (pv 8) pe_int)) po_none)))
    (pss_cons (ps_set (i := 10) scPb.nd rfl (.inl rfl) (pe_op op_catU (pe_op op_catU (pe_slice (r := rSlU K) sl_tupU (pv 6) po_none (po_some (pv 8))) (pe_tup (pa_cons (pv 10) pa_nil))) (pe_slice (r := rSlU K) sl_tupU (pv 6) (po_some (pe_op op_add (pv 8) pe_int)) po_none)))
    (pss_one (ps_ret (pe_tup (pa_cons pe_non (pa_cons (pe_tup (pa_cons (pv 4) (pa_cons (pv 11) (pa_cons (pv 10) (pa_cons (pv 7) pa_nil))))) pa_nil)))))))))))), ?_⟩
  obtain ⟨a, vc, vs, vh, vw, rfl, ha, hc, hs, hh, hw⟩ := mo_of dv
  obtain ⟨g, gg, gs, rfl, hg, hgg, hgs⟩ := cn_of hc
  obtain ⟨sa, ar, ab, al, rfl, hsa, har, hab, hal⟩ := sn_of hs
  obtain ⟨B, os⟩ := ok.s
  unfold phR at q
  refine ⟨_, rfl, a, _, rfl, .inr ha, rfl, _, _, rfl, _, _, rfl, _, _, rfl, _, _, rfl, rfl, ?_⟩
  refine at_s (σ' := [some (.ref a), some (.str (wS r)), some (.int i), some (.int x), some (.ref g), some (.ref sa), some vh, some vw, none, none, none, none]) rfl ?_
  refine ⟨_, rfl, rfl, nil_go (.inr ⟨_, rfl, ?_⟩)⟩
  rw [plW_eq]
  refine at_g (σ' := [some (.ref a), some (.str (wS r)), some (.int i), some (.int x), some (.ref g), some (.ref sa), some vh, some vw, some (.int (plW r : Nat)), none, none, none]) rfl ?_
  have nobas : ¬ inB i (many m r) → ((tRet (tTup (tCons (tTup (tCons (tC (.str "NoBasin")) (tCons (tVar 2) tNil))) (tCons (tC .non) tNil)))) : TS) { nx := fun x H' => Q V.non H', rt := Q } [some (.ref a), some (.str (wS r)), some (.int i), some (.int x), some (.ref g), some (.ref sa), some vh, some vw, some (.int (plW r : Nat)), none, none, none] H := fun hn => by
    rw [if_neg hn] at q
    refine ⟨_, rfl, (by show 2 ≤ sizeLine; decide), fun t nt => ⟨(by show 2 ≤ sizeLine; decide), fun t2 nt2 => ?_⟩⟩
    have s2 := same_new nt2 (o := .tup [.ref t, .non])
    exact q (.ref t2) _ ((same_new nt).trans s2) (dp2 upd_same (dp2 (s2 _ _ upd_same) (.str _) (.int _)) .non)
  have gat : atI [V.int m.c.r, .int m.c.b, .ref gg] ((plW r : Nat) : Int) = some (.int (many m r)) := by cases r <;> rfl
  by_cases hi0 : 0 ≤ i
  rotate_left
  · refine ⟨_, rfl, _, _, rfl, rfl, false, congrArg V.bl (decide_eq_false hi0), _, rfl, iteT (nobas fun z => hi0 z.1)⟩
  by_cases hi1 : i < many m r
  rotate_left
  · refine ⟨_, rfl, _, _, rfl, rfl, true, congrArg V.bl (decide_eq_true hi0), iteT ⟨_, rfl, _, rfl, g, _, _, _, rfl, rfl, .inr hg, gat, _, _, rfl, rfl, _, rfl, ?_⟩⟩
    rw [decide_eq_false hi1]
    exact iteT (nobas fun z => hi1 z.2)
  refine ⟨_, rfl, _, _, rfl, rfl, true, congrArg V.bl (decide_eq_true hi0), iteT ⟨_, rfl, _, rfl, g, _, _, _, rfl, rfl, .inr hg, gat, _, _, rfl, rfl, _, rfl, ?_⟩⟩
  rw [decide_eq_true hi1]
  refine iteF ?_
  have hin : inB i (many m r) := ⟨hi0, hi1⟩
  rw [if_pos hin] at q
  clear nobas
  obtain ⟨h1, h2⟩ := in_part ok hin
  have hat : ∃ t, atI [V.ref ar, .ref ab, .ref al] ((plW r : Nat) : Int) = some (.ref t) ∧ SqT K H t ((boatsW r m.s).map V.int) ∧ i < ((boatsW r m.s).length : Nat) := by
    cases r with
    | true => exact ⟨ar, rfl, har, by have : i.toNat < m.s.rs.length := h1; show i < (m.s.rs.length : Int); omega⟩
    | false => exact ⟨ab, rfl, hab, by have : i.toNat < m.s.bs.length := h1; show i < (m.s.bs.length : Int); omega⟩
  obtain ⟨t, et, ht, hl⟩ := hat
  refine ⟨_, rfl, _, rfl, sa, _, _, _, rfl, rfl, .inr hsa, et, _, rfl, t, _, _, _, rfl, rfl, .inr ht, gt_ix hi0 hl, _, rfl, _, _, rfl, rfl, _, _, rfl, rfl, _, rfl, ?_⟩
  by_cases hn : gt (boatsW r m.s) i + x < 0
  · rw [if_pos hn] at q
    rw [decide_eq_true hn]
    refine iteT ⟨_, rfl, _, _, rfl, rfl, _, rfl, _, rfl, sa, _, _, _, rfl, rfl, .inr hsa, et, _, rfl, t, _, _, _, rfl, rfl, .inr ht, gt_ix hi0 hl, _, _, rfl, rfl, (by show 2 ≤ sizeLine; decide), fun t3 nt3 => ⟨(by show 2 ≤ sizeLine; decide), fun t4 nt4 => ?_⟩⟩
    have s4 := same_new nt4 (o := .tup [.ref t3, .non])
    exact q (.ref t4) _ ((same_new nt3).trans s4) (dp2 upd_same (dp2 (s4 _ _ upd_same) (.str _) (.int _)) .non)
  rw [if_neg hn] at q
  rw [decide_eq_false hn]
  refine iteF ?_
  obtain ⟨j, rfl⟩ : ∃ j : Nat, i = j := ⟨i.toNat, by omega⟩
  rw [show ((j : Nat) : Int).toNat = j from by omega] at q h1
  have hp3 : plW r < (snL m.s).length := h2
  have hsn : Dp K H (.ref sa) (pssD (snL m.s)) := hs
  have hl900 : ((snL m.s).getD (plW r) []).length ≤ 900 := by
    obtain ⟨l1, l2, l3⟩ := sn_len ok.c os
    cases r with
    | true => show m.s.rs.length ≤ 900; omega
    | false => show m.s.bs.length ≤ 900; omega
  obtain ⟨hla, hlb⟩ := part_len ok h2
  have hph : plW r < m.h.length := by rw [ok.h]; exact h2
  obtain ⟨hb_, hxs_, rfl, _⟩ := pss_of hh
  refine withP_go (p := plW r) (i := j) rfl rfl rfl rfl hsn hp3 h1 hl900 fun v1 H1 s1 d1 => ?_
  refine withP_go (p := plW r) (i := j) rfl rfl rfl rfl (Dp.same s1 _ hh) hph (by rw [← hla]; exact h1) (by rw [← hla]; exact hl900) fun v2 H2 s2 d2 => nil_go ⟨_, _, rfl, ?_⟩
  refine at_s (σ' := [some (.ref a), some (.str (wS r)), some (.int (j : Nat)), some (.int x), some (.ref g), some (.ref sa), some (.ref hb_), some vw, some (.int (plW r : Nat)), some v1, some v2, none]) rfl ?_
  have S2 := s1.trans s2
  refine setP_go (K := K) (p := plW r) (zs := ((snL m.s).getD (plW r) []).set j (((snL m.s).getD (plW r) []).getD j 0 + x)) rfl rfl (Dp.same S2 _ hsn) hp3 (show 3 ≤ 998 by decide) (fun H3 s3 R hR => ⟨_, rfl, hR v1 H3 (Same.refl _) (Dp.same (s2.trans s3) _ d1)⟩) fun y H4 s4 d4 => ?_
  refine at_g (σ' := [some (.ref a), some (.str (wS r)), some (.int (j : Nat)), some (.int x), some (.ref g), some (.ref sa), some (.ref hb_), some vw, some (.int (plW r : Nat)), some v1, some v2, some (.ref y)]) rfl ?_
  have S4 := S2.trans s4
  refine setP_go (K := K) (p := plW r) (zs := (m.h.getD (plW r) []).set j ((m.h.getD (plW r) []).getD j 0 + x)) rfl rfl (Dp.same S4 _ hh) hph (by rw [ok.h]; decide) (fun H3 s3 R hR => ⟨_, rfl, hR v2 H3 (Same.refl _) (Dp.same (s4.trans s3) _ d2)⟩) fun z H5 s5 d5 => ?_
  refine at_g (σ' := [some (.ref a), some (.str (wS r)), some (.int (j : Nat)), some (.int x), some (.ref g), some (.ref sa), some (.ref hb_), some vw, some (.int (plW r : Nat)), some v1, some (.ref z), some (.ref y)]) rfl ?_
  have S5 := S4.trans s5
  refine ⟨_, rfl, _, rfl, _, rfl, _, rfl, (by show 4 ≤ sizeLine; decide), fun t6 nt6 => ⟨(by show 2 ≤ sizeLine; decide), fun t7 nt7 => ?_⟩⟩
  have s6 := same_new nt6 (o := .tup [.ref g, .ref y, .ref z, vw])
  have s7 := same_new nt7 (o := .tup [.non, .ref t6])
  have s67 := s6.trans s7
  refine q (.ref t7) _ (S5.trans s67) (dp2 upd_same .non ?_)
  have d4' := Dp.same (s5.trans s67) _ d4
  refine .tup (.inl (.inl (s7 _ _ upd_same))) (.cons (Dp.same (S5.trans s67) _ hc) (.cons ?_ (.cons (Dp.same s67 _ d5) (.cons (Dp.same (S5.trans s67) _ hw) .nil))))
  show Dp K _ _ (snD (upS m.s (plW r) j x))
  rw [snD_up]
  exact d4'
end
end XL
namespace XL
open PySem PySem.Spec PyProof.Rows L2
/-- what a deed that is done tells -/
def tellD : Dd → Mo → PyData
  | .dig _ _ _ _, m' => .int (m'.c.ls.length - 1)
  | _, _ => .none
section
variable {K : PySem.W.Frag}
theorem cut2_go {σ : L2.St} {H : Hp} {Q : VK} {ja : Nat} {a : Addr} {x0 x1 x2 : V} {te : TE} (h1 : σ[ja]? = some (some (.ref a))) (ha : SqT K H a [x0, x1, x2])
    (q : ∀ H1, Same H H1 → ∀ R : VK, (∀ y H2, Same H1 H2 → (∀ r H3, Same H2 H3 → SqT K H3 r [x0, x1, y] → Q (.ref r) H3) → R y H2) → te σ H1 R) : tOp (rCatU K) (tSl (rSlU K) (tVar ja) tNoPart (tPart (tC (.int 2)))) (tTup (tCons te tNil)) σ H Q := by
  refine ⟨_, h1, _, rfl, a, _, rfl, ha, fun p1 H1 s1 e1 => ?_⟩
  refine q H1 s1 _ fun y H2 s2 q2 => ⟨(by show 1 ≤ sizeLine; decide), fun p2 n2 => ?_⟩
  have s3 := same_new n2 (o := .tup [y])
  have e1 : SqT K H1 p1 [x0, x1] := e1
  refine ⟨p1, p2, _, _, rfl, rfl, Same.tup (s2.trans s3) e1, .inl (.inl upd_same), (by show 3 ≤ sizeLine; decide), fun p3 H3 s4 e3 => ?_⟩
  exact q2 p3 H3 (s3.trans s4) e3
theorem snoc_go {σ : L2.St} {H : Hp} {Q : VK} {ja n : Nat} {a b : Addr} {xs us : List V} {te : TE} (h1 : σ[ja]? = some (some (.ref a))) (ha : SqT K H a xs) (hx : atI xs (n : Nat) = some (.ref b)) (hb : SqT K H b us) (hl : us.length ≤ 900)
    (q : ∀ R : VK, (∀ y H2, Same H H2 → (∀ r H3, Same H2 H3 → SqT K H3 r (us ++ [y]) → Q (.ref r) H3) → R y H2) → te σ H R) : tOp (rCatU K) (tOp (rIxA K) (tVar ja) (tC (.int (n : Nat)))) (tTup (tCons te tNil)) σ H Q := by
  refine ⟨_, h1, a, _, _, _, rfl, rfl, .inr ha, hx, ?_⟩
  refine q _ fun y H2 s2 q2 => ⟨(by show 1 ≤ sizeLine; decide), fun p2 n2 => ?_⟩
  have s3 := same_new n2 (o := .tup [y])
  refine ⟨b, p2, _, _, rfl, rfl, Same.tup (s2.trans s3) hb, .inl (.inl upd_same), Nat.le_of_lt (small1000 (n := us.length + 1) (by omega)), fun p3 H3 s4 e3 => ?_⟩
  exact q2 p3 H3 (s3.trans s4) e3
end
section
variable {P : Program} {w : World} {K : PySem.W.Frag} {mg : Str → Option Value} {base : Heap}
abbrev sLb : Stmt := topS 53
abbrev nLb : List Str := ["_law_s", "_law_deed_here", "_law_ship_way", "_law_lying_here", "_law_hands_on", "_law_nets", "_law_more", "_law_there", "_law_k", "_law_spot", "_law_wider", "_law_hands_so"]
theorem scLb : FnScope nLb ["_law_s", "_law_deed_here"] (defScope sLb) := ⟨rfl, rfl, rfl, by decide +kernel, rfl, by decide +kernel, by decide +kernel⟩
def isHd : Dd → Prop
  | .turn _ => True
  | .dig _ _ _ _ => True
  | _ => False
def spLb (K : PySem.W.Frag) : Sp := fun vs H Q _ => ∃ (v u : V) (m : Mo) (dd : Dd), vs = [v, u] ∧ isHd dd ∧ Dp K H v (moD m) ∧ Dp K H u (ddD dd) ∧ okMo m ∧ ∀ v' H', Same H H' → Dp K H' v' (resD (tellD dd) (doR m dd)) → Q v' H'
theorem ok_lb {f fw : Addr} {fd fdw : FuncData} {k : Nat} (F : Fun K "_law_by_hand" "_law_by_hand" sLb f fd) (Wi : Fns P w K mg base k "_law_with" ["_law_some", "_law_spot", "_law_more"] (spWi K) fw fdw) (m_len : mg "len" = none) (m_enumerate : mg "enumerate" = none) : FnOk P w K mg base CX0 (k + 1) f fd ["_law_s", "_law_deed_here"] (spLb K) := by
  refine F.ok scLb (fun vs H Q E h => ?_) (fun cdv A outer s0 H vs Q E hr h => ?_)
  · obtain ⟨v, u, m, dd, rfl, _⟩ := h
    rfl
  obtain ⟨v, u, m, dd, rfl, hd, dv, du, ok, q⟩ := h
  refine ⟨_, (pss_cons (ps_asg (pv 0) (pg_any rfl (pgs_cons (pg_name (i := 2) scLb.nd rfl (.inl rfl)) (pgs_cons (pg_name (i := 3) scLb.nd rfl (.inl rfl)) (pgs_cons (pg_name (i := 4) scLb.nd rfl (.inl rfl)) (pgs_cons (pg_name (i := 5) scLb.nd rfl (.inl rfl)) pgs_nil))))))
    (pss_cons (ps_if (pt_cmpR op_eq (pe_ix (r := rIxA K) ix_any (pv 1) pe_int (fun _ _ => rfl)) pe_str (nomark _)) (pss_cons (ps_if (pt_not (pt_chain op_le op_lt pe_int (pe_ix (r := rIxA K) ix_any (pv 1) pe_int (fun _ _ => rfl)) (pe_callB (r := rLenA K) call_lenA rfl m_len PySem.boot_len (pa_cons (pe_ix (r := rIxA K) ix_any (pv 2) pe_int (fun _ _ => rfl)) pa_nil)))) (pss_one (ps_ret (pe_tup (pa_cons (pe_tup (pa_cons pe_str (pa_cons (pe_ix (r := rIxA K) ix_any (pv 1) pe_int (fun _ _ => rfl)) pa_nil))) (pa_cons pe_non pa_nil))))) pss_nil)
    (pss_cons (ps_set (i := 6) scLb.nd rfl (.inl rfl) (pe_op op_sub pe_int (pe_op op_mul pe_int (pe_ix (r := rIxA K) ix_any (pe_ix (r := rIxA K) ix_any (pv 3) pe_int (fun _ _ => rfl)) (pe_ix (r := rIxA K) ix_any (pv 1) pe_int (fun _ _ => rfl)) (fun _ _ => rfl)))))
    (pss_cons (ps_set (i := 7) scLb.nd rfl (.inl rfl) (pe_op op_catU (pe_slice (r := rSlU K) sl_tupU (pv 3) po_none (po_some pe_int)) (pe_tup (pa_cons (pe_fn Wi hr rfl (pa_cons (pe_ix (r := rIxA K) ix_any (pv 3) pe_int (fun _ _ => rfl)) (pa_cons (pe_ix (r := rIxA K) ix_any (pv 1) pe_int (fun _ _ => rfl)) (pa_cons (pv 6) pa_nil)))) pa_nil))))
    (pss_one (ps_ret (pe_tup (pa_cons pe_non (pa_cons (pe_tup (pa_cons (pv 2) (pa_cons (pv 7) (pa_cons (pe_op op_catU (pe_slice (r := rSlU K) sl_tupU (pv 4) po_none (po_some pe_int)) (pe_tup (pa_cons (pe_fn Wi hr rfl (pa_cons (pe_ix (r := rIxA K) ix_any (pv 4) pe_int (fun _ _ => rfl)) (pa_cons (pe_ix (r := rIxA K) ix_any (pv 1) pe_int (fun _ _ => rfl)) (pa_cons (pv 6) pa_nil)))) pa_nil))) (pa_cons (pv 5) pa_nil))))) pa_nil)))))))) pss_nil)
    (pss_cons (ps_for PassesOwn.never rfl (pi_enumT rfl m_enumerate (pa_cons (pe_slice (r := rSlU K) sl_tupU (pv 1) (po_some pe_int) po_none) pa_nil)) (pg_any rfl (pgs_cons (pg_name (i := 8) scLb.nd rfl (.inl rfl)) (pgs_cons (pg_name (i := 9) scLb.nd rfl (.inl rfl)) pgs_nil)))
    (pss_one (ps_if (pt_not (pt_chain op_le op_lt pe_int (pv 9) (pe_ix (r := rIxA K) ix_any (pv 2) (pe_op op_fdivN (pv 8) pe_int) (fun _ _ => rfl)))) (pss_one (ps_ret (pe_tup (pa_cons (pe_tup (pa_cons pe_str (pa_cons (pv 9) pa_nil))) (pa_cons pe_non pa_nil))))) pss_nil)))
    (pss_cons (ps_set (i := 10) scLb.nd rfl (.inl rfl) (pe_op op_catU (pe_slice (r := rSlU K) sl_tupU (pv 2) po_none (po_some pe_int)) (pe_tup (pa_cons (pe_op op_catU (pe_ix (r := rIxA K) ix_any (pv 2) pe_int (fun _ _ => rfl)) (pe_tup (pa_cons (pe_slice (r := rSlU K) sl_tupU (pv 1) (po_some pe_int) po_none) pa_nil))) pa_nil))))
    (pss_cons (ps_par (i := 7) (j := 11) rfl scLb.nd rfl rfl (by decide) rfl rfl (pa_cons (pe_op op_catU (pe_slice (r := rSlU K) sl_tupU (pv 3) po_none (po_some pe_int)) (pe_tup (pa_cons (pe_op op_catU (pe_ix (r := rIxA K) ix_any (pv 3) pe_int (fun _ _ => rfl)) (pe_tup (pa_cons pe_int pa_nil))) pa_nil))) (pa_cons (pe_op op_catU (pe_slice (r := rSlU K) sl_tupU (pv 4) po_none (po_some pe_int)) (pe_tup (pa_cons (pe_op op_catU (pe_ix (r := rIxA K) ix_any (pv 4) pe_int (fun _ _ => rfl)) (pe_tup (pa_cons pe_int pa_nil))) pa_nil))) pa_nil)) rfl)
    (pss_one (ps_ret (pe_tup (pa_cons (pe_callB (r := rLenA K) call_lenA rfl m_len PySem.boot_len (pa_cons (pe_ix (r := rIxA K) ix_any (pv 2) pe_int (fun _ _ => rfl)) pa_nil)) (pa_cons (pe_tup (pa_cons (pv 10) (pa_cons (pv 7) (pa_cons (pv 11) (pa_cons (pe_tup (pa_cons (pe_op op_catU (pe_ix (r := rIxA K) ix_any (pv 5) pe_int (fun _ _ => rfl)) (pe_tup (pa_cons pe_int pa_nil))) (pa_cons (pe_op op_catU (pe_ix (r := rIxA K) ix_any (pv 5) pe_int (fun _ _ => rfl)) (pe_tup (pa_cons pe_int pa_nil))) pa_nil))) pa_nil))))) pa_nil)))))))))), ?_⟩
  obtain ⟨a, vc, vs, vh, vw, rfl, ha, hc, hs, hh, hw⟩ := mo_of dv
  obtain ⟨g, gg, gs, rfl, hg, hgg, hgs⟩ := cn_of hc
  have hgl : gs.length = m.c.ls.length := by rw [DpAll.length hgs, List.length_map]
  obtain ⟨sa, ar, ab, al, rfl, hsa, har, hab, hal⟩ := sn_of hs
  obtain ⟨B, os⟩ := ok.s
  have hnl := ok.c.n
  obtain ⟨h0, h1, h2, eh⟩ := len3 ok.h
  obtain ⟨w0, w1, ew⟩ := len2 ok.w
  have hh2 := ok.h2
  have hw0 := ok.w0
  have hw1 := ok.w1
  refine ⟨_, rfl, a, _, rfl, .inr ha, rfl, _, _, rfl, _, _, rfl, _, _, rfl, _, _, rfl, rfl, ?_⟩
  refine at_s (σ' := [some (.ref a), some u, some (.ref g), some (.ref sa), some vh, some vw, none, none, none, none, none, none]) rfl ?_
  obtain ⟨hb_, hxs_, rfl, hhb, hhl, hhd, hhe⟩ := pss_of hh
  rw [eh] at hhd
  obtain ⟨x0, x1, x2, rfl, dx0, dx1, dx2⟩ := dpall3 hhd
  obtain ⟨hz, rfl, hzt⟩ := dp_it dx2
  have hh2 : h2.length = m.c.ls.length := by rw [← hh2, eh]; rfl
  cases dd with
  | turn i =>
    obtain ⟨t, y0, y1, rfl, ht, p0, p1⟩ := dpT2 du
    obtain rfl := dp_strV p0
    obtain rfl := dp_intV p1
    refine ⟨_, rfl, t, _, _, _, rfl, rfl, .inr ht, rfl, rfl, true, str_eq, iteT ?_⟩
    have tq : turnR m i = (if inB i m.c.ls.length then .ok (handM m 2 i.toNat (upD m i)) else .error (.lock i)) := rfl
    have q : ∀ v' H', Same H H' → Dp K H' v' (resD (fun _ => .none) (turnR m i)) → Q v' H' := q
    rw [tq] at q
    have nolock : ¬ inB i m.c.ls.length → ((tRet (tTup (tCons (tTup (tCons (tC (.str "NoLock")) (tCons (tOp (rIxA K) (tVar 1) (tC (.int 1))) tNil))) (tCons (tC .non) tNil)))) : TS) { nx := fun x H' => Q V.non H', rt := Q } [some (.ref a), some (.ref t), some (.ref g), some (.ref sa), some (.ref hb_), some vw, none, none, none, none, none, none] H := fun hn => by
      rw [if_neg hn] at q
      refine ⟨_, rfl, t, _, _, _, rfl, rfl, .inr ht, rfl, (by show 2 ≤ sizeLine; decide), fun t1 nt => ⟨(by show 2 ≤ sizeLine; decide), fun t2 nt2 => ?_⟩⟩
      have s2 := same_new nt2 (o := .tup [.ref t1, .non])
      exact q (.ref t2) _ ((same_new nt).trans s2) (dp2 upd_same (dp2 (s2 _ _ upd_same) (.str _) (.int _)) .non)
    by_cases hi0 : 0 ≤ i
    rotate_left
    · refine ⟨_, rfl, t, _, _, _, rfl, rfl, .inr ht, rfl, _, _, rfl, rfl, false, congrArg V.bl (decide_eq_false hi0), _, rfl, iteT (nolock fun z => hi0 z.1)⟩
    by_cases hi1 : i < m.c.ls.length
    rotate_left
    · refine ⟨_, rfl, t, _, _, _, rfl, rfl, .inr ht, rfl, _, _, rfl, rfl, true, congrArg V.bl (decide_eq_true hi0), iteT ⟨_, rfl, g, _, _, _, rfl, rfl, .inr hg, rfl, nil_go ⟨gg, gs, rfl, .inr hgg, _, _, rfl, rfl, _, rfl, ?_⟩⟩⟩
      rw [hgl, decide_eq_false hi1]
      exact iteT (nolock fun z => hi1 z.2)
    refine ⟨_, rfl, t, _, _, _, rfl, rfl, .inr ht, rfl, _, _, rfl, rfl, true, congrArg V.bl (decide_eq_true hi0), iteT ⟨_, rfl, g, _, _, _, rfl, rfl, .inr hg, rfl, nil_go ⟨gg, gs, rfl, .inr hgg, _, _, rfl, rfl, _, rfl, ?_⟩⟩⟩
    rw [hgl, decide_eq_true hi1]
    refine iteF ?_
    rw [if_pos (show inB i m.c.ls.length from ⟨hi0, hi1⟩)] at q
    clear nolock tq
    obtain ⟨j, rfl⟩ : ∃ j : Nat, i = j := ⟨i.toNat, by omega⟩
    rw [show ((j : Nat) : Int).toNat = j from by omega] at q
    have hj : j < m.c.ls.length := by omega
    have hjl : ((j : Nat) : Int) < (m.s.ls.length : Nat) := by rw [os.n]; exact hi1
    have ol := one_less ok hj
    refine ⟨_, rfl, sa, _, _, _, rfl, rfl, .inr hsa, rfl, _, rfl, t, _, _, _, rfl, rfl, .inr ht, rfl, al, _, _, _, rfl, rfl, .inr hal, gt_ix hi0 hjl, _, _, rfl, rfl, .inl ⟨by decide, by decide⟩, _, _, rfl, rfl, ?_⟩
    dsimp only
    rw [ol]
    refine at_g (σ' := [some (.ref a), some (.ref t), some (.ref g), some (.ref sa), some (.ref hb_), some vw, some (.int (upD m j)), none, none, none, none, none]) rfl ?_
    refine cut2_go (K := K) rfl hsa (fun H1 s1 R hR => ?_)
    refine ⟨_, rfl, sa, _, _, _, rfl, rfl, .inr (Same.tup s1 hsa), rfl, _, rfl, t, _, _, _, rfl, rfl, .inr (Same.tup s1 ht), rfl, _, rfl, nil_go ⟨.ref al, m.s.ls, j, upD m j, rfl, .tup (Same.tup s1 hal) (dp_ints _), by rw [os.n]; exact hj, by rw [os.n]; omega, fun v2 H2 s2 d2 => hR v2 H2 s2 fun r H3 s3 e3 => ?_⟩⟩
    refine at_g (σ' := [some (.ref a), some (.ref t), some (.ref g), some (.ref sa), some (.ref hb_), some vw, some (.int (upD m j)), some (.ref r), none, none, none, none]) rfl ?_
    have S3 := s1.trans (s2.trans s3)
    have ds : Dp K H3 (.ref r) (snD (upS m.s 2 j (upD m j))) := .tup e3 (.cons (.tup (Same.tup S3 har) (dp_ints _)) (.cons (.tup (Same.tup S3 hab) (dp_ints _)) (.cons (Dp.same s3 _ d2) .nil)))
    refine ⟨_, rfl, _, rfl, ?_⟩
    refine cut2_go (K := K) rfl (Same.tup S3 hhb) (fun H4 s4 R hR => ?_)
    have S4 := S3.trans s4
    refine ⟨_, rfl, hb_, _, _, _, rfl, rfl, .inr (Same.tup S4 hhb), rfl, _, rfl, t, _, _, _, rfl, rfl, .inr (Same.tup S4 ht), rfl, _, rfl, nil_go ⟨.ref hz, h2, j, upD m j, rfl, .tup (Same.tup S4 hzt) (dp_ints _), by rw [hh2]; exact hj, by rw [hh2]; omega, fun v5 H5 s5 d5 => hR v5 H5 s5 fun r6 H6 s6 e6 => ?_⟩⟩
    refine ⟨_, rfl, (by show 4 ≤ sizeLine; decide), fun t7 nt7 => ⟨(by show 2 ≤ sizeLine; decide), fun t8 nt8 => ?_⟩⟩
    have s7 := same_new nt7 (o := .tup [.ref g, .ref r, .ref r6, vw])
    have s8 := same_new nt8 (o := .tup [.non, .ref t7])
    have s78 := s7.trans s8
    have S6 := S4.trans (s5.trans s6)
    refine q (.ref t8) _ (S6.trans s78) (dp2 upd_same .non ?_)
    refine .tup (.inl (.inl (s8 _ _ upd_same))) (.cons (Dp.same (S6.trans s78) _ hc) (.cons (Dp.same ((s4.trans (s5.trans s6)).trans s78) _ ds) (.cons ?_ (.cons (Dp.same (S6.trans s78) _ hw) .nil))))
    show Dp K _ _ (pssD (bump2 m.h 2 j (upD m j)))
    rw [eh]
    exact .tup (Same.tup s78 e6) (.cons (Dp.same (S6.trans s78) _ dx0) (.cons (Dp.same (S6.trans s78) _ dx1) (.cons (Dp.same (s6.trans s78) _ d5) .nil)))
  | dig p c x y =>
    obtain ⟨t, y0, y1, y2, y3, y4, rfl, ht, p0, p1, p2, p3, p4⟩ := dpT5 du
    obtain rfl := dp_strV p0
    obtain rfl := dp_intV p1
    obtain rfl := dp_intV p2
    obtain rfl := dp_intV p3
    obtain rfl := dp_intV p4
    have q : ∀ v' H', Same H H' → Dp K H' v' (resD (tellD (.dig p c x y)) (digR m p c x y)) → Q v' H' := q
    unfold digR at q
    obtain ⟨LL, hLL⟩ : ∃ LL : List (Int × Int), LL = [(p, m.c.r), (c, m.c.r), (x, m.c.b), (y, m.c.b)] := ⟨_, rfl⟩
    have hel : ∀ (j : Nat) u, [V.int p, .int c, .int x, .int y][j]? = some u → ∃ pr : Int × Int, u = .int pr.1 ∧ LL[j]? = some pr ∧ atI [V.int m.c.r, .int m.c.b, .ref gg] ((j : Int).fdiv 2) = some (.int pr.2) := fun j u hu => by
      subst hLL
      match j, hu with
      | 0, hu => exact ⟨_, (Option.some.inj hu).symm, rfl, rfl⟩
      | 1, hu => exact ⟨_, (Option.some.inj hu).symm, rfl, rfl⟩
      | 2, hu => exact ⟨_, (Option.some.inj hu).symm, rfl, rfl⟩
      | 3, hu => exact ⟨_, (Option.some.inj hu).symm, rfl, rfl⟩
      | j + 4, hu => cases hu
    have hlen : LL.length = 4 := by rw [hLL]; rfl
    rw [← hLL] at q
    refine ⟨_, rfl, t, _, _, _, rfl, rfl, .inr ht, rfl, rfl, false, str_ne (by decide +kernel), iteF ?_⟩
    refine ⟨_, rfl, _, rfl, t, _, rfl, ht, fun pe H1 s1 e1 => ?_⟩
    have e1 : SqT K H1 pe [.int p, .int c, .int x, .int y] := e1
    refine nil_go ⟨pe, _, rfl, e1, for_it (walk_enumT (xs := [.int p, .int c, .int x, .int y])) (fun i σ Z => ∃ z8 z9 : Option V, σ = [some (.ref a), some (.ref t), some (.ref g), some (.ref sa), some (.ref hb_), some vw, none, none, z8, z9, none, none] ∧ Same H1 Z ∧ badB (LL.drop i) = badB LL) ⟨none, none, rfl, Same.refl _, rfl⟩ (fun i σ Z _ h => ?_) (fun i u σ Z Z' hi h hy => ?_) (fun σ Z h => ?_)⟩
    · obtain ⟨z8, z9, rfl, sZ, _⟩ := h
      exact Same.tup sZ e1
    · obtain ⟨z8, z9, rfl, sZ, eb⟩ := h
      obtain ⟨T, x1', x2', rfl, nT, rfl, q1, q2⟩ := hy
      obtain rfl : V.int (i : Nat) = x1' := Option.some.inj q1
      obtain ⟨pr, rfl, epr, eat⟩ := hel i _ q2
      have hd : LL.drop i = pr :: LL.drop (i + 1) := by
        have hil : i < LL.length := (List.getElem?_eq_some_iff.mp epr).1
        rw [List.drop_eq_getElem_cons hil]
        congr 1
        exact (List.getElem?_eq_some_iff.mp epr).2
      rw [hd] at eb
      have eb : (if inB pr.1 pr.2 then badB (LL.drop (i + 1)) else some pr.1) = badB LL := eb
      have sT := same_new nT (o := .tup [.int (i : Nat), .int pr.1])
      have sZ' := sZ.trans sT
      refine ⟨T, _, rfl, .inr (.inl (.inl upd_same)), rfl, _, _, rfl, _, _, rfl, rfl, ?_⟩
      refine at_s (σ' := [some (.ref a), some (.ref t), some (.ref g), some (.ref sa), some (.ref hb_), some vw, none, none, some (.int (i : Nat)), some (.int pr.1), none, none]) rfl ?_
      have S1 := s1.trans sZ'
      have bad : ¬ inB pr.1 pr.2 → ((tRet (tTup (tCons (tTup (tCons (tC (.str "NoBasin")) (tCons (tVar 9) tNil))) (tCons (tC .non) tNil)))) : TS) { nx := fun x H' => Q V.non H', rt := Q } [some (.ref a), some (.ref t), some (.ref g), some (.ref sa), some (.ref hb_), some vw, none, none, some (.int (i : Nat)), some (.int pr.1), none, none] (upd Z T (.tup [.int (i : Nat), .int pr.1])) := fun hn => by
        rw [if_neg hn] at eb
        rw [← eb] at q
        refine ⟨_, rfl, (by show 2 ≤ sizeLine; decide), fun t1 nt => ⟨(by show 2 ≤ sizeLine; decide), fun t2 nt2 => ?_⟩⟩
        have s2 := same_new nt2 (o := .tup [.ref t1, .non])
        exact q (.ref t2) _ (S1.trans ((same_new nt).trans s2)) (dp2 upd_same (dp2 (s2 _ _ upd_same) (.str _) (.int _)) .non)
      by_cases hi0 : 0 ≤ pr.1
      rotate_left
      · refine ⟨_, rfl, _, _, rfl, rfl, false, congrArg V.bl (decide_eq_false hi0), _, rfl, iteT (bad fun z => hi0 z.1)⟩
      by_cases hi1 : pr.1 < pr.2
      rotate_left
      · refine ⟨_, rfl, _, _, rfl, rfl, true, congrArg V.bl (decide_eq_true hi0), iteT ⟨_, rfl, _, rfl, _, _, rfl, rfl, ⟨by decide, by decide⟩, g, _, _, _, rfl, rfl, .inr (Same.tup S1 hg), eat, _, _, rfl, rfl, _, rfl, ?_⟩⟩
        rw [decide_eq_false hi1]
        exact iteT (bad fun z => hi1 z.2)
      refine ⟨_, rfl, _, _, rfl, rfl, true, congrArg V.bl (decide_eq_true hi0), iteT ⟨_, rfl, _, rfl, _, _, rfl, rfl, ⟨by decide, by decide⟩, g, _, _, _, rfl, rfl, .inr (Same.tup S1 hg), eat, _, _, rfl, rfl, _, rfl, ?_⟩⟩
      rw [decide_eq_true hi1]
      rw [if_pos (show inB pr.1 pr.2 from ⟨hi0, hi1⟩)] at eb
      exact iteF ⟨_, _, rfl, sZ', eb⟩
    · obtain ⟨z8, z9, rfl, sZ, eb⟩ := h
      rw [List.drop_eq_nil_of_le (by rw [hlen]; exact Nat.le_refl _)] at eb
      have eb : none = badB LL := eb
      rw [← eb] at q
      clear hel
      have S0 := s1.trans sZ
      obtain ⟨wb, wxs, rfl, hwb, hwl_, hwd, hwe⟩ := pss_of hw
      rw [ew] at hwd
      obtain ⟨u1, u2, rfl, cw0, cw1⟩ := dpall2 hwd
      obtain ⟨ta, rfl, hta⟩ := dp_it cw0
      obtain ⟨tb, rfl, htb⟩ := dp_it cw1
      have hw0 : w0.length = m.c.ls.length := by rw [← hw0, ew]; rfl
      have hw1 : w1.length = m.c.ls.length := by rw [← hw1, ew]; rfl
      refine cut2_go (K := K) rfl (Same.tup S0 hg) fun H2 s2 R hR => ?_
      have S2 := S0.trans s2
      refine snoc_go (K := K) (n := 2) rfl (Same.tup S2 hg) rfl (Same.tup S2 hgg) (by rw [hgl]; omega) fun R' hR' => ?_
      refine ⟨_, rfl, _, rfl, t, _, rfl, Same.tup S2 ht, fun r3 H3 s3 e3 => hR' (.ref r3) H3 s3 fun r4 H4 s4 e4 => hR (.ref r4) H4 (s3.trans s4) fun r5 H5 s5 e5 => ?_⟩
      have e3 : SqT K H3 r3 (endsV (p, c, x, y)) := e3
      have S5 := S2.trans (s3.trans (s4.trans s5))
      have dc : Dp K H5 (.ref r5) (cnD ⟨m.c.r, m.c.b, m.c.ls ++ [(p, c, x, y)]⟩) := by
        refine .tup e5 (.cons (.int _) (.cons (.int _) (.cons (.tup (Same.tup s5 e4) ?_) .nil)))
        rw [List.map_append]
        exact dpAll_snoc (DpAll.same S5 _ hgs) (Dp.same (s4.trans s5) _ (dp_lk e3))
      refine at_g (σ' := [some (.ref a), some (.ref t), some (.ref g), some (.ref sa), some (.ref hb_), some (.ref wb), none, none, z8, z9, some (.ref r5), none]) rfl ?_
      refine cut2_go (K := K) rfl (Same.tup S5 hsa) fun H6 s6 R hR => ?_
      have S6 := S5.trans s6
      refine snoc_go (K := K) (n := 2) rfl (Same.tup S6 hsa) rfl (Same.tup S6 hal) (by rw [List.length_map, os.n]; omega) fun R' hR' => hR' (.int 0) H6 (Same.refl _) fun r7 H7 s7 e7 => hR (.ref r7) H7 s7 fun r8 H8 s8 e8 => ?_
      have S8 := S6.trans (s7.trans s8)
      have ds : Dp K H8 (.ref r8) (snD ⟨m.s.rs, m.s.bs, m.s.ls ++ [0]⟩) := by
        refine .tup e8 (.cons (.tup (Same.tup S8 har) (dp_ints _)) (.cons (.tup (Same.tup S8 hab) (dp_ints _)) (.cons (.tup (xs := (m.s.ls ++ [0]).map V.int) ?_ (dp_ints _)) .nil)))
        rw [List.map_append]; exact Same.tup s8 e7
      refine cut2_go (K := K) rfl (Same.tup S8 hhb) fun H9 s9 R hR => ?_
      have S9 := S8.trans s9
      refine snoc_go (K := K) (n := 2) rfl (Same.tup S9 hhb) rfl (Same.tup S9 hzt) (by rw [List.length_map, hh2]; omega) fun R' hR' => hR' (.int 0) H9 (Same.refl _) fun ra Ha sa_ ea => hR (.ref ra) Ha sa_ fun rb Hb sb eb_ => ?_
      have S8b := s9.trans (sa_.trans sb)
      have Sb := S8.trans S8b
      have dh : Dp K Hb (.ref rb) (pssD [h0, h1, h2 ++ [0]]) := by
        refine .tup eb_ (.cons (Dp.same Sb _ dx0) (.cons (Dp.same Sb _ dx1) (.cons (.tup (xs := (h2 ++ [0]).map V.int) ?_ (dp_ints _)) .nil)))
        rw [List.map_append]; exact Same.tup sb ea
      refine nil_go ⟨_, _, rfl, ?_⟩
      refine at_s (σ' := [some (.ref a), some (.ref t), some (.ref g), some (.ref sa), some (.ref hb_), some (.ref wb), none, some (.ref r8), z8, z9, some (.ref r5), some (.ref rb)]) rfl ?_
      refine ⟨_, rfl, g, _, _, _, rfl, rfl, .inr (Same.tup Sb hg), rfl, nil_go ⟨gg, gs, rfl, .inr (Same.tup Sb hgg), _, rfl, _, rfl, _, rfl, ?_⟩⟩
      refine snoc_go (K := K) (n := 0) rfl (Same.tup Sb hwb) rfl (Same.tup Sb hta) (by rw [List.length_map, hw0]; omega) fun R' hR' => hR' (.int 0) Hb (Same.refl _) fun rc Hc sc ec => ?_
      have Sc := Sb.trans sc
      refine snoc_go (K := K) (n := 1) rfl (Same.tup Sc hwb) rfl (Same.tup Sc htb) (by rw [List.length_map, hw1]; omega) fun R' hR' => hR' (.int 0) Hc (Same.refl _) fun rd Hd sd ed => ?_
      refine ⟨(by show 2 ≤ sizeLine; decide), fun t6 nt6 => ⟨(by show 4 ≤ sizeLine; decide), fun t7 nt7 => ⟨(by show 2 ≤ sizeLine; decide), fun t8 nt8 => ?_⟩⟩⟩
      have s6' := same_new nt6 (o := .tup [.ref rc, .ref rd])
      have s7' := same_new nt7 (o := .tup [.ref r5, .ref r8, .ref rb, .ref t6])
      have s8' := same_new nt8 (o := .tup [.int (gs.length : Nat), .ref t7])
      have s78 := s7'.trans s8'
      have s68 := s6'.trans s78
      have hlen2 : ((gs.length : Nat) : Int) = ((m.c.ls ++ [(p, c, x, y)]).length : Nat) - 1 := by rw [hgl, List.length_append]; show (m.c.ls.length : Int) = ((m.c.ls.length + 1 : Nat) : Int) - 1; omega
      refine q (.ref t8) _ (Sc.trans (sd.trans s68)) (dp2 upd_same (by show Dp K _ _ (.int (((m.c.ls ++ [(p, c, x, y)]).length : Nat) - 1)); rw [← hlen2]; exact .int _) ?_)
      show Dp K _ _ (.tuple [cnD _, snD _, pssD [m.h.getD 0 [], m.h.getD 1 [], m.h.getD 2 [] ++ [0]], pssD [m.w.getD 0 [] ++ [0], m.w.getD 1 [] ++ [0]]])
      rw [eh, ew]
      have Z5 := (s6.trans (s7.trans s8)).trans (S8b.trans (sc.trans (sd.trans s68)))
      refine .tup (.inl (.inl (s8' _ _ upd_same))) (.cons (Dp.same Z5 _ dc) (.cons (Dp.same (S8b.trans (sc.trans (sd.trans s68))) _ ds) (.cons (Dp.same (sc.trans (sd.trans s68)) _ dh) (.cons (.tup (.inl (.inl (s78 _ _ upd_same))) (.cons (.tup (xs := (w0 ++ [0]).map V.int) ?_ (dp_ints _)) (.cons (.tup (xs := (w1 ++ [0]).map V.int) ?_ (dp_ints _)) .nil))) .nil))))
      · rw [List.map_append]; exact Same.tup (sd.trans s68) ec
      · rw [List.map_append]; exact Same.tup s68 ed
  | _ => exact hd.elim
end
end XL
namespace XL
open PySem PySem.Spec PyProof.Rows L2
def okDd : Dd → Prop
  | .fill _ _ x => 0 ≤ x
  | .drain _ _ x => 0 ≤ x
  | _ => True
theorem in_yes1 : V.bl (if false = true then !inV (V.str "fill") [V.str "fill", V.str "drain"] else inV (V.str "fill") [V.str "fill", V.str "drain"]) = V.bl true := by decide +kernel
theorem in_yes2 : V.bl (if false = true then !inV (V.str "drain") [V.str "fill", V.str "drain"] else inV (V.str "drain") [V.str "fill", V.str "drain"]) = V.bl true := by decide +kernel
theorem in_no1 : V.bl (if false = true then !inV (V.str "turn") [V.str "fill", V.str "drain"] else inV (V.str "turn") [V.str "fill", V.str "drain"]) = V.bl false := by decide +kernel
theorem in_no2 : V.bl (if false = true then !inV (V.str "dig") [V.str "fill", V.str "drain"] else inV (V.str "dig") [V.str "fill", V.str "drain"]) = V.bl false := by decide +kernel
theorem in_no3 : V.bl (if false = true then !inV (V.str "row") [V.str "fill", V.str "drain"] else inV (V.str "row") [V.str "fill", V.str "drain"]) = V.bl false := by decide +kernel
theorem str_neN {a b : Str} (h : (a == b) = false) : V.bl (!decide (V.str a = V.str b)) = V.bl true := by
  rw [decide_eq_false fun z => by
    rw [V.str.inj z, beq_self_eq_true] at h
    cases h]
  rfl
theorem str_eqN {a : Str} : V.bl (!decide (V.str a = V.str a)) = V.bl false := by rw [decide_eq_true rfl]; rfl
section
variable {P : Program} {w : World} {K : PySem.W.Frag} {mg : Str → Option Value} {base : Heap}
abbrev sDu : Stmt := topS 54
abbrev nDu : List Str := ["_law_s", "_law_deed_here", "_law_here", "_law_gate", "_law_hue", "_law_told"]
theorem scDu : FnScope nDu ["_law_s", "_law_deed_here"] (defScope sDu) := ⟨rfl, rfl, rfl, by decide +kernel, rfl, by decide +kernel, by decide +kernel⟩
def spDu (K : PySem.W.Frag) : Sp := fun vs H Q _ => ∃ (v u : V) (m : Mo) (dd : Dd), vs = [v, u] ∧ okDd dd ∧ Dp K H v (moD m) ∧ Dp K H u (ddD dd) ∧ okMo m ∧ ∀ v' H', Same H H' → Dp K H' v' (resD (tellD dd) (doR m dd)) → Q v' H'
theorem ok_du {f f1 f2 f3 : Addr} {fd d1 d2 d3 : FuncData} {k : Nat} (F : Fun K "_law_due" "_law_due" sDu f fd) (Wb : Fns P w K mg base k "_law_went_by" ["_law_s", "_law_gate", "_law_hue"] (spWb K) f1 d1) (Pb : Fns P w K mg base k "_law_put_by_hand" ["_law_s", "_law_hue", "_law_spot", "_law_more"] (spPb K) f2 d2) (Bh : Fns P w K mg base k "_law_by_hand" ["_law_s", "_law_deed_here"] (spLb K) f3 d3) : FnOk P w K mg base CX0 (k + 1) f fd ["_law_s", "_law_deed_here"] (spDu K) := by
  refine F.ok scDu (fun vs H Q E h => ?_) (fun cdv A outer s0 H vs Q E hr h => ?_)
  · obtain ⟨v, u, m, dd, rfl, _⟩ := h
    rfl
  obtain ⟨v, u, m, dd, rfl, hx, dv, du, ok, q⟩ := h
  refine ⟨_, (pss_cons (ps_if (pt_cmpR op_eq (pe_ix (r := rIxA K) ix_any (pv 1) pe_int (fun _ _ => rfl)) pe_str (nomark _)) (pss_one (ps_ret (pe_fn Wb hr rfl (pa_cons (pv 0) (pa_cons (pe_ix (r := rIxA K) ix_any (pv 1) pe_int (fun _ _ => rfl)) (pa_cons (pe_ix (r := rIxA K) ix_any (pv 1) pe_int (fun _ _ => rfl)) pa_nil)))))) pss_nil)
    (pss_cons (ps_if (pt_cmpR op_in_seq (pe_ix (r := rIxA K) ix_any (pv 1) pe_int (fun _ _ => rfl)) (pe_tup (pa_cons pe_str (pa_cons pe_str pa_nil))) (by rfl)) (pss_one (ps_ret (pe_fn Pb hr rfl (pa_cons (pv 0) (pa_cons (pe_ix (r := rIxA K) ix_any (pv 1) pe_int (fun _ _ => rfl)) (pa_cons (pe_ix (r := rIxA K) ix_any (pv 1) pe_int (fun _ _ => rfl)) (pa_cons (pe_ifExp (pt_cmpR op_eq (pe_ix (r := rIxA K) ix_any (pv 1) pe_int (fun _ _ => rfl)) pe_str (nomark _)) (pe_ix (r := rIxA K) ix_any (pv 1) pe_int (fun _ _ => rfl)) (pe_op op_sub pe_int (pe_ix (r := rIxA K) ix_any (pv 1) pe_int (fun _ _ => rfl)))) pa_nil))))))) pss_nil)
    (pss_cons (ps_if (pt_cmpR op_ne (pe_ix (r := rIxA K) ix_any (pv 1) pe_int (fun _ _ => rfl)) pe_str (nomark _)) (pss_one (ps_ret (pe_fn Bh hr rfl (pa_cons (pv 0) (pa_cons (pv 1) pa_nil))))) pss_nil)
    (pss_cons (ps_set (i := 2) scDu.nd rfl (.inl rfl) (pv 0))
    (pss_cons (ps_for PassesOwn.never rfl (pi_seq (pe_ix (r := rIxA K) ix_any (pv 1) pe_int (fun _ _ => rfl))) (pg_any rfl (pgs_cons (pg_name (i := 3) scDu.nd rfl (.inl rfl)) (pgs_cons (pg_name (i := 4) scDu.nd rfl (.inl rfl)) pgs_nil)))
    (pss_cons (ps_asg (pe_fn Wb hr rfl (pa_cons (pv 2) (pa_cons (pv 3) (pa_cons (pv 4) pa_nil)))) (pg_any rfl (pgs_cons (pg_name (i := 5) scDu.nd rfl (.inl rfl)) (pgs_cons (pg_name (i := 2) scDu.nd rfl (.inl rfl)) pgs_nil))))
    (pss_one (ps_if (pt_cmpR op_isN (pv 2) pe_non (nomark _)) (pss_one (ps_ret (pe_tup (pa_cons (pv 5) (pa_cons pe_non pa_nil))))) pss_nil))))
    (pss_one (ps_ret (pe_tup (pa_cons pe_non (pa_cons (pv 2) pa_nil)))))))))), ?_⟩
  cases dd with
  | go i r =>
    obtain ⟨t, y0, y1, y2, rfl, ht, p0, p1, p2⟩ := dpT3 du
    obtain rfl := dp_strV p0
    obtain rfl := dp_intV p1
    obtain rfl := dp_strV p2
    exact ⟨_, rfl, t, _, _, _, rfl, rfl, .inr ht, rfl, rfl, true, str_eq, iteT ⟨_, rfl, _, rfl, t, _, _, _, rfl, rfl, .inr ht, rfl, _, rfl, t, _, _, _, rfl, rfl, .inr ht, rfl, nil_go ⟨v, m, i, r, rfl, dv, ok, q⟩⟩⟩
  | fill r i x =>
    obtain ⟨t, y0, y1, y2, y3, rfl, ht, p0, p1, p2, p3⟩ := dpT4 du
    obtain rfl := dp_strV p0
    obtain rfl := dp_strV p1
    obtain rfl := dp_intV p2
    obtain rfl := dp_intV p3
    have q : ∀ v' H', Same H H' → Dp K H' v' (resD (fun _ => .none) (fillR m r i x)) → Q v' H' := q
    rw [fill_ph ok hx] at q
    refine ⟨_, rfl, t, _, _, _, rfl, rfl, .inr ht, rfl, rfl, false, str_ne (by decide +kernel), iteF ⟨_, rfl, t, _, _, _, rfl, rfl, .inr ht, rfl, (by show 2 ≤ sizeLine; decide), fun t1 n1 => ?_⟩⟩
    have s1 := same_new n1 (o := .tup [.str "fill", .str "drain"])
    refine ⟨t1, _, rfl, .inr (.inl (.inl upd_same)), by decide +kernel, by decide +kernel, true, in_yes1, iteT ?_⟩
    have ht := Same.tup s1 ht
    have dv := Dp.same s1 _ dv
    exact ⟨_, rfl, _, rfl, t, _, _, _, rfl, rfl, .inr ht, rfl, _, rfl, t, _, _, _, rfl, rfl, .inr ht, rfl, _, rfl, t, _, _, _, rfl, rfl, .inr ht, rfl, rfl, true, str_eq, iteT ⟨_, rfl, t, _, _, _, rfl, rfl, .inr ht, rfl, nil_go ⟨v, m, r, i, x, rfl, dv, ok, fun v' H' s d => q v' H' (s1.trans s) d⟩⟩⟩
  | drain r i x =>
    obtain ⟨t, y0, y1, y2, y3, rfl, ht, p0, p1, p2, p3⟩ := dpT4 du
    obtain rfl := dp_strV p0
    obtain rfl := dp_strV p1
    obtain rfl := dp_intV p2
    obtain rfl := dp_intV p3
    have q : ∀ v' H', Same H H' → Dp K H' v' (resD (fun _ => .none) (drainR m r i x)) → Q v' H' := q
    rw [drain_ph] at q
    refine ⟨_, rfl, t, _, _, _, rfl, rfl, .inr ht, rfl, rfl, false, str_ne (by decide +kernel), iteF ⟨_, rfl, t, _, _, _, rfl, rfl, .inr ht, rfl, (by show 2 ≤ sizeLine; decide), fun t1 n1 => ?_⟩⟩
    have s1 := same_new n1 (o := .tup [.str "fill", .str "drain"])
    refine ⟨t1, _, rfl, .inr (.inl (.inl upd_same)), by decide +kernel, by decide +kernel, true, in_yes2, iteT ?_⟩
    have ht := Same.tup s1 ht
    have dv := Dp.same s1 _ dv
    exact ⟨_, rfl, _, rfl, t, _, _, _, rfl, rfl, .inr ht, rfl, _, rfl, t, _, _, _, rfl, rfl, .inr ht, rfl, _, rfl, t, _, _, _, rfl, rfl, .inr ht, rfl, rfl, false, str_ne (by decide +kernel), iteF ⟨_, rfl, t, _, _, _, rfl, rfl, .inr ht, rfl, _, _, rfl, rfl, nil_go ⟨v, m, r, i, 0 - x, rfl, dv, ok, fun v' H' s d => q v' H' (s1.trans s) d⟩⟩⟩
  | turn i =>
    obtain ⟨t, y0, y1, rfl, ht, p0, p1⟩ := dpT2 du
    obtain rfl := dp_strV p0
    refine ⟨_, rfl, t, _, _, _, rfl, rfl, .inr ht, rfl, rfl, false, str_ne (by decide +kernel), iteF ⟨_, rfl, t, _, _, _, rfl, rfl, .inr ht, rfl, (by show 2 ≤ sizeLine; decide), fun t1 n1 => ?_⟩⟩
    have s1 := same_new n1 (o := .tup [.str "fill", .str "drain"])
    refine ⟨t1, _, rfl, .inr (.inl (.inl upd_same)), by decide +kernel, by decide +kernel, false, in_no1, iteF ?_⟩
    have ht := Same.tup s1 ht
    have dv := Dp.same s1 _ dv
    exact ⟨_, rfl, t, _, _, _, rfl, rfl, .inr ht, rfl, rfl, true, str_neN (by decide +kernel), iteT ⟨_, rfl, _, rfl, nil_go ⟨v, .ref t, m, .turn i, rfl, trivial, dv, Dp.same s1 _ du, ok, fun v' H' s d => q v' H' (s1.trans s) d⟩⟩⟩
  | dig p c x y =>
    obtain ⟨t, y0, y1, y2, y3, y4, rfl, ht, p0, p1, p2, p3, p4⟩ := dpT5 du
    obtain rfl := dp_strV p0
    refine ⟨_, rfl, t, _, _, _, rfl, rfl, .inr ht, rfl, rfl, false, str_ne (by decide +kernel), iteF ⟨_, rfl, t, _, _, _, rfl, rfl, .inr ht, rfl, (by show 2 ≤ sizeLine; decide), fun t1 n1 => ?_⟩⟩
    have s1 := same_new n1 (o := .tup [.str "fill", .str "drain"])
    refine ⟨t1, _, rfl, .inr (.inl (.inl upd_same)), by decide +kernel, by decide +kernel, false, in_no2, iteF ?_⟩
    have ht := Same.tup s1 ht
    have dv := Dp.same s1 _ dv
    exact ⟨_, rfl, t, _, _, _, rfl, rfl, .inr ht, rfl, rfl, true, str_neN (by decide +kernel), iteT ⟨_, rfl, _, rfl, nil_go ⟨v, .ref t, m, .dig p c x y, rfl, trivial, dv, Dp.same s1 _ du, ok, fun v' H' s d => q v' H' (s1.trans s) d⟩⟩⟩
  | row gs =>
    obtain ⟨t, y0, y1, rfl, ht, p0, p1⟩ := dpT2 du
    obtain rfl := dp_strV p0
    obtain ⟨g, rfl, us, hg, hul, hus⟩ := rowZ_dp p1
    refine ⟨_, rfl, t, _, _, _, rfl, rfl, .inr ht, rfl, rfl, false, str_ne (by decide +kernel), iteF ⟨_, rfl, t, _, _, _, rfl, rfl, .inr ht, rfl, (by show 2 ≤ sizeLine; decide), fun t1 n1 => ?_⟩⟩
    have s1 := same_new n1 (o := .tup [.str "fill", .str "drain"])
    refine ⟨t1, _, rfl, .inr (.inl (.inl upd_same)), by decide +kernel, by decide +kernel, false, in_no3, iteF ?_⟩
    have ht := Same.tup s1 ht
    have dv := Dp.same s1 _ dv
    have hg := Same.sq2 s1 hg
    have hus : ∀ (j : Nat) u, us[j]? = some u → ∃ t' e, u = .ref t' ∧ gs[j]? = some e ∧ Sq2 K (upd H t1 (.tup [.str "fill", .str "drain"])) t' [.int e.1, .str (wS e.2)] := fun j u hu => by
      obtain ⟨t', e, e1, e2, e3⟩ := hus j u hu
      exact ⟨t', e, e1, e2, Same.sq2 s1 e3⟩
    have q : ∀ v' H', Same H H' → Dp K H' v' (resD (fun _ => .none) (rowR m gs)) → Q v' H' := q
    refine ⟨_, rfl, t, _, _, _, rfl, rfl, .inr ht, rfl, rfl, false, str_eqN, iteF ⟨_, rfl, ?_⟩⟩
    refine at_g (σ' := [some v, some (.ref t), some v, none, none, none]) rfl ?_
    generalize (upd H t1 (.tup [.str "fill", .str "drain"])) = H1 at *
    refine ⟨_, rfl, t, _, _, _, rfl, rfl, .inr ht, rfl, g, us, rfl, hg, fun J wk => for_it wk (fun i σ Z => ∃ (v' : V) (m' : Mo) (y1 y2 y3 : Option V), σ = [some v, some (.ref t), some v', y1, y2, y3] ∧ Dp K Z v' (moD m') ∧ okMo m' ∧ Same H1 Z ∧ rowR m' (gs.drop i) = rowR m gs) ⟨v, m, none, none, none, rfl, dv, ok, Same.refl _, rfl⟩ (fun i σ Z _ h => ?_) (fun i x σ Z Z' hi h hy => ?_) (fun σ Z h => ?_)⟩
    · obtain ⟨v', m', y1, y2, y3, rfl, _, _, sZ, _⟩ := h
      exact ⟨fun _ z => sZ.seq z, fun z => Same.tup sZ z⟩
    · obtain ⟨v', m', y1, y2, y3, rfl, hv', ok', sZ, er⟩ := h
      obtain ⟨rfl, hx⟩ := hy
      obtain ⟨t', e, rfl, eg, ht'⟩ := hus i x hx
      have hd : gs.drop i = e :: gs.drop (i + 1) := by
        have hil : i < gs.length := (List.getElem?_eq_some_iff.mp eg).1
        rw [List.drop_eq_getElem_cons hil]
        congr 1
        exact (List.getElem?_eq_some_iff.mp eg).2
      rw [hd] at er
      have er : (match goR m' e.1 e.2 with | .ok m2 => rowR m2 (gs.drop (i + 1)) | .error x => .error x) = rowR m gs := er
      refine ⟨t', _, rfl, Same.sq2 sZ ht', rfl, _, _, rfl, _, _, rfl, rfl, ?_⟩
      refine at_s (σ' := [some v, some (.ref t), some v', some (.int e.1), some (.str (wS e.2)), y3]) rfl ?_
      refine ⟨_, rfl, _, rfl, _, rfl, nil_go ⟨v', m', e.1, e.2, rfl, hv', ok', fun v2 H2 s2 d2 => ?_⟩⟩
      cases hg' : goR m' e.1 e.2 with
      | ok m2 =>
        rw [hg'] at er d2
        obtain ⟨b, x1, x2, rfl, hb, d1, d3⟩ := dpT2 d2
        obtain rfl : x1 = .non := by cases d1; rfl
        refine ⟨b, _, rfl, .inr hb, rfl, _, _, rfl, _, _, rfl, rfl, ?_⟩
        refine at_s (σ' := [some v, some (.ref t), some x2, some (.int e.1), some (.str (wS e.2)), some .non]) rfl ?_
        refine ⟨_, rfl, rfl, false, ?_, iteF ⟨x2, m2, _, _, _, rfl, d3, okMo_goR ok' hg', sZ.trans s2, er⟩⟩
        obtain ⟨z, _, _, _, _, rfl, _⟩ := mo_of d3
        rfl
      | error e2 =>
        rw [hg'] at er d2
        have er : Except.error e2 = rowR m gs := er
        rw [← er] at q
        obtain ⟨b, x1, x2, rfl, hb, d1, d3⟩ := dpT2 d2
        obtain rfl : x2 = .non := by cases d3; rfl
        refine ⟨b, _, rfl, .inr hb, rfl, _, _, rfl, _, _, rfl, rfl, ?_⟩
        refine at_s (σ' := [some v, some (.ref t), some .non, some (.int e.1), some (.str (wS e.2)), some x1]) rfl ?_
        refine ⟨_, rfl, rfl, true, rfl, iteT ⟨_, rfl, (by show 2 ≤ sizeLine; decide), fun t4 n4 => ?_⟩⟩
        have s4 := same_new n4 (o := .tup [x1, .non])
        exact q (.ref t4) _ (s1.trans (sZ.trans (s2.trans s4))) (dp2 upd_same (Dp.same s4 _ d1) .non)
    · obtain ⟨v', m', y1, y2, y3, rfl, hv', ok', sZ, er⟩ := h
      rw [hul, List.drop_length] at er
      have er : Except.ok m' = rowR m gs := er
      rw [← er] at q
      refine ⟨_, rfl, (by show 2 ≤ sizeLine; decide), fun t4 n4 => ?_⟩
      have s4 := same_new n4 (o := .tup [.non, v'])
      exact q (.ref t4) _ (s1.trans (sZ.trans s4)) (dp2 upd_same .non (Dp.same s4 _ hv'))
end
end XL
namespace XL
open PySem PySem.Spec PyProof.Rows L2
section
variable {P : Program} {w : World} {K : PySem.W.Frag} {mg : Str → Option Value} {base : Heap}
abbrev sAg : Stmt := topS 55
abbrev nAg : List Str := ["_law_box_here", "_law_ship_way", "_law_size"]
theorem scAg : FnScope nAg ["_law_box_here", "_law_ship_way"] (defScope sAg) := ⟨rfl, rfl, rfl, by decide +kernel, rfl, by decide +kernel, by decide +kernel⟩
def spAg (K : PySem.W.Frag) : Sp := fun vs H Q _ => ∃ (b : Addr) (v : V) (c : Cn), vs = [.ref b, v] ∧ Bx H b ∧ Dp K H v (cnD c) ∧ okCn 100 100 c ∧ ∀ (i : Int) H', Dr b H H' → Q (.int i) H'
theorem ok_ag {f ft fo : Addr} {fd fdt fdo : FuncData} {k : Nat} (F : Fun K "_law_any_gate" "_law_any_gate" sAg f fd) (Ta : Fns P w K mg base k "_law_take" ["_law_box_here", "_law_size"] spTake ft fdt) (Of : Fns P w K mg base k "_law_of" ["_law_box_here", "_law_some"] (spOf K) fo fdo) (m_len : mg "len" = none) : FnOk P w K mg base CX0 (k + 1) f fd ["_law_box_here", "_law_ship_way"] (spAg K) := by
  refine F.ok scAg (fun vs H Q E h => ?_) (fun cdv A outer s0 H vs Q E hr h => ?_)
  · obtain ⟨b, v, c, rfl, _⟩ := h
    rfl
  obtain ⟨b, v, c, rfl, hb, dv, okc, q⟩ := h
  refine ⟨_, (pss_cons (ps_set (i := 2) scAg.nd rfl (.inl rfl) (pe_callB (r := rLenA K) call_lenA rfl m_len PySem.boot_len (pa_cons (pe_ix (r := rIxA K) ix_any (pv 1) pe_int (fun _ _ => rfl)) pa_nil)))
    (pss_one (ps_ret (pe_ifExp (PW.pt (pw_or (pt_cmpR op_eq (pv 2) pe_int (nomark _)) (pw_or1 (pt_cmpR op_eq (pe_fn Ta hr rfl (pa_cons (pv 0) (pa_cons pe_int pa_nil))) pe_int (nomark _))))) (pe_fn Of hr rfl (pa_cons (pv 0) (pa_cons (pe_lst (pa_cons (pe_un un_neg pe_int) (pa_cons (pv 2) (pa_cons (pe_op op_add (pv 2) pe_int) pa_nil)))) pa_nil))) (pe_fn Ta hr rfl (pa_cons (pv 0) (pa_cons (pv 2) pa_nil))))))), ?_⟩
  obtain ⟨g, gg, gs, rfl, hg, hgg, hgs⟩ := cn_of dv
  have hgl : gs.length = c.ls.length := by rw [DpAll.length hgs, List.length_map]
  have hn := okc.n
  refine ⟨_, rfl, g, _, _, _, rfl, rfl, .inr hg, rfl, nil_go ⟨gg, gs, rfl, .inr hgg, ?_⟩⟩
  refine at_g (σ' := [some (.ref b), some (.ref g), some (.int (gs.length : Nat))]) rfl ?_
  have pick : ∀ H1, Dr b H H1 → (tCall (spOf K) [] E0 (tCons (tVar 0) (tCons (tLst (tCons (tUn (rU fun i => V.int (-i)) (tC (V.int 1))) (tCons (tVar 2) (tCons (tOp (rI0 fun i j => V.int (i + j)) (tVar 2) (tC (V.int 7))) tNil)))) tNil)) : TE) [some (V.ref b), some (V.ref g), some (V.int (gs.length : Nat))] H1 Q := fun H1 d1 => by
    refine ⟨_, rfl, _, rfl, _, rfl, _, rfl, _, _, rfl, rfl, (by show 3 ≤ sizeLine; decide), fun l nl => nil_go ⟨b, l, _, rfl, (Dr.new d1.box nl).box, d1.box.ne nl, SqL.of upd_same, by simp, by show 3 < 1000; decide, fun j u H2 ej d2 => ?_⟩⟩
    have d12 := d1.trans ((Dr.new d1.box nl).trans d2)
    match j, ej with
    | 0, ej => obtain rfl := Option.some.inj ej; exact q _ _ d12
    | 1, ej => obtain rfl := Option.some.inj ej; exact q _ _ d12
    | 2, ej => obtain rfl := Option.some.inj ej; exact q _ _ d12
  by_cases h0 : gs.length = 0
  · refine ⟨_, rfl, rfl, true, congrArg V.bl (decide_eq_true (by rw [h0]; rfl)), ?_⟩
    exact iteT (iteT (pick H (Dr.refl hb)))
  · refine ⟨_, rfl, rfl, false, congrArg V.bl (decide_eq_false fun z => h0 (by have := V.int.inj z; omega)), iteF ?_⟩
    refine ⟨_, rfl, b, 9, rfl, hb, by decide, by decide, fun i H1 i0 i1 d1 => ⟨rfl, _, rfl, ?_⟩⟩
    by_cases hi : V.int i = V.int 0
    · rw [decide_eq_true hi]
      exact iteT (pick H1 d1)
    · rw [decide_eq_false hi]
      exact iteF ⟨_, rfl, _, rfl, nil_go ⟨b, _, rfl, d1.box, by omega, by omega, fun i2 H2 _ _ d2 => q _ _ (d1.trans d2)⟩⟩
end
end XL
namespace XL
open PySem PySem.Spec PyProof.Rows L2
def okDg (m : Mo) : Dd → Prop
  | .dig _ _ _ _ => m.c.ls.length ≤ 8
  | .row gs => gs.length ≤ 50
  | _ => True
/-- a deed, new -/
def DdN (K : PySem.W.Frag) (H H' : Hp) (u : V) : Dd → Prop
  | .row gs => ∃ t g us, u = .ref t ∧ H' t = some (.tup [.str "row", .ref g]) ∧ H g = none ∧ H' g = some (.lst us) ∧ DpAll K H' us (gs.map gD)
  | dd => Dp K H' u (ddD dd)
theorem Dr.free {b p : Addr} {H H' : Hp} (d : Dr b H H') (n : H' p = none) : H p = none := by
  cases e : H p with
  | none => rfl
  | some o =>
    by_cases hp : p = b
    · obtain ⟨x, y, z, e'⟩ := d.box
      rw [hp, e'] at n; cases n
    · rw [d.same p o hp e] at n; cases n
theorem gD_mv (ms : List Mv) : (ms.map fun m => (((m.1 : Nat) : Int), m.2)).map gD = ms.map mvD := by rw [List.map_map]; rfl
theorem dpAll_app {K : PySem.W.Frag} {H : Hp} : ∀ {xs ys : List V} {ds es : List PyData}, DpAll K H xs ds → DpAll K H ys es → DpAll K H (xs ++ ys) (ds ++ es)
  | _, _, _, _, .nil, h => h
  | _, _, _, _, .cons a t, h => .cons a (dpAll_app t h)
theorem noLs_gD : ∀ gs : List (Int × Bool), noLs (gs.map gD) = true
  | [] => rfl
  | g :: gs => by rw [List.map_cons, noLs, noLs_gD gs]; rfl
section
variable {P : Program} {w : World} {K : PySem.W.Frag} {mg : Str → Option Value} {base : Heap}
abbrev sDe : Stmt := topS 56
abbrev nDe : List Str := ["_law_box_here", "_law_s", "_law_ship_way", "_law_mode", "_law_hue", "_law_some", "_law_later", "_law_moves", "_law_nets_red", "_law_nets_blue", "_law_odd", "_law_size", "_law_spot", "_law_ends", "_law_k"]
theorem scDe : FnScope nDe ["_law_box_here", "_law_s"] (defScope sDe) := ⟨rfl, rfl, rfl, by decide +kernel, rfl, by decide +kernel, by decide +kernel⟩
def spDe (K : PySem.W.Frag) : Sp := fun vs H Q _ => ∃ (b : Addr) (v : V) (m : Mo), vs = [.ref b, v] ∧ Bx H b ∧ Dp K H v (moD m) ∧ okMo m ∧ ∀ (dd : Dd) (u : V) H', Dr b H H' → okDd dd → okDg m dd → DdN K H H' u dd → Q u H'
theorem ok_de {f ft fo fs fa fw : Addr} {fd fdt fdo fds fda fdw : FuncData} {k : Nat} (F : Fun K "_law_deed" "_law_deed" sDe f fd) (Ta : Fns P w K mg base k "_law_take" ["_law_box_here", "_law_size"] spTake ft fdt) (Of : Fns P w K mg base k "_law_of" ["_law_box_here", "_law_some"] (spOf K) fo fdo) (St : Fns P w K mg base k "_law_steps" ["_law_ship_way", "_law_lying_here"] (spSt K) fs fds) (Ag : Fns P w K mg base k "_law_any_gate" ["_law_box_here", "_law_ship_way"] (spAg K) fa fda)
    (Wa : Fns P w K mg base k "_law_walk" ["_law_box_here", "_law_ship_way", "_law_lying_here", "_law_most"] (spWk K) fw fdw) (m_len : mg "len" = none) (m_int : mg "int" = none) (m_range : mg "range" = none) (m_tuple : mg "tuple" = none) : FnOk P w K mg base CX0 (k + 1) f fd ["_law_box_here", "_law_s"] (spDe K) := by
  refine F.ok scDe (fun vs H Q E h => ?_) (fun cdv A outer s0 H vs Q E hr h => ?_)
  · obtain ⟨b, v, m, rfl, _⟩ := h
    rfl
  obtain ⟨b, v, m, rfl, hb, dv, ok, q⟩ := h
  refine ⟨_, (pss_cons (ps_asg (pe_tup (pa_cons (pe_ix (r := rIxA K) ix_any (pv 1) pe_int (fun _ _ => rfl)) (pa_cons (pe_fn Ta hr rfl (pa_cons (pv 0) (pa_cons pe_int pa_nil))) (pa_cons (pe_fn Of hr rfl (pa_cons (pv 0) (pa_cons (pe_lst (pa_cons pe_str (pa_cons pe_str pa_nil))) pa_nil))) pa_nil)))) (pg_any rfl (pgs_cons (pg_name (i := 2) scDe.nd rfl (.inr rfl)) (pgs_cons (pg_name (i := 3) scDe.nd rfl (.inl rfl)) (pgs_cons (pg_name (i := 4) scDe.nd rfl (.inl rfl)) pgs_nil)))))
    (pss_cons (ps_set (i := 5) scDe.nd rfl (.inl rfl) (pe_fn St hr rfl (pa_cons (pv 2) (pa_cons (pe_ix (r := rIxA K) ix_any (pv 1) pe_int (fun _ _ => rfl)) pa_nil))))
    (pss_cons (ps_if (PW.pt (pw_and (pt_cmpR op_lt (pv 3) pe_int (nomark _)) (pw_and1 (pt_cmpR (op_neD hr.units) (pv 5) (pe_lst pa_nil) (nomark _))))) (pss_one (ps_ret (pe_op op_catU (pe_tup (pa_cons pe_str pa_nil)) (pe_fn Of hr rfl (pa_cons (pv 0) (pa_cons (pv 5) pa_nil)))))) pss_nil)
    (pss_cons (ps_if (pt_cmpR op_lt (pv 3) pe_int (nomark _)) (pss_one (ps_ret (pe_tup (pa_cons pe_str (pa_cons (pe_fn Ag hr rfl (pa_cons (pv 0) (pa_cons (pv 2) pa_nil))) (pa_cons (pv 4) pa_nil)))))) pss_nil)
    (pss_cons (ps_if (pt_cmpR op_eq (pv 3) pe_int (nomark _)) (pss_cons (ps_asg (pe_fn Wa hr rfl (pa_cons (pv 0) (pa_cons (pv 2) (pa_cons (pe_ix (r := rIxA K) ix_any (pv 1) pe_int (fun _ _ => rfl)) (pa_cons (pe_fn Ta hr rfl (pa_cons (pv 0) (pa_cons pe_int pa_nil))) pa_nil))))) (pg_any rfl (pgs_cons (pg_name (i := 6) scDe.nd rfl (.inl rfl)) (pgs_cons (pg_name (i := 7) scDe.nd rfl (.inl rfl)) (pgs_cons (pg_name (i := 8) scDe.nd rfl (.inl rfl)) (pgs_cons (pg_name (i := 9) scDe.nd rfl (.inl rfl)) pgs_nil))))))
    (pss_cons (ps_set (i := 10) scDe.nd rfl (.inl rfl) (pe_ifExp (pt_cmpR op_eq (pe_fn Ta hr rfl (pa_cons (pv 0) (pa_cons pe_int pa_nil))) pe_int (nomark _)) (pe_lst (pa_cons (pe_tup (pa_cons (pe_fn Ag hr rfl (pa_cons (pv 0) (pa_cons (pv 2) pa_nil))) (pa_cons (pv 4) pa_nil))) pa_nil)) (pe_lst pa_nil)))
    (pss_one (ps_ret (pe_tup (pa_cons pe_str (pa_cons (pe_op op_catL (pv 7) (pv 10)) pa_nil))))))) pss_nil)
    (pss_cons (ps_if (pt_cmpR op_lt (pv 3) pe_int (nomark _)) (pss_cons (ps_set (i := 11) scDe.nd rfl (.inl rfl) (pe_ix (r := rIxA K) ix_any (pv 2) (pe_callTy call_int1 rfl m_int boot_int' (pa_cons (pe_cmpR op_eq (pv 4) pe_str (nomark _)) pa_nil)) (fun _ _ => rfl)))
    (pss_cons (ps_set (i := 12) scDe.nd rfl (.inl rfl) (pe_ifExp (pt_cmpR op_eq (pe_fn Ta hr rfl (pa_cons (pv 0) (pa_cons pe_int pa_nil))) pe_int (nomark _)) (pe_fn Of hr rfl (pa_cons (pv 0) (pa_cons (pe_lst (pa_cons (pe_un un_neg pe_int) (pa_cons (pv 11) pa_nil))) pa_nil))) (pe_fn Ta hr rfl (pa_cons (pv 0) (pa_cons (pv 11) pa_nil)))))
    (pss_one (ps_ret (pe_tup (pa_cons (pe_ix (r := rIxA K) ix_any (pe_lst (pa_cons pe_str (pa_cons pe_str pa_nil))) (pe_op op_sub (pv 3) pe_int) (fun _ _ => rfl)) (pa_cons (pv 4) (pa_cons (pv 12) (pa_cons (pe_op op_add pe_int (pe_fn Ta hr rfl (pa_cons (pv 0) (pa_cons (pe_ix (r := rIxA K) ix_any (pe_lst (pa_cons pe_int (pa_cons pe_int (pa_cons (pe_op op_pow pe_int pe_int) pa_nil)))) (pe_fn Ta hr rfl (pa_cons (pv 0) (pa_cons pe_int pa_nil))) (fun _ _ => rfl)) pa_nil)))) pa_nil))))))))) pss_nil)
    (pss_cons (ps_if (PW.pt (pw_or (pt_cmpR op_eq (pv 3) pe_int (nomark _)) (pw_or1 (pt_cmpR op_gt (pe_callB (r := rLenA K) call_lenA rfl m_len PySem.boot_len (pa_cons (pe_ix (r := rIxA K) ix_any (pv 2) pe_int (fun _ _ => rfl)) pa_nil)) pe_int (nomark _))))) (pss_one (ps_ret (pe_tup (pa_cons pe_str (pa_cons (pe_fn Ag hr rfl (pa_cons (pv 0) (pa_cons (pv 2) pa_nil))) pa_nil))))) pss_nil)
    (pss_cons (ps_setLc (i := 13) (own := [("_law_k", 14)]) (g := gName 14) (tt := tYes) rfl scDe.nd rfl rfl (sw_true rfl rfl rfl (by decide +kernel)) (pi_range1 rfl m_range (pa_cons pe_int pa_nil)) (blkOk_by (own := [("_law_k", 14)]) (N := nDe) (sc := defScope sDe) (by decide +kernel)) (fun _ _ _ _ _ => (pg_name (i := 14) scDe.nd rfl (.inl rfl))) (fun _ _ _ _ _ => pts_nil) (fun _ _ _ _ _ => pe_hide (pe_fn Ta hr rfl (pa_cons (pv 0) (pa_cons (pe_ix (r := rIxA K) ix_any (pv 2) (pe_op op_fdivN (pv 14) pe_int) (fun _ _ => rfl)) pa_nil)))))
    (pss_cons (ps_if (pt_cmpR op_eq (pe_fn Ta hr rfl (pa_cons (pv 0) (pa_cons pe_int pa_nil))) pe_int (nomark _)) (pss_one (ps_asg (pe_fn Of hr rfl (pa_cons (pv 0) (pa_cons (pe_lst (pa_cons (pe_un un_neg pe_int) (pa_cons pe_int pa_nil))) pa_nil))) (pg_sub (pv 13) (pe_fn Ta hr rfl (pa_cons (pv 0) (pa_cons pe_int pa_nil))) set_list))) pss_nil)
    (pss_one (ps_ret (pe_op op_catU (pe_tup (pa_cons pe_str pa_nil)) (pe_callTy (r := rTupA K) call_tupleA rfl m_tuple boot_tuple (pa_cons (pv 13) pa_nil)))))))))))))), ?_⟩
  obtain ⟨a, vc, vs, vh, vw, rfl, ha, hc, hs, hh, hw⟩ := mo_of dv
  obtain ⟨B, os⟩ := ok.s
  obtain ⟨g, gg, gs, rfl, hg, hgg, hgs⟩ := cn_of hc
  have hgl : gs.length = m.c.ls.length := by rw [DpAll.length hgs, List.length_map]
  have hnl := ok.c.n
  refine ⟨_, rfl, a, _, _, _, rfl, rfl, .inr ha, rfl, _, rfl, b, 9, rfl, hb, by decide, by decide, fun mode H1 i0 i1 d1 => ⟨_, rfl, (by show 2 ≤ sizeLine; decide), fun l nl => nil_go ⟨b, l, _, rfl, (Dr.new d1.box nl).box, d1.box.ne nl, SqL.of upd_same, by simp, by show 2 < 1000; decide, fun j u H2 ej d2 => ?_⟩⟩⟩
  have d12 := d1.trans ((Dr.new d1.box nl).trans d2)
  obtain ⟨r, rfl⟩ : ∃ r, u = .str (wS r) := by
    match j, ej with
    | 0, ej => exact ⟨true, (Option.some.inj ej).symm⟩
    | 1, ej => exact ⟨false, (Option.some.inj ej).symm⟩
  clear ej d2 d1 nl
  refine ⟨(by show 3 ≤ sizeLine; decide), fun t nt => ?_⟩
  have d3 := d12.trans (Dr.new d12.box nt (o := .tup [.ref g, .int mode, .str (wS r)]))
  refine ⟨t, _, rfl, .inr (.inl (.inl upd_same)), rfl, _, _, rfl, _, _, rfl, _, _, rfl, rfl, ?_⟩
  generalize upd H2 t (.tup [.ref g, .int mode, .str (wS r)]) = H3 at d3
  refine at_s (σ' := [some (.ref b), some (.ref a), some (.ref g), some (.int mode), some (.str (wS r)), none, none, none, none, none, none, none, none, none, none]) rfl ?_
  clear d12 nt
  have tp3 := d3.tp hb
  have dc3 : Dp K H3 (.ref g) (cnD m.c) := Dp.tp tp3 _ (noL_cn m.c) hc
  have ds3 : Dp K H3 vs (snD m.s) := Dp.tp tp3 _ (noL_sn m.s) hs
  have ha3 := tp3.sqT ha
  refine ⟨_, rfl, _, rfl, a, _, _, _, rfl, rfl, .inr ha3, rfl, nil_go ⟨.ref g, vs, m.c, m.s, B, rfl, dc3, snAny_t ds3, ok.c, os, fun sm ss H4 s4 nsm M4 => ?_⟩⟩
  refine at_g (σ' := [some (.ref b), some (.ref a), some (.ref g), some (.int mode), some (.str (wS r)), some (.ref sm), none, none, none, none, none, none, none, none, none]) rfl ?_
  have d4 : Dr b H H4 := d3.trans (Dr.of d3.box s4)
  clear d3 tp3 dc3 ds3 ha3
  have hsb : sm ≠ b := fun z => by
    obtain ⟨x, y, w', e⟩ := d4.box
    rw [← z, M4.e] at e
    have : ss = [.int x, .int y, .int w'] := by injection e with e; injection e
    have h3 := M4.d 0 _ (by rw [this]; rfl)
    obtain ⟨_, _, h3, _⟩ := h3
    cases h3
  have hss : ss.length ≤ 200 := by
    have h1 := may_len m.c m.s m.c.ls.length
    rw [M4.l]; omega
  dsimp only
  refine seq1 (fun σ G => σ = [some (.ref b), some (.ref a), some (.ref g), some (.int mode), some (.str (wS r)), some (.ref sm), none, none, none, none, none, none, none, none, none] ∧ Dr b H G) (fun N hN => ?_) (fun σ G h => ?_)
  · by_cases h3 : mode < 3
    rotate_left
    · exact ⟨_, rfl, _, _, rfl, rfl, false, congrArg V.bl (decide_eq_false h3), iteF (iteF (hN _ _ ⟨rfl, d4⟩))⟩
    refine ⟨_, rfl, _, _, rfl, rfl, true, congrArg V.bl (decide_eq_true h3), iteT ⟨_, rfl, (by show 0 ≤ sizeLine; decide), fun z nz => ?_⟩⟩
    have sz : Same H4 (upd H4 z (.lst [])) := same_new nz
    have M6 := M4.move (sz _ _ M4.e) (Tp.of sz)
    refine ⟨.list ((may m.c m.s m.c.ls.length).map mvD), .list [], .lst (SqL.of M6.e) (MvAt.dp (a := sm) M6.l M6.d), .lst (SqL.of upd_same) .nil, mvs_shaped _, nil_shaped, _, rfl, ?_⟩
    have d6 := d4.trans (Dr.of d4.box sz)
    rw [mvs_nil]
    generalize upd H4 z (.lst []) = H6 at sz M6 d6
    cases hmay : may m.c m.s m.c.ls.length with
    | nil => exact iteF (hN _ _ ⟨rfl, d6⟩)
    | cons m0 mr =>
      rw [hmay] at M6
      have hs0 : ss ≠ [] := fun z => by have := M6.l; rw [z] at this; simp at this
      refine iteT ⟨(by show 1 ≤ sizeLine; decide), fun t1 n1 => ⟨_, rfl, _, rfl, nil_go ⟨b, sm, ss, rfl, (Dr.new d6.box n1).box, hsb, SqL.of ((same_new n1) _ _ M6.e), hs0, by omega, fun j vv H7 ej d7 => ?_⟩⟩⟩
      obtain ⟨mt, mm, rfl, em, et⟩ := M6.d j vv ej
      have tp7 := d7.tp (Dr.new d6.box n1 (o := .tup [.str "go"])).box
      have et7 : H7 mt = some (.tup (mvV mm)) := tp7.t _ _ ((same_new n1) _ _ et)
      have e17 : H7 t1 = some (.tup [.str "go"]) := tp7.t _ _ upd_same
      refine ⟨t1, mt, _, _, rfl, rfl, .inl (.inl e17), .inl (.inl et7), (by show 3 ≤ sizeLine; decide), fun p H8 s8 e8 => ?_⟩
      have d17 : Dr b H H7 := d6.trans ((Dr.new d6.box n1).trans d7)
      exact q (.go mm.1 mm.2) (.ref p) H8 (d17.trans (Dr.of d17.box s8)) trivial trivial (show Dp K H8 (.ref p) (.tuple _) from .tup e8 (.cons (.str _) (.cons (.int _) (.cons (.str _) .nil))))
  obtain ⟨rfl, d5⟩ := h
  clear d4 s4
  have anyG : ∀ {G : Hp} {Qg : VK} {σ : L2.St}, Dr b H G → σ[0]? = some (some (.ref b)) → σ[2]? = some (some (.ref g)) → (∀ (i : Int) G2, Dr b G G2 → Qg (.int i) G2) → (tCall (spAg K) [] E0 (tCons (tVar 0) (tCons (tVar 2) tNil)) : TE) σ G Qg := fun {G Qg σ} d e0 e2 hq => ⟨_, e0, _, e2, nil_go ⟨b, .ref g, m.c, rfl, d.box, Dp.tp (d.tp hb) _ (noL_cn m.c) hc, ok.c, hq⟩⟩
  -- a going anywhere
  by_cases h4 : mode < 4
  · refine ⟨_, rfl, _, _, rfl, rfl, true, congrArg V.bl (decide_eq_true h4), iteT (anyG d5 rfl rfl fun i G2 d6 => ⟨_, rfl, (by show 3 ≤ sizeLine; decide), fun t1 n1 => ?_⟩)⟩
    have d7 := Dr.new (o := .tup [.str "go", .int i, .str (wS r)]) d6.box n1
    exact q (.go i r) (.ref t1) _ (d5.trans (d6.trans d7)) trivial trivial (show Dp K _ (.ref t1) (.tuple _) from .tup (.inl (.inl upd_same)) (.cons (.str _) (.cons (.int _) (.cons (.str _) .nil))))
  refine ⟨_, rfl, _, _, rfl, rfl, false, congrArg V.bl (decide_eq_false h4), iteF ?_⟩
  dsimp only
  -- a row
  by_cases h5 : mode = 4
  · have tp5 := d5.tp hb
    refine ⟨_, rfl, rfl, true, congrArg V.bl (decide_eq_true (by rw [h5])), iteT ⟨_, rfl, _, rfl, _, rfl, a, _, _, _, rfl, rfl, .inr (tp5.sqT ha), rfl, _, rfl, b, 6, rfl, d5.box, by decide, by decide, fun n H6 n0 n1 d6 => ?_⟩⟩
    obtain ⟨n', rfl⟩ : ∃ n' : Nat, n = n' := ⟨n.toNat, by omega⟩
    have d56 := d5.trans d6
    have tp6 := d56.tp hb
    refine ⟨b, .ref g, vs, n', m.c, m.s, B, rfl, d6.box, Dp.tp tp6 _ (noL_cn m.c) hc, Dp.tp tp6 _ (noL_sn m.s) hs, ok.c, os, by omega, fun ms t wl nl nr nb u' us H7 H8 hml W s8 nt et => ?_⟩
    refine ⟨t, _, rfl, .inr (.inl (.inl et)), rfl, _, _, rfl, _, _, rfl, _, _, rfl, _, _, rfl, rfl, ?_⟩
    refine at_s (σ' := [some (.ref b), some (.ref a), some (.ref g), some (.int mode), some (.str (wS r)), some (.ref sm), some u', some (.ref wl), some (.ref nr), some (.ref nb), none, none, none, none, none]) rfl ?_
    have d58 := d56.trans (W.dr.trans (Dr.of W.dr.box s8))
    have M8 := W.mv.move (s8 _ _ W.mv.e) (Tp.of s8)
    dsimp only
    refine seq1 (fun σ G => ∃ (ol : Addr) (ous : List V) (ogs : List (Int × Bool)), σ = [some (.ref b), some (.ref a), some (.ref g), some (.int mode), some (.str (wS r)), some (.ref sm), some u', some (.ref wl), some (.ref nr), some (.ref nb), some (.ref ol), none, none, none, none] ∧ Dr b H8 G ∧ G ol = some (.lst ous) ∧ DpAll K G ous (ogs.map gD) ∧ ous.length ≤ 1) (fun N hN => ?_) (fun σ G h => ?_)
    · refine ⟨_, rfl, b, 3, rfl, d58.box, by decide, by decide, fun i3 G3 _ _ d9 => ⟨rfl, _, rfl, ?_⟩⟩
      by_cases hi3 : V.int i3 = V.int 0
      · rw [decide_eq_true hi3]
        refine iteT (anyG (d58.trans d9) rfl rfl fun i G4 d10 => ⟨_, rfl, (by show 2 ≤ sizeLine; decide), fun t1 n1 => ⟨(by show 1 ≤ sizeLine; decide), fun ol no => ?_⟩⟩)
        have d11 := Dr.new (o := .tup [.int i, .str (wS r)]) d10.box n1
        have d12 := Dr.new (o := .lst [.ref t1]) d11.box no
        refine at_g (σ' := [some (.ref b), some (.ref a), some (.ref g), some (.int mode), some (.str (wS r)), some (.ref sm), some u', some (.ref wl), some (.ref nr), some (.ref nb), some (.ref ol), none, none, none, none]) rfl ?_
        exact hN _ _ ⟨ol, _, [(i, r)], rfl, d9.trans (d10.trans (d11.trans d12)), upd_same, .cons (dp2 ((same_new no) _ _ upd_same) (.int _) (.str _)) .nil, Nat.le_refl 1⟩
      · rw [decide_eq_false hi3]
        refine iteF ⟨(by show 0 ≤ sizeLine; decide), fun ol no => ?_⟩
        have d12 := Dr.new (o := .lst []) d9.box no
        refine at_g (σ' := [some (.ref b), some (.ref a), some (.ref g), some (.int mode), some (.str (wS r)), some (.ref sm), some u', some (.ref wl), some (.ref nr), some (.ref nb), some (.ref ol), none, none, none, none]) rfl ?_
        exact hN _ _ ⟨ol, _, [], rfl, d9.trans d12, upd_same, .nil, by decide⟩
    · obtain ⟨ol, ous, ogs, rfl, dG, eol, dol, hol⟩ := h
      have M9 := M8.move (dG.same _ _ W.ne.1.1 M8.e) (dG.tp d58.box)
      have hul := M9.l
      refine ⟨_, rfl, _, rfl, wl, ol, _, _, rfl, rfl, SqL.of M9.e, SqL.of eol, Nat.le_of_lt (small1000 (n := us.length + ous.length) (by omega)), fun p np => ⟨(by show 2 ≤ sizeLine; decide), fun t2 n2 => ?_⟩⟩
      have d1 := Dr.new (o := .lst (us ++ ous)) dG.box np
      have s2 := same_new n2 (o := .tup [.str "row", .ref p])
      have d2 := Dr.of d1.box s2
      have s12 := (same_new np (o := .lst (us ++ ous))).trans s2
      refine q (.row ((ms.map fun m => (((m.1 : Nat) : Int), m.2)) ++ ogs)) (.ref t2) _ ((d58.trans dG).trans (d1.trans d2)) trivial ?_ ⟨t2, p, us ++ ous, rfl, upd_same, (d58.trans dG).free np, s2 _ _ upd_same, ?_⟩
      · show ((ms.map fun m => (((m.1 : Nat) : Int), m.2)) ++ ogs).length ≤ 50
        have := DpAll.length dol
        rw [List.length_map] at this
        rw [List.length_append, List.length_map]; omega
      · rw [List.map_append, gD_mv]
        exact dpAll_app (DpAll.same s12 _ (MvAt.dp (a := wl) M9.l M9.d)) (DpAll.same s12 _ dol)
  refine ⟨_, rfl, rfl, false, congrArg V.bl (decide_eq_false fun z => h5 (V.int.inj z)), iteF ?_⟩
  dsimp only
  have gat : atI [V.int m.c.r, .int m.c.b, .ref gg] ((plW r : Nat) : Int) = some (.int (many m r)) := by cases r <;> rfl
  have okr : 1 ≤ many m r ∧ many m r ≤ 100 := by
    have := ok.c.r1; have := ok.c.r2; have := ok.c.b1; have := ok.c.b2
    cases r with
    | true => show 1 ≤ m.c.r ∧ m.c.r ≤ 100; omega
    | false => show 1 ≤ m.c.b ∧ m.c.b ≤ 100; omega
  have hgD : ∀ {G : Hp}, Dr b H G → SqT K G g [V.int m.c.r, .int m.c.b, .ref gg] := fun d => (d.tp hb).sqT hg
  -- boats put in or taken out
  by_cases h7 : mode < 7
  · refine ⟨_, rfl, _, _, rfl, rfl, true, congrArg V.bl (decide_eq_true h7), iteT ⟨_, rfl, _, rfl, rfl, nil_go (.inr ⟨_, rfl, ?_⟩)⟩⟩
    rw [plW_eq]
    refine ⟨g, _, _, _, rfl, rfl, .inr (hgD d5), gat, ?_⟩
    refine at_g (σ' := [some (.ref b), some (.ref a), some (.ref g), some (.int mode), some (.str (wS r)), some (.ref sm), none, none, none, none, none, some (.int (many m r)), none, none, none]) rfl ?_
    dsimp only
    refine seq1 (fun σ G => ∃ i : Int, σ = [some (.ref b), some (.ref a), some (.ref g), some (.int mode), some (.str (wS r)), some (.ref sm), none, none, none, none, none, some (.int (many m r)), some (.int i), none, none] ∧ Dr b H G) (fun N hN => ?_) (fun σ G h => ?_)
    · refine ⟨_, rfl, b, 9, rfl, d5.box, by decide, by decide, fun i3 G3 _ _ d9 => ⟨rfl, _, rfl, ?_⟩⟩
      by_cases hi3 : V.int i3 = V.int 0
      · rw [decide_eq_true hi3]
        refine iteT ⟨_, rfl, _, rfl, _, rfl, (by show 2 ≤ sizeLine; decide), fun l nl => nil_go ⟨b, l, _, rfl, (Dr.new d9.box nl).box, d9.box.ne nl, SqL.of upd_same, by simp, by show 2 < 1000; decide, fun j u H2 ej d2 => ?_⟩⟩
        have d12 := d5.trans (d9.trans ((Dr.new d9.box nl).trans d2))
        obtain ⟨i, rfl⟩ : ∃ i : Int, u = .int i := by
          match j, ej with
          | 0, ej => exact ⟨_, (Option.some.inj ej).symm⟩
          | 1, ej => exact ⟨_, (Option.some.inj ej).symm⟩
        refine at_g (σ' := [some (.ref b), some (.ref a), some (.ref g), some (.int mode), some (.str (wS r)), some (.ref sm), none, none, none, none, none, some (.int (many m r)), some (.int i), none, none]) rfl ?_
        exact hN _ _ ⟨i, rfl, d12⟩
      · rw [decide_eq_false hi3]
        refine iteF ⟨_, rfl, _, rfl, nil_go ⟨b, _, rfl, d9.box, by omega, by omega, fun i H2 _ _ d2 => ?_⟩⟩
        refine at_g (σ' := [some (.ref b), some (.ref a), some (.ref g), some (.int mode), some (.str (wS r)), some (.ref sm), none, none, none, none, none, some (.int (many m r)), some (.int i), none, none]) rfl ?_
        exact hN _ _ ⟨i, rfl, d5.trans (d9.trans d2)⟩
    · obtain ⟨i, rfl, dG⟩ := h
      refine ⟨(by show 2 ≤ sizeLine; decide), fun l1 n1 => ?_⟩
      have d1 := Dr.new (o := .lst [.str "fill", .str "drain"]) dG.box n1
      obtain ⟨fl, hat, hfl⟩ : ∃ fl : Bool, atI [V.str "fill", .str "drain"] (mode - 5) = some (.str (if fl = true then "fill" else "drain")) ∧ (fl = true ∨ fl = false) := by
        rcases (show mode = 5 ∨ mode = 6 by omega) with rfl | rfl
        · exact ⟨true, rfl, .inl rfl⟩
        · exact ⟨false, rfl, .inr rfl⟩
      refine ⟨_, rfl, _, _, rfl, rfl, l1, _, _, _, rfl, rfl, .inl (SqL.of upd_same), hat, _, rfl, _, rfl, _, rfl, ?_⟩
      generalize upd G l1 (.lst [.str "fill", .str "drain"]) = G1 at d1
      refine ⟨_, _, rfl, rfl, ⟨by decide, by decide, by decide⟩, (by show 3 ≤ sizeLine; decide), fun l2 n2 => ⟨_, rfl, b, 3, rfl, (Dr.new d1.box n2).box, by decide, by decide, fun j G2 j0 j1 d2 => ?_⟩⟩
      have hl2 := d2.sqL (K := K) (d1.box.ne n2) (SqL.of upd_same)
      obtain ⟨n, hn, n0, n1⟩ : ∃ n : Int, atI [V.int 3, .int 3, .int (10 ^ (10 : Int).toNat)] j = some (.int n) ∧ 0 < n ∧ n < 10000000000000 := by
        rcases (show j = 0 ∨ j = 1 ∨ j = 2 by omega) with rfl | rfl | rfl
        · exact ⟨3, rfl, by decide, by decide⟩
        · exact ⟨3, rfl, by decide, by decide⟩
        · exact ⟨10 ^ (10 : Int).toNat, rfl, by decide, by decide⟩
      refine ⟨l2, _, _, _, rfl, rfl, .inl hl2, hn, nil_go ⟨b, n, rfl, d2.box, n0, n1, fun x G3 x0 x1 d3 => ⟨_, _, rfl, rfl, nil_go ⟨(by show 4 ≤ sizeLine; decide), fun t nt => ?_⟩⟩⟩⟩
      have d5' := Dr.new (o := .tup [.str (if fl = true then "fill" else "drain"), .str (wS r), .int i, .int (1 + x)]) d3.box nt
      have dz := dG.trans (d1.trans ((Dr.new d1.box n2).trans (d2.trans (d3.trans d5'))))
      rcases hfl with rfl | rfl
      · exact q (.fill r i (1 + x)) (.ref t) _ dz (show 0 ≤ 1 + x by omega) trivial (show Dp K _ (.ref t) (.tuple _) from .tup (.inl (.inl upd_same)) (.cons (.str _) (.cons (.str _) (.cons (.int _) (.cons (.int _) .nil)))))
      · exact q (.drain r i (1 + x)) (.ref t) _ dz (show 0 ≤ 1 + x by omega) trivial (show Dp K _ (.ref t) (.tuple _) from .tup (.inl (.inl upd_same)) (.cons (.str _) (.cons (.str _) (.cons (.int _) (.cons (.int _) .nil)))))
  refine ⟨_, rfl, _, _, rfl, rfl, false, congrArg V.bl (decide_eq_false h7), iteF ?_⟩
  dsimp only
  -- a lock turned
  have turned : ∀ {σ : L2.St}, σ[0]? = some (some (.ref b)) → σ[2]? = some (some (.ref g)) → (tRet (tTup (tCons (tC (.str "turn")) (tCons (tCall (spAg K) [] E0 (tCons (tVar 0) (tCons (tVar 2) tNil))) tNil))) : TS) { nx := fun x H' => Q V.non H', rt := Q } σ G := fun {σ} e0 e2 => anyG d5 e0 e2 fun i G2 d6 => ⟨(by show 2 ≤ sizeLine; decide), fun t1 n1 => by
    have d7 := Dr.new (o := .tup [.str "turn", .int i]) d6.box n1
    exact q (.turn i) (.ref t1) _ (d5.trans (d6.trans d7)) trivial trivial (show Dp K _ (.ref t1) (.tuple _) from .tup (.inl (.inl upd_same)) (.cons (.str _) (.cons (.int _) .nil)))⟩
  by_cases h8 : mode = 7
  · exact ⟨_, rfl, rfl, true, congrArg V.bl (decide_eq_true (by rw [h8])), iteT (iteT (turned rfl rfl))⟩
  refine ⟨_, rfl, rfl, false, congrArg V.bl (decide_eq_false fun z => h8 (V.int.inj z)), iteF ⟨_, rfl, g, _, _, _, rfl, rfl, .inr (hgD d5), rfl, nil_go ⟨gg, gs, rfl, .inr ((d5.tp hb).sqT hgg), _, _, rfl, rfl, _, rfl, ?_⟩⟩⟩
  by_cases h9 : (8 : Int) < (gs.length : Nat)
  · rw [decide_eq_true h9]
    exact iteT (turned rfl rfl)
  rw [decide_eq_false h9]
  refine iteF ?_
  clear turned
  dsimp only
  -- a lock dug
  refine ⟨4, rfl, by decide, by decide, lc_map walk_range (Dr b) (fun a b => a.trans b) (fun j y F => ∃ z : Int, y = .int z) (fun j y A B _ p => p) (by decide) (Dr.refl d5.box) (fun _ _ _ _ _ => trivial) (fun j x D2 acc2 F2 H2 hj nD2 dF2 nF2 hy B hB => ?_) (fun D ys F nD dF nF hl hR => ?_)⟩
  · obtain ⟨rfl, rfl⟩ := hy
    refine hB _ F2 rfl nF2 fun Qt hq => ?_
    obtain ⟨n, hn, n0, n1⟩ : ∃ n : Int, atI [V.int m.c.r, .int m.c.b, .ref gg] (((0 : Int) + (j : Nat)).fdiv 2) = some (.int n) ∧ 1 ≤ n ∧ n ≤ 100 := by
      have r1 := ok.c.r1; have r2 := ok.c.r2; have b1 := ok.c.b1; have b2 := ok.c.b2
      match j, hj with
      | 0, _ => exact ⟨_, rfl, r1, r2⟩
      | 1, _ => exact ⟨_, rfl, r1, r2⟩
      | 2, _ => exact ⟨_, rfl, b1, b2⟩
      | 3, _ => exact ⟨_, rfl, b1, b2⟩
    refine ⟨_, rfl, _, rfl, _, rfl, _, _, rfl, rfl, ⟨by decide, by decide⟩, g, _, _, _, rfl, rfl, .inr (hgD (d5.trans dF2)), hn, ?_⟩
    exact nil_go ⟨b, n, rfl, dF2.box, by omega, by omega, fun v F3 v0 v1 d3 => hq _ _ d3 ⟨v, rfl⟩⟩
  obtain ⟨zs, rfl⟩ := ints_of fun j y e => let ⟨z, ez⟩ := hR j y e; ⟨z, ez⟩
  have hDb : D ≠ b := dF.box.ne nF
  have hDH : H D = none := (d5.trans dF).free nF
  have d6 : Dr b H (upd F D (.lst (zs.map V.int))) := d5.trans (dF.trans (Dr.new dF.box nF))
  have hl4 : zs.length = 4 := by rw [List.length_map] at hl; exact hl
  refine at_g (σ' := [some (.ref b), some (.ref a), some (.ref g), some (.int mode), some (.str (wS r)), some (.ref sm), none, none, none, none, none, none, none, some (.ref D), none]) rfl ?_
  have eD : (upd F D (.lst (zs.map V.int))) D = some (.lst (zs.map V.int)) := upd_same
  generalize upd F D (.lst (zs.map V.int)) = H6 at d6 eD
  clear hR nF dF hl
  dsimp only
  refine seq1 (fun σ G => ∃ zs : List Int, σ = [some (.ref b), some (.ref a), some (.ref g), some (.int mode), some (.str (wS r)), some (.ref sm), none, none, none, none, none, none, none, some (.ref D), none] ∧ Dr b H G ∧ G D = some (.lst (zs.map V.int)) ∧ zs.length = 4) (fun N hN => ?_) (fun σ G h => ?_)
  · refine ⟨_, rfl, b, 5, rfl, d6.box, by decide, by decide, fun i3 G3 _ _ d9 => ⟨rfl, _, rfl, ?_⟩⟩
    by_cases hi3 : V.int i3 = V.int 0
    · rw [decide_eq_true hi3]
      refine iteT ⟨_, rfl, _, rfl, (by show 2 ≤ sizeLine; decide), fun l nl => nil_go ⟨b, l, _, rfl, (Dr.new d9.box nl).box, d9.box.ne nl, SqL.of upd_same, by simp, by show 2 < 1000; decide, fun j u H2 ej d2 => ?_⟩⟩
      have d12 := d9.trans ((Dr.new d9.box nl).trans d2)
      obtain ⟨i, rfl⟩ : ∃ i : Int, u = .int i := by
        match j, ej with
        | 0, ej => exact ⟨_, (Option.some.inj ej).symm⟩
        | 1, ej => exact ⟨_, (Option.some.inj ej).symm⟩
      refine ⟨_, rfl, _, rfl, b, 4, rfl, d2.box, by decide, by decide, fun i4 H4 i40 i41 d4 => ?_⟩
      have d13 := d12.trans d4
      obtain ⟨j4, rfl⟩ : ∃ n : Nat, i4 = n := ⟨i4.toNat, by omega⟩
      refine ⟨D, zs.map V.int, (j4 : Int), j4, rfl, rfl, d13.same _ _ hDb eD, ?_, ?_⟩
      · rw [List.length_map, hl4]; unfold ixN; simp; omega
      · refine hN _ _ ⟨zs.set j4 i, rfl, ⟨?_, fun x o hx e => ?_⟩, by rw [upd_same, set_ints], by rw [List.length_set]; exact hl4⟩
        · obtain ⟨x, y, z, e⟩ := d13.box
          exact ⟨x, y, z, by rw [upd_ne hDb.symm]; exact e⟩
        · rw [upd_ne (fun z => by rw [z, hDH] at e; cases e)]
          exact (d6.trans d13).same x o hx e
    · rw [decide_eq_false hi3]
      exact iteF (hN _ _ ⟨zs, rfl, d6.trans d9, d9.same _ _ hDb eD, hl4⟩)
  · obtain ⟨zs, rfl, dG, eG, hl4⟩ := h
    obtain ⟨p, c, x, y, rfl⟩ : ∃ p c x y, zs = [p, c, x, y] := by
      match zs, hl4 with
      | [p, c, x, y], _ => exact ⟨p, c, x, y, rfl⟩
    refine ⟨(by show 1 ≤ sizeLine; decide), fun t1 n1 => ⟨_, rfl, nil_go ⟨D, _, rfl, .inl ⟨SqL.of ((same_new n1) _ _ eG), fun t2 n2 => ?_⟩⟩⟩⟩
    have s2 := same_new n2 (o := .tup ([p, c, x, y].map V.int))
    have d1 := Dr.new (o := .tup [.str "dig"]) dG.box n1
    refine ⟨t1, t2, _, _, rfl, rfl, .inl (.inl (s2 _ _ upd_same)), .inl (.inl upd_same), (by show 5 ≤ sizeLine; decide), fun p5 H8 s8 e8 => ?_⟩
    exact q (.dig p c x y) (.ref p5) H8 (dG.trans (d1.trans (Dr.of d1.box (s2.trans s8)))) trivial (show m.c.ls.length ≤ 8 by rw [← hgl]; omega) (show Dp K H8 (.ref p5) (.tuple _) from .tup e8 (.cons (.str _) (.cons (.int _) (.cons (.int _) (.cons (.int _) (.cons (.int _) .nil))))))
end
end XL
namespace XL
open PySem PySem.Spec PyProof.Rows L2
section
variable {K : PySem.W.Frag}
theorem dpAll_drop {H : Hp} : ∀ {vs : List V} {ds : List PyData}, DpAll K H vs ds → DpAll K H vs.dropLast ds.dropLast
  | _, _, .nil => .nil
  | _, _, .cons _ .nil => .nil
  | _, _, .cons h (.cons h2 t) => .cons h (dpAll_drop (.cons h2 t))
theorem Kp.pop {C : Addr} {H : Hp} {a M N : Addr} {ms : List Mo} {m : Mo} {ns : List PyData} (kp : Kp K C H a M N (ms ++ [m]) ns) {vs : List V} (em : H M = some (.lst vs)) : Kp K C (upd H M (.lst vs.dropLast)) a M N ms ns := by
  obtain ⟨dx, hi⟩ := kp.i; obtain ⟨vs', hm, dm⟩ := kp.m; obtain ⟨us, hn, dn⟩ := kp.n
  obtain rfl : vs = vs' := by rw [em] at hm; cases hm; rfl
  have tp := Tp.upd (o := .lst vs.dropLast) em
  have e := dpAll_drop dm
  rw [List.map_append, List.map_cons, List.map_nil, List.dropLast_concat] at e
  refine ⟨⟨dx, by rw [upd_ne kp.nM]; exact hi⟩, ⟨_, upd_same, DpAll.tp tp _ (noLs_mos ms) e⟩, ⟨us, by rw [upd_ne (Ne.symm kp.ne)]; exact hn, DpAll.tp tp _ kp.nl dn⟩, kp.ne, kp.nl⟩
end
section
variable {P : Program} {w : World} {K : PySem.W.Frag} {mg : Str → Option Value} {base : Heap}
abbrev sKun : Stmt := inClass (topS 35) 7
abbrev nKun : List Str := ["self", "stood"]
theorem scKun : FnScope nKun ["self"] (defScope sKun) := ⟨rfl, rfl, rfl, by decide +kernel, rfl, by decide +kernel, by decide +kernel⟩
/-- what stands behind undo -/
def undoM (ms : List Mo) (m : Mo) : List Mo := if ms = [] then [m] else ms
def spKun (K : PySem.W.Frag) (C : Addr) : Sp := fun vs H Q _ => ∃ (a M N : Addr) (ms : List Mo) (m : Mo) (ns : List PyData), vs = [.ref a] ∧ Kp K C H a M N (ms ++ [m]) ns ∧ ms.length ≤ 900 ∧ ns.length ≤ 900 ∧ ∀ H', FrK M N H H' → Kp K C H' a M N (undoM ms m) (ns ++ [noteD "in" "undo"] ++ [noteD "out" "undo"]) → Q (.bl (decide (0 < ms.length))) H'
theorem ok_Kun {f C : Addr} {fd : FuncData} {k : Nat} (F : Fun K "undo" "Keep.undo" sKun f fd) (kc : KC K C) (m_len : mg "len" = none) : FnOk P w K mg base CX0 (k + 1) f fd ["self"] (spKun K C) := by
  refine F.ok scKun (fun vs H Q E h => ?_) (fun cdv A outer s0 H vs Q E hr h => ?_)
  · obtain ⟨a, M, N, ms, m, ns, rfl, _⟩ := h
    rfl
  obtain ⟨a, M, N, ms, m, ns, rfl, kp, hml, hnl, q⟩ := h
  refine ⟨_, (pss_cons (ps_expr (pe_bm PySem.F.plainAttrs_list PySem.F.slot_list_append PySem.F.type_list_append mt_append (pe_fld (pv 0) rfl) (pa_cons (pe_tup (pa_cons pe_str (pa_cons pe_str pa_nil))) pa_nil)))
    (pss_cons (ps_set (i := 1) scKun.nd rfl (.inl rfl) (pe_cmpR op_gt (pe_callB (r := rLenA K) call_lenA rfl m_len PySem.boot_len (pa_cons (pe_fld (pv 0) rfl) pa_nil)) pe_int (nomark _)))
    (pss_cons (ps_if (pt_val (pv 1)) (pss_one (ps_expr (pe_bm0 PySem.F.plainAttrs_list PySem.F.slot_list_pop PySem.F.type_list_pop mt_pop (pe_fld (pv 0) rfl)))) pss_nil)
    (pss_cons (ps_expr (pe_bm PySem.F.plainAttrs_list PySem.F.slot_list_append PySem.F.type_list_append mt_append (pe_fld (pv 0) rfl) (pa_cons (pe_tup (pa_cons pe_str (pa_cons pe_str pa_nil))) pa_nil)))
    (pss_one (ps_ret (pv 1))))))), ?_⟩
  refine note_go kc kp rfl (by omega) fun us0 H1 _ f1 _ kp1 => ?_
  obtain ⟨dx, hi⟩ := kp1.i
  obtain ⟨vs, v, hm, hvl, hat, dv⟩ := kp1.last
  have hnl1 : (ns ++ [noteD "in" "undo"]).length ≤ 1000 := by rw [List.length_append]; show ns.length + 1 ≤ 1000; omega
  refine ⟨_, rfl, a, C, dx, _, _, rfl, hi, kc.cl, kc.nM, kpF_M M N, nil_go ⟨M, vs, rfl, .inl (SqL.of hm), _, _, rfl, rfl, ?_⟩⟩
  have hd : decide ((1 : Int) < (vs.length : Nat)) = decide (0 < ms.length) := by
    rw [hvl]
    by_cases h : 0 < ms.length
    · rw [decide_eq_true h, decide_eq_true (by omega)]
    · rw [decide_eq_false h, decide_eq_false (by omega)]
  refine at_g (σ' := [some (.ref a), some (.bl (decide (0 < ms.length)))]) (by rw [← hd]; rfl) ?_
  by_cases h0 : 0 < ms.length
  · rw [decide_eq_true h0] at q ⊢
    obtain ⟨y, hy⟩ : ∃ y, vs[vs.length - 1]? = some y := ⟨_, List.getElem?_eq_getElem (by omega)⟩
    refine ⟨_, rfl, true, rfl, iteT ⟨_, rfl, a, C, dx, _, _, rfl, hi, kc.cl, kc.nM, kpF_M M N, .inl ⟨rfl, _, SqL.of hm⟩, M, vs, y, rfl, rfl, hm, hy, ?_⟩⟩
    refine note_go kc (kp1.pop hm) rfl hnl1 fun us1 H3 _ f3 _ kp3 => ⟨_, rfl, ?_⟩
    refine q H3 (f1.trans (FrK.trans (fun b o h1 h2 e => by rw [upd_ne h1]; exact e) f3)) ?_
    rw [undoM, if_neg (fun z => by rw [z] at h0; exact absurd h0 (by decide))]
    exact kp3
  · rw [decide_eq_false h0] at q ⊢
    refine ⟨_, rfl, false, rfl, iteF ?_⟩
    refine note_go kc kp1 rfl hnl1 fun us1 H3 _ f3 _ kp3 => ⟨_, rfl, ?_⟩
    have e0 : ms = [] := List.eq_nil_of_length_eq_zero (by omega)
    refine q H3 (f1.trans f3) ?_
    rw [undoM, if_pos e0]
    rw [e0] at kp3
    exact kp3
end
end XL
namespace XL
open PySem PySem.Spec PyProof.Rows L2
theorem ts_le {i : Int} (h0 : 0 ≤ i) (h1 : i ≤ 10 ^ 30) : (Str.ofString (toString i)).length ≤ 40 := short_int (by have : (10 : Int) ^ 30 = ((10 ^ 30 : Nat) : Int) := rfl; omega)
theorem log_ts {i : Int} (h0 : 0 ≤ i) (h1 : i ≤ 10 ^ 30) : i.natAbs.log2 < 1920 := Nat.lt_trans (log_lt (n := i.natAbs) (by have : (10 : Int) ^ 30 = ((10 ^ 30 : Nat) : Int) := rfl; omega)) (by decide)
/-- what a keep is called -/
def nmK (c : Cn) : Str := ((((((("Keep(" : Str) ++ (toString c.r : String)) ++ (" red, " : Str)) ++ (toString c.b : String)) ++ (" blue, " : Str)) ++ (toString ((c.ls.length : Nat) : Int) : String)) ++ (" locks)" : Str))
section
variable {P : Program} {w : World} {K : PySem.W.Frag} {mg : Str → Option Value} {base : Heap}
abbrev sKre : Stmt := inClass (topS 35) 20
abbrev nKre : List Str := ["self"]
theorem scKre : FnScope nKre ["self"] (defScope sKre) := ⟨rfl, rfl, rfl, by decide +kernel, rfl, by decide +kernel, by decide +kernel⟩
def spKre (K : PySem.W.Frag) (C : Addr) : Sp := fun vs H Q _ => ∃ (a M N : Addr) (ms : List Mo) (m : Mo) (ns : List PyData), vs = [.ref a] ∧ Kp K C H a M N (ms ++ [m]) ns ∧ okMo m ∧ Q (.str (nmK m.c)) H
theorem ok_Kre {f C fl fe : Addr} {fd fdl : FuncData} {k : Nat} (F : Fun K "__repr__" "Keep.__repr__" sKre f fd) (kc : KC K C) (ko : KO K C fl fe) (Ln : FnOk P w K mg base CX0 1 fl fdl ["self"] (spKln K C)) (bl : Binds K fdl ["self"] []) (m_len : mg "len" = none) : FnOk P w K mg base CX0 (k + 2 + 1) f fd ["self"] (spKre K C) := by
  refine F.ok scKre (fun vs H Q E h => ?_) (fun cdv A outer s0 H vs Q E hr h => ?_)
  · obtain ⟨a, M, N, ms, m, ns, rfl, _⟩ := h
    rfl
  obtain ⟨a, M, N, ms, m, ns, rfl, kp, ok, q⟩ := h
  have hrL : Room (1 + 1) _ := hr.mono (by omega)
  refine ⟨_, (pss_one (ps_ret (pe_joined (.cons pe_str (.cons (pe_fmt (pe_ix (r := rIxA K) ix_any (pe_ix (r := rIxA K) ix_any (pe_ix (r := rIxA K) ix_any (pe_fld (pv 0) rfl) (pe_un un_neg pe_int) (fun _ _ => rfl)) pe_int (fun _ _ => rfl)) pe_int (fun _ _ => rfl))) (.cons pe_str (.cons (pe_fmt (pe_ix (r := rIxA K) ix_any (pe_ix (r := rIxA K) ix_any (pe_ix (r := rIxA K) ix_any (pe_fld (pv 0) rfl) (pe_un un_neg pe_int) (fun _ _ => rfl)) pe_int (fun _ _ => rfl)) pe_int (fun _ _ => rfl))) (.cons pe_str (.cons (pe_fmt (pe_callB (r := rLenI C (spKln K C) E0) (call_lenI ko.len ko.lf Ln hrL bl passC) rfl m_len PySem.boot_len (pa_cons (pv 0) pa_nil))) (.cons pe_str .nil)))))))))), ?_⟩
  obtain ⟨dx, hi⟩ := kp.i
  obtain ⟨vs, v, hm, hvl, hat, dv⟩ := kp.last
  obtain ⟨ma, vc, vs2, vh, vw, rfl, ha, hc, hs, hh, hw⟩ := mo_of dv
  obtain ⟨g, gg, gs, rfl, hg, hgg, hgs⟩ := cn_of hc
  have r1 := ok.c.r1; have r2 := ok.c.r2; have b1 := ok.c.b1; have b2 := ok.c.b2; have ln := ok.c.n
  have t1 := ts_le (i := m.c.r) (by omega) (by omega)
  have t2 := ts_le (i := m.c.b) (by omega) (by omega)
  have t3 := ts_le (i := ((m.c.ls.length : Nat) : Int)) (by omega) (by omega)
  have k0 : (Str.empty ++ ("Keep(" : Str)) = ("Keep(" : Str) := by decide +kernel
  have l0 : ("Keep(" : Str).length = 5 := by decide +kernel
  have l1 : (" red, " : Str).length = 6 := by decide +kernel
  have l2 : (" blue, " : Str).length = 7 := by decide +kernel
  have l3 : (" locks)" : Str).length = 7 := by decide +kernel
  have sz : ∀ n : Nat, n ≤ 1000 → n ≤ sizeLine := fun n h => Nat.le_of_lt (small1000 h)
  refine ⟨_, rfl, sz _ (by rw [k0, l0]; decide), ?_⟩
  rw [k0]
  refine ⟨_, rfl, a, C, dx, _, _, rfl, hi, kc.cl, kc.nM, kpF_M M N, _, rfl, M, vs, _, _, rfl, rfl, .inl (SqL.of hm), hat, ma, _, _, _, rfl, rfl, .inr ha, rfl, g, _, _, _, rfl, rfl, .inr hg, rfl, .inr ⟨_, rfl, log_ts (by omega) (by omega), _, rfl, sz _ (by rw [Str.length_append, l0]; omega), ?_⟩⟩
  refine ⟨_, rfl, sz _ (by rw [Str.length_append, Str.length_append, l0, l1]; omega), ?_⟩
  refine ⟨_, rfl, a, C, dx, _, _, rfl, hi, kc.cl, kc.nM, kpF_M M N, _, rfl, M, vs, _, _, rfl, rfl, .inl (SqL.of hm), hat, ma, _, _, _, rfl, rfl, .inr ha, rfl, g, _, _, _, rfl, rfl, .inr hg, rfl, .inr ⟨_, rfl, log_ts (by omega) (by omega), _, rfl, sz _ (by rw [Str.length_append, Str.length_append, Str.length_append, l0, l1]; omega), ?_⟩⟩
  refine ⟨_, rfl, sz _ (by rw [Str.length_append, Str.length_append, Str.length_append, Str.length_append, l0, l1, l2]; omega), ?_⟩
  refine ⟨_, rfl, nil_go ⟨a, dx, _, rfl, hi, a, M, N, ms, m, ns, rfl, kp, m.c.ls.length, rfl, by omega, .inr ⟨_, rfl, log_ts (by omega) (by omega), _, rfl, sz _ (by rw [Str.length_append, Str.length_append, Str.length_append, Str.length_append, Str.length_append, l0, l1, l2]; omega), ?_⟩⟩⟩
  refine ⟨_, rfl, sz _ (by rw [Str.length_append, Str.length_append, Str.length_append, Str.length_append, Str.length_append, Str.length_append, l0, l1, l2, l3]; omega), ?_⟩
  exact q
end
end XL
namespace XL
open PySem PySem.Spec PyProof.Rows L2
theorem okCn.mono {W W' U U' : Nat} {c : Cn} (h : okCn W U c) (hw : W ≤ W') (hu : U ≤ U') : okCn W' U' c := ⟨h.r1, by have := h.r2; omega, h.b1, by have := h.b2; omega, Nat.le_trans h.n hu, h.l⟩
mutual
theorem okD_lst : ∀ (n : Nat) (d : PyData), okD n d → okD n (lstD d)
  | 0, _, h => h.elim
  | n + 1, .list ds, h => ⟨by rw [lstDs_eq, List.length_map]; exact h.1, by rw [lstDs_eq]; exact okDs_lst n ds h.2⟩
  | n + 1, .tuple ds, h => ⟨by rw [lstDs_eq, List.length_map]; exact h.1, by rw [lstDs_eq]; exact okDs_lst n ds h.2⟩
  | n + 1, .none, _ => trivial
  | n + 1, .bool _, _ => trivial
  | n + 1, .int _, _ => trivial
  | n + 1, .str _, _ => trivial
  | n + 1, .dict _, _ => trivial
theorem okDs_lst : ∀ (n : Nat) (ds : List PyData), (∀ d ∈ ds, okD n d) → ∀ e ∈ ds.map lstD, okD n e
  | _, [], _, e, he => by simp at he
  | n, d :: ds, h, e, he => by
    rcases List.mem_cons.mp he with q | q
    · rw [q]; exact okD_lst n d (h d (List.mem_cons_self ..))
    · exact okDs_lst n ds (fun x hx => h x (List.mem_cons_of_mem _ hx)) e q
end
theorem tup_lst_lk (l : Lk) : tupD (lstD (lkD l)) = lkD l := rfl
theorem map_tl : ∀ ls : List Lk, ((ls.map lkD).map lstD).map tupD = ls.map lkD
  | [] => rfl
  | l :: ls => by rw [List.map_cons, List.map_cons, List.map_cons, map_tl ls, tup_lst_lk]
theorem map_t : ∀ ls : List Lk, (ls.map lkD).map tupD = ls.map lkD
  | [] => rfl
  | l :: ls => by rw [List.map_cons, List.map_cons, map_t ls]; rfl
theorem tup_cn (c : Cn) : tupD (cnD c) = cnD c := by
  show PyData.tuple [.int c.r, .int c.b, .tuple (tupDs (c.ls.map lkD))] = _
  rw [tupDs_eq, map_t]; rfl
theorem tup_lst_cn (c : Cn) : tupD (lstD (cnD c)) = cnD c := by
  show PyData.tuple [.int c.r, .int c.b, .tuple (tupDs (lstDs (c.ls.map lkD)))] = _
  rw [tupDs_eq, lstDs_eq, map_tl]; rfl
theorem map_ti : ∀ zs : List Int, (intsD zs).map tupD = intsD zs
  | [] => rfl
  | z :: zs => by show tupD (.int z) :: (intsD zs).map tupD = _; rw [map_ti zs]; rfl
theorem tup_sn (s : Sn) : tupD (snD s) = snD s := by
  show PyData.tuple [.tuple (tupDs (intsD s.rs)), .tuple (tupDs (intsD s.bs)), .tuple (tupDs (intsD s.ls))] = _
  rw [tupDs_eq, tupDs_eq, tupDs_eq, map_ti, map_ti, map_ti]; rfl
theorem tup_lst_sn (s : Sn) : tupD (lstD (snD s)) = snD s := by
  show PyData.tuple [.tuple (tupDs (lstDs (intsD s.rs))), .tuple (tupDs (lstDs (intsD s.bs))), .tuple (tupDs (lstDs (intsD s.ls)))] = _
  rw [tupDs_eq, tupDs_eq, tupDs_eq, lstDs_eq, lstDs_eq, lstDs_eq, map_li, map_li, map_li, map_ti, map_ti, map_ti]; rfl
theorem tIf_mid {c : TT} {a b : TE} {σ : L2.St} {H : Hp} {Q : VK} (Mid : V → Hp → Prop) (h1 : ∀ R : VK, (∀ y G, Mid y G → R y G) → tIf c a b σ H R) (h2 : ∀ y G, Mid y G → Q y G) : tIf c a b σ H Q := h1 Q h2
def notesOf (ws : List Str) : List PyData := ws.flatMap fun w => [noteD "in" w, noteD "out" w]
theorem notes_snoc (ws : List Str) (w : Str) : notesOf (ws ++ [w]) = notesOf ws ++ [noteD "in" w] ++ [noteD "out" w] := by
  unfold notesOf
  rw [List.flatMap_append]
  simp
theorem notes_len : ∀ ws : List Str, (notesOf ws).length = 2 * ws.length
  | [] => rfl
  | w :: ws => by
    have := notes_len ws
    have e : notesOf (w :: ws) = noteD "in" w :: noteD "out" w :: notesOf ws := rfl
    rw [e, List.length_cons, List.length_cons, List.length_cons, this]; omega
theorem FrK.tp {M N : Addr} {H H' : Hp} {vs us : List V} (f : FrK M N H H') (h1 : H M = some (.lst vs)) (h2 : H N = some (.lst us)) : Tp H H' :=
  ⟨fun a xs e => f a _ (fun z => by rw [z, h1] at e; cases e) (fun z => by rw [z, h2] at e; cases e) e, fun a o xs e => f a _ (fun z => by rw [z, h1] at e; cases e) (fun z => by rw [z, h2] at e; cases e) e⟩
theorem tp_ap {M N : Addr} {H : Hp} {vs us : List V} (h1 : H M = some (.lst vs)) (h2 : H N = some (.lst us)) : Tp H (ap M N H) := by
  have k : ∀ {b o}, H b = some o → (∀ xs, o ≠ .lst xs) → ap M N H b = some o := fun {b o} e n => by
    unfold ap
    rw [if_neg]
    · exact e
    · rintro (z | z)
      · rw [z, h1] at e; exact n _ (Option.some.inj e).symm
      · rw [z, h2] at e; exact n _ (Option.some.inj e).symm
  exact ⟨fun a xs e => k e (fun _ z => by cases z), fun a o xs e => k e (fun _ z => by cases z)⟩
theorem Kp.draw {K : PySem.W.Frag} {C : Addr} {H H' : Hp} {a M N b : Addr} {ms : List Mo} {ns : List PyData} (kp : Kp K C H a M N ms ns) (hb : Bx H b) (d : Dr b H H') (nM : M ≠ b) (nN : N ≠ b) : Kp K C H' a M N ms ns := by
  obtain ⟨dx, hi⟩ := kp.i; obtain ⟨vs, hm, dm⟩ := kp.m; obtain ⟨us, hn, dn⟩ := kp.n
  have tp := d.tp hb
  exact ⟨⟨dx, d.same _ _ (fun z => by obtain ⟨x, y, w, e⟩ := hb; rw [z, e] at hi; cases hi) hi⟩, ⟨vs, d.same _ _ nM hm, DpAll.tp tp _ (noLs_mos ms) dm⟩, ⟨us, d.same _ _ nN hn, DpAll.tp tp _ kp.nl dn⟩, kp.ne, kp.nl⟩
theorem Kp.other {K : PySem.W.Frag} {C : Addr} {H : Hp} {a M N p : Addr} {ms : List Mo} {ns : List PyData} {xs : List V} {o : HO} (kp : Kp K C H a M N ms ns) (hp : H p = some (.lst xs)) (nM : p ≠ M) (nN : p ≠ N) : Kp K C (upd H p o) a M N ms ns := by
  obtain ⟨dx, hi⟩ := kp.i; obtain ⟨vs, hm, dm⟩ := kp.m; obtain ⟨us, hn, dn⟩ := kp.n
  have tp := Tp.upd (o := o) hp
  exact ⟨⟨dx, by rw [upd_ne (fun z => by rw [z, hp] at hi; cases hi)]; exact hi⟩, ⟨vs, by rw [upd_ne (Ne.symm nM)]; exact hm, DpAll.tp tp _ (noLs_mos ms) dm⟩, ⟨us, by rw [upd_ne (Ne.symm nN)]; exact hn, DpAll.tp tp _ kp.nl dn⟩, kp.ne, kp.nl⟩
theorem frh_dr {b : Addr} {H H1 H2 : Hp} (hb : Bx H b) (d : Dr b H1 H2) : Same (frh H H1) H2 := fun x o e => by
  obtain ⟨p, q, r, eb⟩ := hb
  refine d.same x o (fun z => ?_) (frh_sub _ _ e)
  rw [z] at e
  unfold frh at e
  rw [eb] at e
  cases e
theorem frh_free {H H' : Hp} {x : Addr} {xs : List V} (s : Same H H') (e : frh H H' x = some (.lst xs)) : H x = none := by
  cases h : H x with
  | none => rfl
  | some o =>
    have e2 := frh_sub _ _ e
    rw [s _ _ h] at e2
    obtain rfl := Option.some.inj e2
    unfold frh at e
    rw [h] at e
    cases e
/-- a list that's new in between is changed: nothing of what was before is -/
theorem Dr.other {b p : Addr} {H G : Hp} {o : HO} (d : Dr b H G) (n : H p = none) (nb : p ≠ b) : Dr b H (upd G p o) := by
  refine ⟨?_, fun x o' hx e => ?_⟩
  · obtain ⟨x, y, z, e⟩ := d.box
    exact ⟨x, y, z, by rw [upd_ne (Ne.symm nb)]; exact e⟩
  · rw [upd_ne (fun z => by rw [z, n] at e; cases e)]
    exact d.same x o' hx e
/-- what stands between two turns: the keep's own moments and notes, the book's moments and words -/
structure Lv (K : PySem.W.Frag) (C b a M N sl el : Addr) (H0 G : Hp) (km : List Mo) (kn : List PyData) (lm : List Mo) (lw : List Str) : Prop where
  dr : Dr b H0 G
  kp : Kp K C G a M N km kn
  s : ∃ vs, G sl = some (.lst vs) ∧ DpAll K G vs (lm.map moD)
  e : G el = some (.lst (lw.map V.str))
  fr : H0 M = none ∧ H0 N = none ∧ H0 sl = none ∧ H0 el = none
  ne : (sl ≠ b ∧ sl ≠ M ∧ sl ≠ N) ∧ (el ≠ b ∧ el ≠ M ∧ el ≠ N) ∧ M ≠ b ∧ N ≠ b
section
variable {K : PySem.W.Frag} {C b a M N sl el : Addr} {H0 G G' : Hp} {km : List Mo} {kn : List PyData} {lm : List Mo} {lw : List Str}
theorem Lv.draw (L : Lv K C b a M N sl el H0 G km kn lm lw) (d : Dr b G G') : Lv K C b a M N sl el H0 G' km kn lm lw := by
  obtain ⟨vs, h1, h2⟩ := L.s
  exact ⟨L.dr.trans d, L.kp.draw L.dr.box d L.ne.2.2.1 L.ne.2.2.2, ⟨vs, d.same _ _ L.ne.1.1 h1, DpAll.tp (d.tp L.dr.box) _ (noLs_mos lm) h2⟩, d.same _ _ L.ne.2.1.1 L.e, L.fr, L.ne⟩
theorem Lv.sm (L : Lv K C b a M N sl el H0 G km kn lm lw) (s : Same G G') : Lv K C b a M N sl el H0 G' km kn lm lw := L.draw (Dr.of L.dr.box s)
theorem Lv.keep (L : Lv K C b a M N sl el H0 G km kn lm lw) (f : FrK M N G G') {km' : List Mo} {kn' : List PyData} (kp' : Kp K C G' a M N km' kn') : Lv K C b a M N sl el H0 G' km' kn' lm lw := by
  obtain ⟨vs, h1, h2⟩ := L.s
  obtain ⟨ms, hm, _⟩ := L.kp.m
  obtain ⟨us, hn, _⟩ := L.kp.n
  refine ⟨⟨?_, fun x o hx e => f x o (fun z => by rw [z, L.fr.1] at e; cases e) (fun z => by rw [z, L.fr.2.1] at e; cases e) (L.dr.same x o hx e)⟩, kp', ⟨vs, f _ _ L.ne.1.2.1 L.ne.1.2.2 h1, DpAll.tp (f.tp hm hn) _ (noLs_mos lm) h2⟩, f _ _ L.ne.2.1.2.1 L.ne.2.1.2.2 L.e, L.fr, L.ne⟩
  obtain ⟨x, y, z, e⟩ := L.dr.box
  exact ⟨x, y, z, f _ _ (Ne.symm L.ne.2.2.1) (Ne.symm L.ne.2.2.2) e⟩
theorem Lv.list (L : Lv K C b a M N sl el H0 G km kn lm lw) {q : Addr} {vs : List V} {lm' : List Mo} (nq : G q = none) (h : DpAll K (upd G q (.lst vs)) vs (lm'.map moD)) : Lv K C b a M N q el H0 (upd G q (.lst vs)) km kn lm' lw := by
  obtain ⟨ms, hm, _⟩ := L.kp.m
  obtain ⟨us, hn, _⟩ := L.kp.n
  have L' := L.sm (same_new nq (o := .lst vs))
  exact ⟨L'.dr, L'.kp, ⟨vs, upd_same, h⟩, L'.e, ⟨L.fr.1, L.fr.2.1, L.dr.free nq, L.fr.2.2.2⟩, ⟨⟨L.dr.box.ne nq, (fun z => by rw [z, hm] at nq; cases nq), (fun z => by rw [z, hn] at nq; cases nq)⟩, L.ne.2⟩⟩
theorem Lv.words (L : Lv K C b a M N sl el H0 G km kn lm lw) {q : Addr} {lw' : List Str} (nq : G q = none) : Lv K C b a M N sl q H0 (upd G q (.lst (lw'.map V.str))) km kn lm lw' := by
  obtain ⟨ms, hm, _⟩ := L.kp.m
  obtain ⟨us, hn, _⟩ := L.kp.n
  have L' := L.sm (same_new nq (o := .lst (lw'.map V.str)))
  exact ⟨L'.dr, L'.kp, L'.s, upd_same, ⟨L.fr.1, L.fr.2.1, L.fr.2.2.1, L.dr.free nq⟩, ⟨L.ne.1, ⟨L.dr.box.ne nq, (fun z => by rw [z, hm] at nq; cases nq), (fun z => by rw [z, hn] at nq; cases nq)⟩, L.ne.2.2⟩⟩
/-- the book's last moment -/
theorem Lv.last {ms : List Mo} {m : Mo} (L : Lv K C b a M N sl el H0 G km kn (ms ++ [m]) lw) : ∃ vs v, G sl = some (.lst vs) ∧ vs.length = ms.length + 1 ∧ atI vs (-1) = some v ∧ Dp K G v (moD m) ∧ DpAll K G vs ((ms ++ [m]).map moD) := by
  obtain ⟨vs, hm, dm⟩ := L.s
  have hl := DpAll.length dm
  rw [List.length_map, List.length_append] at hl
  have hl : vs.length = ms.length + 1 := hl
  obtain ⟨v, hv⟩ : ∃ v, vs[ms.length]? = some v := ⟨_, List.getElem?_eq_getElem (by omega)⟩
  obtain ⟨d, ed, pd⟩ := DpAll.get dm hv
  rw [List.getElem?_map, List.getElem?_append_right (Nat.le_refl _), Nat.sub_self] at ed
  obtain rfl := Option.some.inj ed
  refine ⟨vs, v, hm, hl, ?_, pd, dm⟩
  have e : ixN vs.length (-1) = some ms.length := by
    unfold ixN
    rw [if_neg (by decide), if_pos (by omega)]
    congr 1
    omega
  unfold atI
  rw [e]
  exact hv
theorem undo_last (ms : List Mo) (m : Mo) : ∃ ms' m', undoM ms m = ms' ++ [m'] ∧ ms'.length ≤ ms.length := by
  unfold undoM
  split
  · exact ⟨[], m, rfl, Nat.zero_le _⟩
  · rename_i h
    exact ⟨ms.dropLast, ms.getLast h, (List.dropLast_concat_getLast h).symm, by rw [List.length_dropLast]; omega⟩
theorem undo_mem {ms : List Mo} {m x : Mo} (h : x ∈ undoM ms m) : x ∈ ms ++ [m] := by
  unfold undoM at h
  split at h
  · exact List.mem_append_right _ h
  · exact List.mem_append_left _ h
theorem undo_take (ms : List Mo) (m : Mo) : ((ms ++ [m]).map moD).take (if ms.length = 0 then 1 else ms.length) = (undoM ms m).map moD := by
  unfold undoM
  cases ms with
  | nil => rfl
  | cons x xs =>
    rw [if_neg (by simp), if_neg (by simp), ← List.map_take, List.take_left' rfl]
/-- a deed that's new, for the keep -/
theorem noL_dd {dd : Dd} (h : ∀ gs, dd ≠ .row gs) : noL (ddD dd) = true := by
  cases dd with
  | row gs => exact absurd rfl (h gs)
  | _ => rfl
theorem DdN.z {H H' : Hp} {u : V} {dd : Dd} {vs us : List V} (h : DdN K H H' u dd) (h1 : H' M = some (.lst vs)) (h2 : H' N = some (.lst us)) (m1 : H M = some (.lst vs)) (m2 : H N = some (.lst us)) : DdZ K (ap M N H') u dd := by
  cases dd with
  | row gs =>
    obtain ⟨t, g, ws, rfl, ht, ng, hg, hd⟩ := h
    have tp := tp_ap h1 h2
    refine ⟨t, g, rfl, .inl (.inl (tp.t _ _ ht)), ws, .inl (SqL.of ?_), by rw [DpAll.length hd, List.length_map], fun j u hu => ?_⟩
    · unfold ap
      rw [if_neg]
      · exact hg
      · rintro (z | z)
        · rw [z, m1] at ng; cases ng
        · rw [z, m2] at ng; cases ng
    · obtain ⟨d, ed, pd⟩ := DpAll.get hd hu
      rw [List.getElem?_map] at ed
      obtain ⟨e, ee, rfl⟩ := Option.map_eq_some_iff.mp ed
      obtain ⟨t2, x, y, rfl, ht2, px, py⟩ := dpT2 pd
      obtain rfl := dp_intV px
      obtain rfl := dp_strV py
      exact ⟨t2, e, rfl, ee, .inr (tp.sqT ht2)⟩
  | go i r => exact Dp.tp (tp_ap h1 h2) _ (noL_dd (dd := .go i r) (fun _ z => by cases z)) h
  | fill r i x => exact Dp.tp (tp_ap h1 h2) _ (noL_dd (dd := .fill r i x) (fun _ z => by cases z)) h
  | drain r i x => exact Dp.tp (tp_ap h1 h2) _ (noL_dd (dd := .drain r i x) (fun _ z => by cases z)) h
  | turn i => exact Dp.tp (tp_ap h1 h2) _ (noL_dd (dd := .turn i) (fun _ z => by cases z)) h
  | dig p c x y => exact Dp.tp (tp_ap h1 h2) _ (noL_dd (dd := .dig p c x y) (fun _ z => by cases z)) h
theorem DdN.head {H H' : Hp} {u : V} {dd : Dd} (h : DdN K H H' u dd) : ∃ t xs, u = .ref t ∧ SqT K H' t xs ∧ atI xs 0 = some (.str (nmD dd)) := by
  cases dd with
  | row gs =>
    obtain ⟨t, g, ws, rfl, ht, _⟩ := h
    exact ⟨t, _, rfl, .inl (.inl ht), rfl⟩
  | go i r => obtain ⟨t, x, y, z, rfl, ht, p, _⟩ := dpT3 h; obtain rfl := dp_strV p; exact ⟨t, _, rfl, ht, rfl⟩
  | fill r i x => obtain ⟨t, x, y, z, u, rfl, ht, p, _⟩ := dpT4 h; obtain rfl := dp_strV p; exact ⟨t, _, rfl, ht, rfl⟩
  | drain r i x => obtain ⟨t, x, y, z, u, rfl, ht, p, _⟩ := dpT4 h; obtain rfl := dp_strV p; exact ⟨t, _, rfl, ht, rfl⟩
  | turn i => obtain ⟨t, x, y, rfl, ht, p, _⟩ := dpT2 h; obtain rfl := dp_strV p; exact ⟨t, _, rfl, ht, rfl⟩
  | dig p c x y => obtain ⟨t, x, y, z, u, s, rfl, ht, p, _⟩ := dpT5 h; obtain rfl := dp_strV p; exact ⟨t, _, rfl, ht, rfl⟩
theorem DdN.dp {H H' : Hp} {u : V} {dd : Dd} (h : DdN K H H' u dd) : Dp K H' u (ddD dd) := by
  cases dd with
  | row gs =>
    obtain ⟨t, g, ws, rfl, ht, ng, hg, hd⟩ := h
    exact dp2 ht (.str _) (.lst (SqL.of hg) hd)
  | _ => exact h
theorem noL_W (e : Rf) : noL (Wd e) = true := by cases e <;> rfl
theorem okD_W (e : Rf) : okD 20 (Wd e) := by
  cases e with
  | boat i r => exact ⟨by show 2 ≤ 1000; decide, fun d hd => by
      rcases List.mem_cons.mp hd with rfl | hd
      · trivial
      · obtain rfl := List.mem_singleton.mp hd
        exact ⟨by show 2 ≤ 1000; decide, fun d hd => by
          rcases List.mem_cons.mp hd with rfl | hd
          · trivial
          · obtain rfl := List.mem_singleton.mp hd
            trivial⟩⟩
  | _ => exact ⟨by show 2 ≤ 1000; decide, fun d hd => by
      rcases List.mem_cons.mp hd with rfl | hd
      · trivial
      · obtain rfl := List.mem_singleton.mp hd
        trivial⟩
theorem noL_tell (dd : Dd) (m : Mo) : noL (tellD dd m) = true := by cases dd <;> rfl
theorem okD_tell (dd : Dd) (m : Mo) : okD 20 (tellD dd m) := by cases dd <;> trivial
theorem dp_tell {H : Hp} (dd : Dd) (m : Mo) : Dp K H (tellV dd m) (tellD dd m) := by cases dd <;> first | exact .non | exact .int _
theorem okD_pls {pss : List (List Int)} (h : pss.length ≤ 1000) (h2 : ∀ zs ∈ pss, zs.length ≤ 1000) : okD 19 (plsD pss) := ⟨by rw [List.length_map]; exact h, fun d hd => by
  obtain ⟨zs, hz, rfl⟩ := List.mem_map.mp hd
  exact ⟨by rw [intsD, List.length_map]; exact h2 zs hz, fun e he => by
    obtain ⟨z, _, rfl⟩ := List.mem_map.mp he
    trivial⟩⟩
theorem parts_len {m : Mo} (ok : okMo m) : (∀ zs ∈ m.h, zs.length ≤ 1000) ∧ ∀ zs ∈ m.w, zs.length ≤ 1000 := by
  have r2 := ok.c.r2; have b2 := ok.c.b2; have ln := ok.c.n
  obtain ⟨h0, h1, h2, eh⟩ := len3 ok.h
  obtain ⟨w0, w1, ew⟩ := len2 ok.w
  have a0 := ok.h0; have a1 := ok.h1; have a2 := ok.h2; have c0 := ok.w0; have c1 := ok.w1
  rw [eh] at a0 a1 a2 ⊢
  rw [ew] at c0 c1 ⊢
  have a0 : (h0.length : Int) = m.c.r := a0
  have a1 : (h1.length : Int) = m.c.b := a1
  have a2 : h2.length = m.c.ls.length := a2
  have c0 : w0.length = m.c.ls.length := c0
  have c1 : w1.length = m.c.ls.length := c1
  refine ⟨fun zs hz => ?_, fun zs hz => ?_⟩
  · simp at hz
    rcases hz with rfl | rfl | rfl <;> omega
  · simp at hz
    rcases hz with rfl | rfl <;> omega
theorem okD_to {m : Mo} (ok : okMo m) : okD 20 (toD m) := ⟨by show 5 ≤ 1000; decide, fun d hd => by
  obtain ⟨B, os⟩ := ok.s
  obtain ⟨l1, l2, l3⟩ := sn_len ok.c os
  obtain ⟨p1, p2⟩ := parts_len ok
  have h3 := ok.h; have w2 := ok.w
  rcases List.mem_cons.mp hd with rfl | hd
  · exact okD_cn 15 (by have := ok.c.n; omega)
  rcases List.mem_cons.mp hd with rfl | hd
  · exact okD_sn 16 (by omega) (by omega) (by omega)
  rcases List.mem_cons.mp hd with rfl | hd
  · exact okD_pls (by omega) p1
  rcases List.mem_cons.mp hd with rfl | hd
  · exact okD_pls (by omega) p2
  obtain rfl := List.mem_singleton.mp hd
  trivial⟩
theorem NwL.at {H H' : Hp} {v : V} {pss : List (List Int)} (h : NwL H H' v pss) {j : Nat} (hj : j < pss.length) : ∃ t ls l zs, v = .ref t ∧ H' t = some (.tup ls) ∧ atI ls ((j : Nat) : Int) = some (.ref l) ∧ H' l = some (.lst (zs.map V.int)) ∧ H l = none ∧ zs ∈ pss := by
  obtain ⟨t, ls, rfl, h1, h2, h3⟩ := h
  obtain ⟨y, hy⟩ : ∃ y, ls[j]? = some y := ⟨_, List.getElem?_eq_getElem (by omega)⟩
  obtain ⟨l, zs, rfl, hz, e, n⟩ := h3 j y hy
  exact ⟨t, ls, l, zs, rfl, h1, atI_nat hy, e, n, List.mem_of_getElem? hz⟩
/-- a row's goings, told by new lists -/
theorem rowZ_lists {H H' : Hp} {g : V} {gs : List (Int × Bool)} {vs us : List V} (h : Dn (frh H H') g (.list (lstDs (gs.map gD)))) (s : Same H H') (m1 : H M = some (.lst vs)) (m2 : H N = some (.lst us)) : ∃ l, g = .ref l ∧ RowZ K (ap M N H') l gs := by
  have sf : Same (frh H H') (ap M N H') := ap_frh m1 m2
  have lm : ∀ gs : List (Int × Bool), lstDs (gs.map gD) = gs.map fun g => .list [.int g.1, .str (wS g.2)] := fun gs => by
    rw [lstDs_eq, List.map_map]; rfl
  rw [lm] at h
  cases h with
  | lst h1 h2 =>
    refine ⟨_, rfl, _, .inl (SqL.of (sf _ _ h1)), by rw [DpAll.length (DnAll.dp (K := K) h2), List.length_map], fun j u hu => ?_⟩
    have get : ∀ {xs : List V} {ds : List PyData}, DnAll (frh H H') xs ds → ∀ {j : Nat} {u : V}, xs[j]? = some u → ∃ d, ds[j]? = some d ∧ Dn (frh H H') u d := fun {xs ds} hh => by
      intro j u hu
      induction hh using DnAll.rec (motive_1 := fun _ _ _ => True) generalizing j u with
      | nil => simp at hu
      | cons a b _ ih =>
        cases j with
        | zero => exact ⟨_, rfl, by rw [← Option.some.inj hu]; exact a⟩
        | succ j => exact ih hu
      | _ => trivial
    obtain ⟨d, ed, pd⟩ := get h2 hu
    rw [List.getElem?_map] at ed
    obtain ⟨e, ee, rfl⟩ := Option.map_eq_some_iff.mp ed
    cases pd with
    | lst k1 k2 =>
      cases k2 with
      | cons a1 t1 =>
        cases a1
        cases t1 with
        | cons a2 t2 =>
          cases a2
          cases t2
          exact ⟨_, e, rfl, ee, .inl (SqL.of (sf _ _ k1))⟩
theorem okMo_doR {m m' : Mo} {dd : Dd} (ok : okMo m) (h1 : okDd dd) (h2 : okDg m dd) (h : doR m dd = .ok m') : okMo m' := by
  cases dd with
  | go i r => exact okMo_goR ok h
  | row gs => exact okMo_rowR ok h
  | fill r i x => exact okMo_fillR ok h1 h
  | drain r i x => exact okMo_drainR ok h1 h
  | turn i => exact okMo_turnR ok h
  | dig p c x y => exact okMo_digR ok (by have : m.c.ls.length ≤ 8 := h2; omega) h
end
end XL
namespace XL
open PySem PySem.Spec PyProof.Rows L2
theorem boot_repr' : bootBuiltins "repr" = some (.builtin "repr") := by decide +kernel
theorem boot_max' : bootBuiltins "max" = some (.builtin "max") := by decide +kernel
section
variable {P : Program} {w : World} {K : PySem.W.Frag} {mg : Str → Option Value} {base : Heap}
abbrev sRig : Stmt := topS 61
abbrev nRig : List Str := ["_law_box_here", "_law_ship_way", "_law_lying_here", "_law_handed", "_law_house", "_law_s_all", "_law_ends", "_law_turn", "_law_deed_here", "_law_due_here", "_law_later", "_law_found", "_law_told", "_law_log", "_law_word_here", "_law_reds", "_law_blues", "_law_gates", "_law_name"]
theorem scRig : FnScope nRig ["_law_box_here"] (defScope sRig) := ⟨rfl, rfl, rfl, by decide +kernel, rfl, by decide +kernel, by decide +kernel⟩
def spRig : Sp := fun vs H Q _ => ∃ b : Addr, vs = [.ref b] ∧ Bx H b ∧ ∀ H' : Hp, Dr b H H' → Q (.bl true) H'
theorem ok_rig {f fc fy ft fl fb fd_ fu fo_ fs fto ftd fK fre g0 g7 g9 C : Addr} {fd dc dy dt dl db dd du do_ ds dto dtd dK dre e0 e7 e9 : FuncData} {X : Ks} (F : Fun K "_law_right" "_law_right" sRig f fd) (kc : KC K C)
    (Cn_ : Fns P w K mg base 26 "_law_canal" ["_law_box_here", "_law_wide", "_law_utmost"] (spCanal K) fc dc) (Ly : Fns P w K mg base 26 "_law_lying" ["_law_box_here", "_law_ship_way", "_law_most"] (spLying K) fy dy) (Ta : Fns P w K mg base 26 "_law_take" ["_law_box_here", "_law_size"] spTake ft dt) (Li : Fns P w K mg base 26 "_law_lists" ["_law_what"] (spLists K 20) fl dl)
    (Be_ : Fns P w K mg base 26 "_law_begun" ["_law_ship_way", "_law_lying_here"] (spBg K) fb db) (De : Fns P w K mg base 26 "_law_deed" ["_law_box_here", "_law_s"] (spDe K) fd_ dd) (Du_ : Fns P w K mg base 26 "_law_due" ["_law_s", "_law_deed_here"] (spDu K) fu du) (Do : Fns P w K mg base 26 "_law_done" ["_law_house", "_law_deed_here"] (spDo K X C) fo_ do_)
    (Sa : Fns P w K mg base 26 "_law_same" ["_law_found", "_law_due_here"] (spSame K 20) fs ds) (To : Fns P w K mg base 26 "_law_told_of" ["_law_house"] (spTo K C) fto dto) (Td : Fns P w K mg base 26 "_law_told_due" ["_law_s"] (spTd K) ftd dtd)
    (gK : mg "Keep" = some (.ref C)) (MK : Mk K C fK) (Ki : FnOk P w K mg base CX0 16 fK dK ["self", "canal", "standing"] (spKi K C)) (bK : Binds K dK ["self", "canal", "standing"] [])
    (mUn : Mt P w K mg base 16 C "undo" ["self"] (spKun K C) g0 e0) (mDe : Mt P w K mg base 16 C "deeds" ["self"] (spKde K C) g7 e7) (mLo : Mt P w K mg base 16 C "log" ["self"] (spKlo K C) g9 e9)
    (ko2 : PySem.W.findIn K (.ref C) "__repr__" = some (some (.ref fre)) ∧ PySem.W.isFn K (.ref fre) = true) (Re : FnOk P w K mg base CX0 16 fre dre ["self"] (spKre K C)) (bRe : Binds K dre ["self"] [])
    (m_len : mg "len" = none) (m_range : mg "range" = none) (m_max : mg "max" = none) (m_str : mg "str" = none) (m_repr : mg "repr" = none) : FnOk P w K mg base CX0 27 f fd ["_law_box_here"] spRig := by
  refine F.ok scRig (fun vs H Q E h => ?_) (fun cdv A outer s H vs Q E hr h => ?_)
  · obtain ⟨b, rfl, _⟩ := h
    rfl
  obtain ⟨b, rfl, hb, q⟩ := h
  have hrK : Room (16 + 1) _ := hr.mono (by omega)
  have hrR : Room (16 + 1) _ := hr.mono (by omega)
  refine ⟨_, (pss_cons (ps_set (i := 1) scRig.nd rfl (.inl rfl) (pe_fn Cn_ hr rfl (pa_cons (pv 0) (pa_cons pe_int (pa_cons pe_int pa_nil)))))
    (pss_cons (ps_set (i := 2) scRig.nd rfl (.inl rfl) (pe_fn Ly hr rfl (pa_cons (pv 0) (pa_cons (pv 1) (pa_cons (pe_ix (r := rIxA K) ix_any (pe_lst (pa_cons pe_int (pa_cons (pe_op op_pow pe_int pe_int) pa_nil))) (pe_fn Ta hr rfl (pa_cons (pv 0) (pa_cons pe_int pa_nil))) (fun _ _ => rfl)) pa_nil)))))
    (pss_cons (ps_set (i := 3) scRig.nd rfl (.inl rfl) (pe_lst (pa_cons (pe_fn Li hr rfl (pa_cons (pv 1) pa_nil)) (pa_cons (pe_fn Li hr rfl (pa_cons (pv 2) pa_nil)) pa_nil))))
    (pss_cons (ps_set (i := 4) scRig.nd rfl (.inl rfl) (pe_ifExp (pt_cmpR op_eq (pe_fn Ta hr rfl (pa_cons (pv 0) (pa_cons pe_int pa_nil))) pe_int (nomark _)) (pe_make (E := E0) MK Ki hrK rfl gK bK .nil pass0 (pa_cons (pv 1) (pa_cons (pv 2) pa_nil))) (pe_make (E := E0) MK Ki hrK rfl gK bK .nil pass0 (pa_cons (pe_ix (r := rIxA K) ix_any (pv 3) pe_int (fun _ _ => rfl)) (pa_cons (pe_ix (r := rIxA K) ix_any (pv 3) pe_int (fun _ _ => rfl)) pa_nil)))))
    (pss_cons (ps_expr (pe_bm PySem.F.plainAttrs_list PySem.F.slot_list_append PySem.F.type_list_append mt_append (pe_ix (r := rIxA K) ix_any (pe_ix (r := rIxA K) ix_any (pv 3) pe_int (fun _ _ => rfl)) pe_int (fun _ _ => rfl)) (pa_cons (pe_lst (pa_cons pe_int (pa_cons pe_int (pa_cons pe_int (pa_cons pe_int pa_nil))))) pa_nil)))
    (pss_cons (ps_asg pe_int (pg_sub (pe_ix (r := rIxA K) ix_any (pe_ix (r := rIxA K) ix_any (pv 3) pe_int (fun _ _ => rfl)) pe_int (fun _ _ => rfl)) pe_int set_list))
    (pss_cons (ps_par (i := 5) (j := 6) rfl scRig.nd rfl rfl (by decide) rfl rfl (pa_cons (pe_lst (pa_cons (pe_fn Be_ hr rfl (pa_cons (pv 1) (pa_cons (pv 2) pa_nil))) pa_nil)) (pa_cons (pe_lst pa_nil) pa_nil)) rfl)
    (pss_cons (ps_for PassesOwn.never rfl (pi_range1 rfl m_range (pa_cons pe_int pa_nil)) (pg_name (i := 7) scRig.nd rfl (.inl rfl))
    (pss_cons (ps_if (pt_cmpR op_eq (pe_fn Ta hr rfl (pa_cons (pv 0) (pa_cons pe_int pa_nil))) pe_int (nomark _)) (pss_cons (ps_if (pt_not (pt_val (pe_fn Sa hr rfl (pa_cons (pe_meth0 (E := E0) (pv 4) kc.cl mUn.m mUn.ok (hr.mono (by omega)) mUn.b .nil pass0) (pa_cons (pe_cmpR op_gt (pe_callB (r := rLenA K) call_lenA rfl m_len PySem.boot_len (pa_cons (pv 5) pa_nil)) pe_int (nomark _)) pa_nil))))) (pss_one (ps_ret pe_bl)) pss_nil)
    (pss_one (ps_par (i := 5) (j := 6) rfl scRig.nd rfl rfl (by decide) rfl rfl (pa_cons (pe_slice (r := rSlL K) sl_list (pv 5) po_none (po_some (pe_callB (call_max2 rfl) rfl m_max boot_max' (pa_cons pe_int (pa_cons (pe_op op_sub (pe_callB (r := rLenA K) call_lenA rfl m_len PySem.boot_len (pa_cons (pv 5) pa_nil)) pe_int) pa_nil))))) (pa_cons (pe_op op_catL (pv 6) (pe_lst (pa_cons pe_str pa_nil))) pa_nil)) rfl))) (pss_cons (ps_set (i := 8) scRig.nd rfl (.inl rfl) (pe_fn De hr rfl (pa_cons (pv 0) (pa_cons (pe_ix (r := rIxA K) ix_any (pv 5) (pe_un un_neg pe_int) (fun _ _ => rfl)) pa_nil))))
    (pss_cons (ps_asg (pe_fn Du_ hr rfl (pa_cons (pe_ix (r := rIxA K) ix_any (pv 5) (pe_un un_neg pe_int) (fun _ _ => rfl)) (pa_cons (pv 8) pa_nil))) (pg_any rfl (pgs_cons (pg_name (i := 9) scRig.nd rfl (.inl rfl)) (pgs_cons (pg_name (i := 10) scRig.nd rfl (.inl rfl)) pgs_nil))))
    (pss_cons (ps_set (i := 11) scRig.nd rfl (.inl rfl) (pe_fn Do hr rfl (pa_cons (pv 4) (pa_cons (pe_ifExp (PW.pt (pw_and (pt_cmpR op_eq (pe_ix (r := rIxA K) ix_any (pv 8) pe_int (fun _ _ => rfl)) pe_str (nomark _)) (pw_and1 (pt_cmpR op_eq (pe_op op_modN (pv 7) pe_int) pe_int (nomark _))))) (pe_tup (pa_cons pe_str (pa_cons (pe_fn Li hr rfl (pa_cons (pe_ix (r := rIxA K) ix_any (pv 8) pe_int (fun _ _ => rfl)) pa_nil)) pa_nil))) (pv 8)) pa_nil))))
    (pss_cons (ps_if (pt_not (pt_val (pe_fn Sa hr rfl (pa_cons (pv 11) (pa_cons (pv 9) pa_nil))))) (pss_one (ps_ret pe_bl)) pss_nil)
    (pss_cons (ps_set (i := 6) scRig.nd rfl (.inl rfl) (pe_op op_catL (pv 6) (pe_lst (pa_cons (pe_ix (r := rIxA K) ix_any (pv 8) pe_int (fun _ _ => rfl)) pa_nil))))
    (pss_one (ps_set (i := 5) scRig.nd rfl (.inl rfl) (pe_ifExp (pt_cmpR op_isN (pv 10) pe_non (nomark _)) (pv 5) (pe_op op_catL (pv 5) (pe_lst (pa_cons (pv 10) pa_nil))))))))))))
    (pss_cons (ps_set (i := 12) scRig.nd rfl (.inl rfl) (pe_fn To hr rfl (pa_cons (pv 4) pa_nil)))
    (pss_cons (ps_if (PW.pt (pw_or (pt_not (pt_val (pe_fn Sa hr rfl (pa_cons (pv 12) (pa_cons (pe_fn Td hr rfl (pa_cons (pe_ix (r := rIxA K) ix_any (pv 5) (pe_un un_neg pe_int) (fun _ _ => rfl)) pa_nil)) pa_nil))))) (pw_or1 (pt_cmpR op_ne (pe_meth0 (E := E0) (pv 4) kc.cl mDe.m mDe.ok (hr.mono (by omega)) mDe.b .nil pass0) (pe_op op_sub (pe_callB (r := rLenA K) call_lenA rfl m_len PySem.boot_len (pa_cons (pv 5) pa_nil)) pe_int) (nomark _))))) (pss_one (ps_ret pe_bl)) pss_nil)
    (pss_cons (ps_expr (pe_bm PySem.F.plainAttrs_list PySem.F.slot_list_append PySem.F.type_list_append mt_append (pe_ix (r := rIxA K) ix_any (pe_ix (r := rIxA K) ix_any (pv 12) pe_int (fun _ _ => rfl)) pe_int (fun _ _ => rfl)) (pa_cons pe_str pa_nil)))
    (pss_one (ps_expr (pe_bm PySem.F.plainAttrs_list PySem.F.slot_list_append PySem.F.type_list_append mt_append (pe_ix (r := rIxA K) ix_any (pe_ix (r := rIxA K) ix_any (pv 12) pe_int (fun _ _ => rfl)) pe_int (fun _ _ => rfl)) (pa_cons pe_str pa_nil)))))))))
    (pss_cons (ps_set (i := 13) scRig.nd rfl (.inl rfl) (pe_lst pa_nil))
    (pss_cons (ps_for PassesOwn.never rfl (pi_seq (pv 6)) (pg_name (i := 14) scRig.nd rfl (.inl rfl))
    (pss_one (ps_set (i := 13) scRig.nd rfl (.inl rfl) (pe_op op_catL (pv 13) (pe_lst (pa_cons (pe_tup (pa_cons pe_str (pa_cons (pv 14) pa_nil))) (pa_cons (pe_tup (pa_cons pe_str (pa_cons (pv 14) pa_nil))) pa_nil)))))))
    (pss_cons (ps_if (pt_not (pt_val (pe_fn Sa hr rfl (pa_cons (pe_meth0 (E := E0) (pv 4) kc.cl mLo.m mLo.ok (hr.mono (by omega)) mLo.b .nil pass0) (pa_cons (pv 13) pa_nil))))) (pss_one (ps_ret pe_bl)) pss_nil)
    (pss_cons (ps_asg (pe_ix (r := rIxA K) ix_any (pe_ix (r := rIxA K) ix_any (pv 5) (pe_un un_neg pe_int) (fun _ _ => rfl)) pe_int (fun _ _ => rfl)) (pg_any rfl (pgs_cons (pg_name (i := 15) scRig.nd rfl (.inl rfl)) (pgs_cons (pg_name (i := 16) scRig.nd rfl (.inl rfl)) (pgs_cons (pg_name (i := 17) scRig.nd rfl (.inl rfl)) pgs_nil)))))
    (pss_cons (ps_set (i := 18) scRig.nd rfl (.inl rfl) (pe_op op_add_str (pe_op op_add_str (pe_op op_add_str (pe_op op_add_str (pe_op op_add_str (pe_op op_add_str pe_str (pe_callTy call_str_int rfl m_str boot_str' (pa_cons (pv 15) pa_nil))) pe_str) (pe_callTy call_str_int rfl m_str boot_str' (pa_cons (pv 16) pa_nil))) pe_str) (pe_callTy call_str_int rfl m_str boot_str' (pa_cons (pe_callB (r := rLenA K) call_lenA rfl m_len PySem.boot_len (pa_cons (pv 17) pa_nil)) pa_nil))) pe_str))
    (pss_cons (ps_expr (pe_bm PySem.F.plainAttrs_list PySem.F.slot_list_append PySem.F.type_list_append mt_append (pe_meth0 (E := E0) (pv 4) kc.cl mLo.m mLo.ok (hr.mono (by omega)) mLo.b .nil pass0) (pa_cons pe_str pa_nil)))
    (pss_one (ps_ret (pe_and (pe_cmpR op_eq (pe_callB (r := rReprI C (spKre K C) E0) (call_reprI ko2.1 ko2.2 Re hrR bRe passC) rfl m_repr boot_repr' (pa_cons (pv 4) pa_nil)) (pv 18) (nomark _)) (pe_one (pe_fn Sa hr rfl (pa_cons (pe_meth0 (E := E0) (pv 4) kc.cl mLo.m mLo.ok (hr.mono (by omega)) mLo.b .nil pass0) (pa_cons (pv 13) pa_nil))))))))))))))))))))), ?_⟩
  refine ⟨_, rfl, b, 4, 5, rfl, hb, by decide, by decide, by decide, fun c vc H1 okc' d1 hc => ?_⟩
  have okc : okCn 100 100 c := okc'.mono (by decide) (by decide)
  refine at_g (σ' := [some (.ref b), some vc, none, none, none, none, none, none, none, none, none, none, none, none, none, none, none, none, none]) rfl ?_
  refine ⟨_, rfl, _, rfl, _, _, rfl, rfl, ⟨by decide, by decide, by decide⟩, (by show 2 ≤ sizeLine; decide), fun l1 nl1 => ⟨_, rfl, b, 2, rfl, (Dr.new d1.box nl1).box, by decide, by decide, fun j H2 j0 j1 d2 => ?_⟩⟩
  have hl1 := d2.sqL (K := K) (d1.box.ne nl1) (SqL.of upd_same)
  obtain ⟨n, hn, n0, n1⟩ : ∃ n : Int, atI [V.int 2, .int (10 ^ (11 : Int).toNat)] j = some (.int n) ∧ 0 ≤ n ∧ n ≤ 1000000000000 := by
    rcases (show j = 0 ∨ j = 1 by omega) with rfl | rfl
    · exact ⟨2, rfl, by decide, by decide⟩
    · exact ⟨10 ^ (11 : Int).toNat, rfl, by decide, by decide⟩
  have d02 := d1.trans ((Dr.new d1.box nl1).trans d2)
  refine ⟨l1, _, _, _, rfl, rfl, .inl hl1, hn, nil_go ⟨b, vc, c, n, rfl, d2.box, Dp.tp (((Dr.new d1.box nl1).trans d2).tp d1.box) _ (noL_cn c) hc, okc, n0, n1, fun s0 vy H3 os d3 hy => ?_⟩⟩
  replace hc := Dp.tp (((Dr.new d1.box nl1).trans (d2.trans d3)).tp d1.box) _ (noL_cn c) hc
  have d03 := d02.trans d3
  clear hl1 nl1 d1 d2 d3 d02
  refine at_g (σ' := [some (.ref b), some vc, some vy, none, none, none, none, none, none, none, none, none, none, none, none, none, none, none, none]) rfl ?_
  obtain ⟨ly1, ly2, ly3⟩ := sn_len okc os
  refine ⟨_, rfl, nil_go ⟨vc, cnD c, rfl, hc, (okD_cn 16 (by have := okc.n; omega)), fun v1 H4 s4 p1 => ?_⟩⟩
  refine ⟨_, rfl, nil_go ⟨vy, snD s0, rfl, Dp.same s4 _ hy, (okD_sn 17 (by omega) (by omega) (by omega)), fun v2 H5 s5 p2 => ?_⟩⟩
  refine ⟨(by show 2 ≤ sizeLine; decide), fun hd nhd => ?_⟩
  refine at_g (σ' := [some (.ref b), some vc, some vy, some (.ref hd), none, none, none, none, none, none, none, none, none, none, none, none, none, none, none]) rfl ?_
  have s35 := s4.trans s5
  replace p2 := Dn.same (frh_same (same_new nhd (o := .lst [v1, v2]))) p2
  have s46 := s5.trans (same_new nhd (o := .lst [v1, v2]))
  have b4 := (Dr.of d03.box s4).box
  have s36 := s35.trans (same_new nhd (o := .lst [v1, v2]))
  have ehd : (upd H5 hd (.lst [v1, v2])) hd = some (.lst [v1, v2]) := upd_same
  have nhd3 := s35.free nhd
  have nhd4 := s5.free nhd
  generalize upd H5 hd (.lst [v1, v2]) = H6 at p2 s36 s46 ehd
  clear s5 s35 nhd
  have hc6 := Dp.same s36 _ hc
  have hy6 := Dp.same s36 _ hy
  have d06 := d03.trans (Dr.of d03.box s36)
  dsimp only
  refine seq1 (fun σ G => ∃ a M N : Addr, σ = [some (.ref b), some vc, some vy, some (.ref hd), some (.ref a), none, none, none, none, none, none, none, none, none, none, none, none, none, none] ∧ Dr b H6 G ∧ Kp K C G a M N [mo0 c s0] [] ∧ H6 M = none ∧ H6 N = none) (fun Nx hN => ?_) (fun σ G h => ?_)
  · have made : ∀ {G : Hp} {u1 u2 : V} {e1 e2 : PyData}, Dr b H6 G → Dp K G u1 e1 → okD 4 e1 → tupD e1 = cnD c → Dp K G u2 e2 → okD 4 e2 → tupD e2 = snD s0 → ∀ {σ : L2.St}, ∀ x dx, G x = none → G dx = none → dx ≠ x → spKi K C (.ref x :: ([u1, u2] ++ [])) (upd (upd G dx (.own x)) x (.ins C dx [])) (fun v H2 => v = .non ∧ gName 4 (.ref x) [some (.ref b), some vc, some vy, some (.ref hd), none, none, none, none, none, none, none, none, none, none, none, none, none, none, none] H2 Nx) E0 := fun {G u1 u2 e1 e2} d9 q1 k1 t1 q2 k2 t2 {σ} x dx nx ndx hne => by
      have sx : Same G (upd (upd G dx (.own x)) x (.ins C dx [])) := (same_new ndx).trans (same_new (by rw [upd_ne (Ne.symm hne)]; exact nx))
      refine ⟨x, dx, u1, u2, e1, e2, c, s0, _, rfl, upd_same, Dp.same sx _ q1, k1, t1, Dp.same sx _ q2, k2, t2, okc, os, fun M N H' sh nM nN kp => ⟨rfl, ?_⟩⟩
      have sh2 : Same G H' := fun y o e => sh y o (fun z => by rw [z, nx] at e; cases e) (sx _ _ e)
      refine at_g (σ' := [some (.ref b), some vc, some vy, some (.ref hd), some (.ref x), none, none, none, none, none, none, none, none, none, none, none, none, none, none]) rfl ?_
      exact hN _ _ ⟨x, M, N, rfl, d9.trans (Dr.of d9.box sh2), kp, d9.free (sx.free nM), d9.free (sx.free nN)⟩
    refine ⟨_, rfl, b, 2, rfl, d06.box, by decide, by decide, fun i3 G3 _ _ d9 => ⟨rfl, _, rfl, ?_⟩⟩
    by_cases hi3 : V.int i3 = V.int 0
    · rw [decide_eq_true hi3]
      have tp9 := d9.tp d06.box
      exact iteT ⟨_, rfl, _, rfl, nil_go (made d9 (Dp.tp tp9 _ (noL_cn c) hc6) (okD_cn 0 (by have := okc.n; omega)) (tup_cn c) (Dp.tp tp9 _ (noL_sn s0) hy6) (okD_sn 1 (by omega) (by omega) (by omega)) (tup_sn s0) (σ := []))⟩
    · rw [decide_eq_false hi3]
      refine iteF ?_
      have sG3 := frh_dr d03.box d9
      have sG4 := frh_dr b4 d9
      have eh3 := d9.same hd _ (d03.box.ne nhd3) ehd
      exact ⟨_, rfl, hd, _, _, _, rfl, rfl, .inl (SqL.of eh3), rfl, _, rfl, hd, _, _, _, rfl, rfl, .inl (SqL.of eh3), rfl, nil_go (made d9 (Dp.same sG3 _ (Dn.dp (Dn.same (frh_same s46) p1))) (okD_lst 4 _ (okD_cn 0 (by have := okc.n; omega))) (tup_lst_cn c) (Dp.same sG4 _ (Dn.dp p2)) (okD_lst 4 _ (okD_sn 1 (by omega) (by omega) (by omega))) (tup_lst_sn s0) (σ := []))⟩
  obtain ⟨a, M, N, rfl, dG, kp, nM, nN⟩ := h
  -- what was handed in changed
  have p1 : Dn (frh H3 H4) v1 (.list [.int c.r, .int c.b, .list (lstDs (c.ls.map lkD))]) := p1
  have p2 : Dn (frh H4 H6) v2 (.list [.list (lstDs (intsD s0.rs)), .list (lstDs (intsD s0.bs)), .list (lstDs (intsD s0.ls))]) := p2
  obtain ⟨a0, gl, gxs, rfl, ea0, egl, hgx⟩ : ∃ a0 gl gxs, v1 = .ref a0 ∧ (frh H3 H4) a0 = some (.lst [.int c.r, .int c.b, .ref gl]) ∧ (frh H3 H4) gl = some (.lst gxs) ∧ gxs.length ≤ 1000 := by
    cases p1 with
    | lst h0 t0 =>
      cases t0 with
      | cons x0 t1 =>
        cases x0
        cases t1 with
        | cons x1 t2 =>
          cases x1
          cases t2 with
          | cons x2 t3 =>
            cases t3
            cases x2 with
            | lst h2 t2 =>
              refine ⟨_, _, _, rfl, h0, h2, ?_⟩
              have := DpAll.length (DnAll.dp (K := K) t2)
              rw [lstDs_eq, List.length_map, List.length_map] at this
              rw [this]; have := okc.n; omega
  obtain ⟨a1, r1, r2, r3, rxs, rfl, ea1, er1, hrx⟩ : ∃ a1 r1 r2 r3 rxs, v2 = .ref a1 ∧ (frh H4 H6) a1 = some (.lst [.ref r1, r2, r3]) ∧ (frh H4 H6) r1 = some (.lst rxs) ∧ 0 < rxs.length := by
    cases p2 with
    | lst h0 t0 =>
      cases t0 with
      | cons x0 t1 =>
        cases t1 with
        | cons x1 t2 =>
          cases t2 with
          | cons x2 t3 =>
            cases t3
            cases x0 with
            | lst h2 t2 =>
              refine ⟨_, _, _, _, _, rfl, h0, h2, ?_⟩
              have := DpAll.length (DnAll.dp (K := K) t2)
              rw [lstDs_eq, List.length_map, intsD, List.length_map] at this
              rw [this]
              have h1 := os.r; have h2 := okc.r1
              omega
  have sG := frh_dr d03.box dG
  have sG4 := frh_dr b4 dG
  have ehG := dG.same hd _ (d03.box.ne nhd3) ehd
  have ea0G := sG _ _ (frh_same s46 _ _ ea0)
  have eglG := sG _ _ (frh_same s46 _ _ egl)
  have ea1G := sG4 _ _ ea1
  have er1G := sG4 _ _ er1
  have na1 := frh_free s46 ea1
  have nr1 := frh_free s46 er1
  have ngl := frh_free s4 egl
  have egl4 := frh_sub _ _ egl
  have a1gl : a1 ≠ gl := fun z => by rw [z, egl4] at na1; cases na1
  have r1gl : r1 ≠ gl := fun z => by rw [z, egl4] at nr1; cases nr1
  have hdgl : hd ≠ gl := fun z => by rw [z, egl4] at nhd4; cases nhd4
  have egl6 := s46 _ _ egl4
  have er16 := frh_sub _ _ er1
  refine ⟨_, rfl, hd, _, _, _, rfl, rfl, .inl (SqL.of ehG), rfl, a0, _, _, _, rfl, rfl, .inl (SqL.of ea0G), rfl, .inl ⟨rfl, _, SqL.of eglG⟩, (by show 4 ≤ sizeLine; decide), fun z nz => nil_go ⟨gl, gxs, .ref z, rfl, rfl, (same_new nz) _ _ eglG, small1000 hgx, ?_⟩⟩
  have sz := same_new nz (o := .lst [.int 0, .int 0, .int 0, .int 0])
  have kp1 := (kp.same sz).other (o := .lst (gxs ++ [.ref z])) (sz _ _ eglG) (fun y => by rw [← y, egl6] at nM; cases nM) (fun y => by rw [← y, egl6] at nN; cases nN)
  have d1 := ((d06.trans dG).trans (Dr.of dG.box sz)).other (o := .lst (gxs ++ [.ref z])) (d03.free ngl) (d03.box.ne ngl)
  have dc1 : Dp K (upd (upd G z (.lst [.int 0, .int 0, .int 0, .int 0])) gl (.lst (gxs ++ [.ref z]))) vc (cnD c) := Dp.tp (((dG.tp d06.box).trans (Tp.of sz)).trans (Tp.upd (sz _ _ eglG))) _ (noL_cn c) hc6
  have dy1 : Dp K (upd (upd G z (.lst [.int 0, .int 0, .int 0, .int 0])) gl (.lst (gxs ++ [.ref z]))) vy (snD s0) := Dp.tp (((dG.tp d06.box).trans (Tp.of sz)).trans (Tp.upd (sz _ _ eglG))) _ (noL_sn s0) hy6
  have eh1 : (upd (upd G z (.lst [.int 0, .int 0, .int 0, .int 0])) gl (.lst (gxs ++ [.ref z]))) hd = some (.lst [.ref a0, .ref a1]) := by rw [upd_ne hdgl]; exact sz _ _ ehG
  have ea1' : (upd (upd G z (.lst [.int 0, .int 0, .int 0, .int 0])) gl (.lst (gxs ++ [.ref z]))) a1 = some (.lst [.ref r1, r2, r3]) := by rw [upd_ne a1gl]; exact sz _ _ ea1G
  have er1' : (upd (upd G z (.lst [.int 0, .int 0, .int 0, .int 0])) gl (.lst (gxs ++ [.ref z]))) r1 = some (.lst rxs) := by rw [upd_ne r1gl]; exact sz _ _ er1G
  generalize upd (upd G z (.lst [.int 0, .int 0, .int 0, .int 0])) gl (.lst (gxs ++ [.ref z])) = G1 at kp1 d1 dc1 dy1 eh1 ea1' er1'
  refine ⟨_, rfl, hd, _, _, _, rfl, rfl, .inl (SqL.of eh1), rfl, a1, _, _, _, rfl, rfl, .inl (SqL.of ea1'), rfl, r1, rxs, 0, 0, rfl, rfl, er1', ?_, ?_⟩
  · simp [ixN, hrx]
  have kp2 := kp1.other (o := .lst (rxs.set 0 (.int 7))) er1' (fun y => by rw [← y, er16] at nM; cases nM) (fun y => by rw [← y, er16] at nN; cases nN)
  have nr3 := s4.free nr1
  have d2 := d1.other (o := .lst (rxs.set 0 (.int 7))) (d03.free nr3) (d03.box.ne nr3)
  have dc2 := Dp.tp (Tp.upd (o := .lst (rxs.set 0 (.int 7))) er1') _ (noL_cn c) dc1
  have dy2 := Dp.tp (Tp.upd (o := .lst (rxs.set 0 (.int 7))) er1') _ (noL_sn s0) dy1
  generalize upd G1 r1 (.lst (rxs.set 0 (.int 7))) = G2 at kp2 d2 dc2 dy2
  have nMH := d06.free nM
  have nNH := d06.free nN
  clear kp1 d1 dc1 dy1 eh1 ea1' er1' kp sz nz sG sG4 ehG ea0G eglG ea1G er1G na1 nr1 nr3 ngl egl4 a1gl r1gl hdgl egl6 er16 ea0 egl ea1 er1 p1 p2 dG hc6 hy6 s36 s46 ehd nhd3 nhd4 b4
  refine ⟨_, rfl, _, rfl, nil_go ⟨vc, vy, c, s0, rfl, dc2, dy2, okc, fun vm G3 s3 dm => ⟨(by show 1 ≤ sizeLine; decide), fun sl nsl => ⟨(by show 0 ≤ sizeLine; decide), fun el nel => nil_go ⟨_, _, rfl, ?_⟩⟩⟩⟩⟩
  have sl3 := same_new nsl (o := .lst [vm])
  have d3 := d2.trans ((Dr.of d2.box s3).trans (Dr.of (Dr.of d2.box s3).box sl3))
  have L0 : Lv K C b a M N sl el H (upd (upd G3 sl (.lst [vm])) el (.lst [])) [mo0 c s0] [] [mo0 c s0] [] := by
    have se := same_new nel (o := .lst [])
    have kp4 := kp2.same (s3.trans (sl3.trans se))
    obtain ⟨ms, hm, _⟩ := (kp2.same s3).m
    obtain ⟨us, hn, _⟩ := (kp2.same s3).n
    have hm' := sl3 _ _ hm
    have hn' := sl3 _ _ hn
    refine ⟨d3.trans (Dr.of d3.box se), kp4, ⟨[vm], se _ _ upd_same, .cons (Dp.same (sl3.trans se) _ dm) .nil⟩, upd_same, ⟨nMH, nNH, ((d2.trans (Dr.of d2.box s3)).free nsl), d3.free nel⟩, ⟨?_, ?_, ?_⟩, ⟨?_, ?_, ?_⟩, d06.box.ne nM, d06.box.ne nN⟩
    · exact (Dr.of d2.box s3).box.ne nsl
    · exact fun z => by rw [z, hm] at nsl; cases nsl
    · exact fun z => by rw [z, hn] at nsl; cases nsl
    · exact d3.box.ne nel
    · exact fun z => by rw [z, hm'] at nel; cases nel
    · exact fun z => by rw [z, hn'] at nel; cases nel
  have ok0 : okMo (mo0 c s0) := okMo_0 okc os
  generalize upd (upd G3 sl (.lst [vm])) el (.lst []) = G4 at L0
  clear d3 sl3 nel nsl s3 dm dc2 dy2 d2 kp2 d03 d06 hc hy
  refine at_s (σ' := [some (.ref b), some vc, some vy, some (.ref hd), some (.ref a), some (.ref sl), some (.ref el), none, none, none, none, none, none, none, none, none, none, none, none]) rfl ?_
  refine ⟨30, rfl, by decide, by decide, for_it walk_range (fun i σ G => ∃ (ms : List Mo) (m : Mo) (ws : List Str) (sl el : Addr) (y7 y8 y9 y10 y11 y12 : Option V), σ = [some (.ref b), some vc, some vy, some (.ref hd), some (.ref a), some (.ref sl), some (.ref el), y7, y8, y9, y10, y11, y12, none, none, none, none, none, none] ∧ Lv K C b a M N sl el H G (ms ++ [m]) (notesOf ws) (ms ++ [m]) ws ∧ (∀ x ∈ ms ++ [m], okMo x) ∧ ms.length ≤ i ∧ ws.length = i) ⟨[], mo0 c s0, [], sl, el, none, none, none, none, none, none, rfl, L0, fun x hx => by rw [List.mem_singleton.mp hx]; exact ok0, Nat.le_refl _, rfl⟩ (fun _ _ _ _ _ => trivial) (fun i x σ G G' hi h hy => ?_) (fun σ G h => ?_)⟩
  · obtain ⟨ms, m, ws, sl, el, y7, y8, y9, y10, y11, y12, rfl, L, okm, hml, hwl⟩ := h
    obtain ⟨rfl, rfl⟩ := hy
    refine at_g (σ' := [some (.ref b), some vc, some vy, some (.ref hd), some (.ref a), some (.ref sl), some (.ref el), some (.int (0 + i)), y8, y9, y10, y11, y12, none, none, none, none, none, none]) rfl ?_
    have hnn : (notesOf ws).length ≤ 900 := by rw [notes_len]; omega
    refine seq1 (fun σ G => ∃ (ms : List Mo) (m : Mo) (ws : List Str) (sl el : Addr) (y8 y9 y10 y11 : Option V), σ = [some (.ref b), some vc, some vy, some (.ref hd), some (.ref a), some (.ref sl), some (.ref el), some (.int (0 + i)), y8, y9, y10, y11, y12, none, none, none, none, none, none] ∧ Lv K C b a M N sl el H G (ms ++ [m]) (notesOf ws) (ms ++ [m]) ws ∧ (∀ x ∈ ms ++ [m], okMo x) ∧ ms.length ≤ i + 1 ∧ ws.length = i + 1) (fun Nx hN => ?_) (fun σ G h => ?_)
    · refine ⟨_, rfl, b, 7, rfl, L.dr.box, by decide, by decide, fun i3 G3 _ _ d9 => ⟨rfl, _, rfl, ?_⟩⟩
      replace L := L.draw d9
      by_cases hi3 : V.int i3 = V.int 0
      · rw [decide_eq_true hi3]
        refine iteT ?_
        obtain ⟨dx, hi⟩ := L.kp.i
        refine ⟨_, rfl, a, dx, _, rfl, hi, kpF_no (by decide +kernel) (by decide +kernel), nil_go ⟨a, M, N, ms, m, _, rfl, L.kp, by omega, hnn, fun G4 f4 kp4 => ?_⟩⟩
        replace L := L.keep f4 kp4
        rw [← notes_snoc] at L
        obtain ⟨vs, v, hs, hvl, hat, dv, dvs⟩ := L.last
        have hd' : decide ((1 : Int) < (vs.length : Nat)) = decide (0 < ms.length) := by
          rw [hvl]
          by_cases h : 0 < ms.length
          · rw [decide_eq_true h, decide_eq_true (by omega)]
          · rw [decide_eq_false h, decide_eq_false (by omega)]
        refine ⟨_, rfl, nil_go ⟨sl, vs, rfl, .inl (SqL.of hs), _, _, rfl, rfl, nil_go ⟨_, _, .bool (decide (0 < ms.length)), rfl, .bl _, by rw [← hd']; exact .bl _, trivial, fun G5 s5 => ⟨true, rfl, iteF ?_⟩⟩⟩⟩
        replace L := L.sm s5
        have hs5 := s5 _ _ hs
        have ek : (if ((vs.length : Nat) : Int) - 1 > 1 then ((vs.length : Nat) : Int) - 1 else 1) = (((if ms.length = 0 then 1 else ms.length) : Nat) : Int) := by
          rw [hvl]
          by_cases h0 : ms.length = 0
          · rw [if_pos h0, if_neg (by omega)]; rfl
          · rw [if_neg h0]
            by_cases h1 : ms.length = 1
            · rw [if_neg (by omega), h1]; rfl
            · rw [if_pos (by omega)]; omega
        refine ⟨_, rfl, _, rfl, nil_go ⟨sl, vs, rfl, .inl (SqL.of hs5), _, _, rfl, rfl, nil_go ⟨_, _, rfl, _, rfl, sl, vs, rfl, SqL.of hs5, fun p np => ?_⟩⟩⟩
        dsimp only
        rw [ek, cut_to]
        have L2 := L.list (vs := vs.take (if ms.length = 0 then 1 else ms.length)) (lm' := undoM ms m) np (by rw [← undo_take]; exact DpAll.same (same_new np) _ (dpAll_take _ (DpAll.same s5 _ dvs)))
        generalize upd G5 p (.lst (vs.take (if ms.length = 0 then 1 else ms.length))) = G6 at L2
        refine ⟨_, rfl, (by show 1 ≤ sizeLine; decide), fun l nl => ?_⟩
        have L3 := L2.sm (same_new nl (o := .lst [.str "undo"]))
        refine ⟨el, l, _, _, rfl, rfl, SqL.of L3.e, SqL.of upd_same, ?_, fun p2 np2 => nil_go ⟨_, _, rfl, ?_⟩⟩
        · rw [List.length_map]; exact Nat.le_of_lt (small1000 (n := ws.length + 1) (by omega))
        have L4 := L3.words (lw' := ws ++ [("undo" : Str)]) np2
        obtain ⟨ms', m', eu, hle⟩ := undo_last ms m
        rw [eu] at L4
        refine at_s (σ' := [some (.ref b), some vc, some vy, some (.ref hd), some (.ref a), some (.ref p), some (.ref p2), some (.int (0 + i)), y8, y9, y10, y11, y12, none, none, none, none, none, none]) rfl ?_
        refine hN _ _ ⟨ms', m', ws ++ [("undo" : Str)], p, p2, y8, y9, y10, y11, rfl, ?_, fun x hx => okm x (undo_mem (by rw [eu]; exact hx)), by omega, by rw [List.length_append, hwl]; rfl⟩
        rw [List.map_append] at L4
        exact L4
      · rw [decide_eq_false hi3]
        refine iteF ?_
        obtain ⟨vs, v, hs, hvl, hat, dv, dvs⟩ := L.last
        have okmm := okm m (List.mem_append_right _ (List.mem_singleton.mpr rfl))
        refine ⟨_, rfl, _, rfl, _, rfl, sl, vs, _, _, rfl, rfl, .inl (SqL.of hs), hat, nil_go ⟨b, v, m, rfl, L.dr.box, dv, okmm, fun dd u G2 d2 okd okg dn => ?_⟩⟩
        have hs2 := d2.same _ _ L.ne.1.1 hs
        have dv2 := Dp.tp (d2.tp L.dr.box) _ (noL_mo m) dv
        obtain ⟨kms, hkm, _⟩ := L.kp.m
        obtain ⟨kns, hkn, _⟩ := L.kp.n
        have hkm2 := d2.same _ _ L.ne.2.2.1 hkm
        have hkn2 := d2.same _ _ L.ne.2.2.2 hkn
        have dz := dn.z (M := M) (N := N) hkm2 hkn2 hkm hkn
        replace L := L.draw d2
        refine at_g (σ' := [some (.ref b), some vc, some vy, some (.ref hd), some (.ref a), some (.ref sl), some (.ref el), some (.int (0 + i)), some u, y9, y10, y11, y12, none, none, none, none, none, none]) rfl ?_
        refine ⟨_, rfl, _, rfl, sl, vs, _, _, rfl, rfl, .inl (SqL.of hs2), hat, _, rfl, nil_go ⟨v, u, m, dd, rfl, okd, dv2, dn.dp, okmm, fun v' G3 s3 d3 => ?_⟩⟩
        obtain ⟨D1, D2, eD, hD⟩ : ∃ D1 D2, resD (tellD dd) (doR m dd) = .tuple [D1, D2] ∧ ((∃ m', doR m dd = .ok m' ∧ D1 = tellD dd m' ∧ D2 = moD m') ∨ ∃ e, doR m dd = .error e ∧ D1 = Wd e ∧ D2 = .none) := by
          cases hr : doR m dd with
          | ok m' => exact ⟨_, _, rfl, .inl ⟨m', rfl, rfl, rfl⟩⟩
          | error e => exact ⟨_, _, rfl, .inr ⟨e, rfl, rfl, rfl⟩⟩
        rw [eD] at d3
        obtain ⟨t, x1, x2, rfl, ht, q1, q2⟩ := dpT2 d3
        refine ⟨t, _, rfl, .inr ht, rfl, _, _, rfl, _, _, rfl, rfl, ?_⟩
        refine at_s (σ' := [some (.ref b), some vc, some vy, some (.ref hd), some (.ref a), some (.ref sl), some (.ref el), some (.int (0 + i)), some u, some x1, some x2, y11, y12, none, none, none, none, none, none]) rfl ?_
        replace L := L.sm s3
        replace dz := dz.same (FrK.ap (FrK.of s3))
        have hkm3 := s3 _ _ hkm2
        have hkn3 := s3 _ _ hkn2
        obtain ⟨tu, uxs, rfl, htu, hu0⟩ := dn.head
        have htu3 := Same.tup s3 htu
        dsimp only
        refine seq1 (fun σ G => ∃ (x11 : V) (km : List Mo), σ = [some (.ref b), some vc, some vy, some (.ref hd), some (.ref a), some (.ref sl), some (.ref el), some (.int (0 + i)), some (.ref tu), some x1, some x2, some x11, y12, none, none, none, none, none, none] ∧ Lv K C b a M N sl el H G km (notesOf (ws ++ [nmD dd])) (ms ++ [m]) ws ∧ Dp K G x11 D1 ∧ Dp K G x1 D1 ∧ okD 20 D1 ∧ Dp K G x2 D2 ∧ SqT K G tu uxs ∧ ((D2 = .none ∧ km = ms ++ [m]) ∨ ∃ m', D2 = moD m' ∧ km = ms ++ [m] ++ [m'] ∧ okMo m')) (fun Nx2 hN2 => ?_) (fun σ G h => ?_)
        · refine ⟨_, rfl, tIf_mid (fun y G4 => Same G3 G4 ∧ DdZ K (ap M N G4) y dd) (fun R hR => ?_) (fun y G4 h => ?_)⟩
          · refine ⟨_, rfl, tu, _, _, _, rfl, rfl, .inr htu3, hu0, rfl, _, rfl, ?_⟩
            by_cases hrow : V.str (nmD dd) = V.str "row"
            rotate_left
            · rw [decide_eq_false hrow]
              exact iteF (iteF ⟨_, rfl, hR _ _ ⟨Same.refl _, dz⟩⟩)
            rw [decide_eq_true hrow]
            refine iteT ⟨_, rfl, _, _, rfl, rfl, (by show (2 : Int) ≠ 0; decide), rfl, _, rfl, ?_⟩
            by_cases hodd : V.int ((0 + (i : Int)).fmod 2) = V.int 0
            rotate_left
            · rw [show decide ((fun i j => V.int (i.fmod j)) (0 + (i : Int)) 2 = V.int 0) = false from decide_eq_false hodd]
              exact iteF ⟨_, rfl, hR _ _ ⟨Same.refl _, dz⟩⟩
            rw [show decide ((fun i j => V.int (i.fmod j)) (0 + (i : Int)) 2 = V.int 0) = true from decide_eq_true hodd]
            refine iteT ?_
            cases dd with
            | row gs =>
              obtain ⟨t', g, wsx, et, ht', ng, hg', hdg⟩ := dn
              cases et
              have hl50 : gs.length ≤ 50 := okg
              have okdg : okD 20 (.list (gs.map gD)) := ⟨by rw [List.length_map]; omega, fun d hd => by
                obtain ⟨e, _, rfl⟩ := List.mem_map.mp hd
                exact ⟨by show 2 ≤ 1000; decide, fun d hd => by
                  rcases List.mem_cons.mp hd with rfl | hd
                  · trivial
                  · obtain rfl := List.mem_singleton.mp hd
                    trivial⟩⟩
              refine ⟨_, rfl, tu, _, _, _, rfl, rfl, .inr (.inl (.inl (s3 _ _ ht'))), rfl, nil_go ⟨.ref g, .list (gs.map gD), rfl, Dp.same s3 _ (.lst (SqL.of hg') hdg), okdg, fun v' H' s' p' => ⟨(by show 2 ≤ sizeLine; decide), fun t6 n6 => ?_⟩⟩⟩
              obtain ⟨l, rfl, hrz⟩ := rowZ_lists (K := K) (M := M) (N := N) p' s' hkm3 hkn3
              have s6 := same_new n6 (o := .tup [.str "row", .ref l])
              exact hR _ _ ⟨s'.trans s6, t6, l, rfl, .inl (.inl ((tp_ap (s6 _ _ (s' _ _ hkm3)) (s6 _ _ (s' _ _ hkn3))).t _ _ upd_same)), hrz.same (FrK.ap (FrK.of s6))⟩
            | go i r => exact absurd (show ("go" : Str) = "row" from V.str.inj hrow) (by decide +kernel)
            | fill r i x => exact absurd (show ("fill" : Str) = "row" from V.str.inj hrow) (by decide +kernel)
            | drain r i x => exact absurd (show ("drain" : Str) = "row" from V.str.inj hrow) (by decide +kernel)
            | turn i => exact absurd (show ("turn" : Str) = "row" from V.str.inj hrow) (by decide +kernel)
            | dig p c x y => exact absurd (show ("dig" : Str) = "row" from V.str.inj hrow) (by decide +kernel)
          · obtain ⟨s4, dz4⟩ := h
            replace L := L.sm s4
            refine nil_go ⟨a, M, N, ms, m, _, y, dd, rfl, L.kp, okmm, by omega, hnn, dz4, fun m' hres G5 f5 kp5 => ?_, fun e hres t5 v5 G5 f5 ht5 hf5 kp5 => ?_⟩
            · refine at_g (σ' := [some (.ref b), some vc, some vy, some (.ref hd), some (.ref a), some (.ref sl), some (.ref el), some (.int (0 + i)), some (.ref tu), some x1, some x2, some (tellV dd m'), y12, none, none, none, none, none, none]) rfl ?_
              rcases hD with ⟨m2, h1, h2, h3⟩ | ⟨e, h1, _⟩
              rotate_left
              · rw [hres] at h1; cases h1
              rw [hres] at h1
              obtain rfl : m' = m2 := by injection h1
              have tp := (Tp.of s4).trans (f5.tp (s4 _ _ hkm3) (s4 _ _ hkn3))
              have L5 := L.keep f5 kp5
              rw [← notes_snoc] at L5
              refine hN2 _ _ ⟨_, _, rfl, L5, by rw [h2]; exact dp_tell dd m', by rw [h2] at q1 ⊢; exact Dp.tp tp _ (noL_tell dd m') q1, by rw [h2]; exact okD_tell dd m', by rw [h3] at q2 ⊢; exact Dp.tp tp _ (noL_mo m') q2, tp.sqT htu3, .inr ⟨m', h3, rfl, okMo_doR okmm okd okg hres⟩⟩
            · refine at_g (σ' := [some (.ref b), some vc, some vy, some (.ref hd), some (.ref a), some (.ref sl), some (.ref el), some (.int (0 + i)), some (.ref tu), some x1, some x2, some (.ref t5), y12, none, none, none, none, none, none]) rfl ?_
              rcases hD with ⟨m2, h1, _⟩ | ⟨e2, h1, h2, h3⟩
              · rw [hres] at h1; cases h1
              rw [hres] at h1
              obtain rfl : e = e2 := by injection h1
              have tp := (Tp.of s4).trans (f5.tp (s4 _ _ hkm3) (s4 _ _ hkn3))
              have L5 := L.keep f5 kp5
              rw [← notes_snoc] at L5
              refine hN2 _ _ ⟨_, _, rfl, L5, by rw [h2]; exact hf5.dp ht5, by rw [h2] at q1 ⊢; exact Dp.tp tp _ (noL_W e) q1, by rw [h2]; exact okD_W e, by rw [h3] at q2 ⊢; cases q2; exact .non, tp.sqT htu3, .inl ⟨h3, rfl⟩⟩
        · obtain ⟨x11, km, rfl, L, e11, e1, okD1, e2, htu5, hkd⟩ := h
          refine ⟨_, rfl, _, rfl, nil_go ⟨x11, x1, D1, rfl, e11, e1, okD1, fun G6 s6 => ⟨true, rfl, iteF ?_⟩⟩⟩
          replace L := L.sm s6
          refine ⟨_, rfl, _, rfl, tu, _, _, _, rfl, rfl, .inr (Same.tup s6 htu5), hu0, (by show 1 ≤ sizeLine; decide), fun l nl => ?_⟩
          have L3 := L.sm (same_new nl (o := .lst [.str (nmD dd)]))
          refine ⟨el, l, _, _, rfl, rfl, SqL.of L3.e, SqL.of upd_same, ?_, fun p2 np2 => ?_⟩
          · rw [List.length_map]; exact Nat.le_of_lt (small1000 (n := ws.length + 1) (by omega))
          have L4 := L3.words (lw' := ws ++ [nmD dd]) np2
          have s46 := s6.trans ((same_new nl (o := .lst [.str (nmD dd)])).trans (same_new np2 (o := .lst ((ws ++ [nmD dd]).map V.str))))
          rw [List.map_append] at L4 s46
          have e2' : Dp K (upd (upd G6 l (.lst [.str (nmD dd)])) p2 (.lst (ws.map V.str ++ [.str (nmD dd)]))) x2 D2 := Dp.same s46 _ e2
          clear s46
          refine at_g (σ' := [some (.ref b), some vc, some vy, some (.ref hd), some (.ref a), some (.ref sl), some (.ref p2), some (.int (0 + i)), some (.ref tu), some x1, some x2, some x11, y12, none, none, none, none, none, none]) rfl ?_
          have hw1 : (ws ++ [nmD dd]).length = i + 1 := by rw [List.length_append, hwl]; rfl
          have L4 : Lv K C b a M N sl p2 H (upd (upd G6 l (.lst [.str (nmD dd)])) p2 (.lst (ws.map V.str ++ [.str (nmD dd)]))) km (notesOf (ws ++ [nmD dd])) (ms ++ [m]) (ws ++ [nmD dd]) := L4
          generalize upd (upd G6 l (.lst [.str (nmD dd)])) p2 (.lst (ws.map V.str ++ [.str (nmD dd)])) = G7 at L4 e2' ⊢
          rcases hkd with ⟨h1, rfl⟩ | ⟨m', h1, rfl, okm'⟩
          · rw [h1] at e2'
            cases e2'
            refine ⟨_, rfl, rfl, true, rfl, iteT ⟨_, rfl, ?_⟩⟩
            refine at_g (σ' := [some (.ref b), some vc, some vy, some (.ref hd), some (.ref a), some (.ref sl), some (.ref p2), some (.int (0 + i)), some (.ref tu), some x1, some .non, some x11, y12, none, none, none, none, none, none]) rfl ?_
            exact hN _ _ ⟨ms, m, ws ++ [nmD dd], sl, p2, _, _, _, _, rfl, L4, okm, by omega, hw1⟩
          · rw [h1] at e2'
            obtain ⟨zt, _, _, _, _, rfl, _⟩ := mo_of e2'
            obtain ⟨vs7, h7, dvs7⟩ := L4.s
            have hl7 := DpAll.length dvs7
            rw [List.length_map, List.length_append] at hl7
            have hl7 : vs7.length = ms.length + 1 := hl7
            refine ⟨_, rfl, rfl, false, rfl, iteF ⟨_, rfl, _, rfl, (by show 1 ≤ sizeLine; decide), fun l2 nl2 => ?_⟩⟩
            have L5 := L4.sm (same_new nl2 (o := .lst [.ref zt]))
            refine ⟨sl, l2, _, _, rfl, rfl, SqL.of ((same_new nl2) _ _ h7), SqL.of upd_same, Nat.le_of_lt (small1000 (n := vs7.length + 1) (by omega)), fun p3 np3 => ?_⟩
            have L6 := L5.list (vs := vs7 ++ [.ref zt]) (lm' := ms ++ [m] ++ [m']) np3 (by
              rw [List.map_append]
              have s := (same_new nl2 (o := .lst [.ref zt])).trans (same_new np3 (o := .lst (vs7 ++ [.ref zt])))
              exact dpAll_snoc (DpAll.same s _ dvs7) (Dp.same s _ e2'))
            refine at_g (σ' := [some (.ref b), some vc, some vy, some (.ref hd), some (.ref a), some (.ref p3), some (.ref p2), some (.int (0 + i)), some (.ref tu), some x1, some (.ref zt), some x11, y12, none, none, none, none, none, none]) rfl ?_
            refine hN _ _ ⟨ms ++ [m], m', ws ++ [nmD dd], p3, p2, _, _, _, _, rfl, L6, fun x hx => ?_, by rw [List.length_append]; show ms.length + 1 ≤ i + 1; omega, hw1⟩
            rcases List.mem_append.mp hx with hx | hx
            · exact okm x hx
            · rw [List.mem_singleton.mp hx]; exact okm'
    · obtain ⟨ms, m, ws, sl, el, y8, y9, y10, y11, rfl, L, okm, hml, hwl⟩ := h
      have okmm := okm m (List.mem_append_right _ (List.mem_singleton.mpr rfl))
      obtain ⟨hp1, hp2⟩ := parts_len okmm
      have h3 := okmm.h; have w2 := okmm.w
      refine ⟨_, rfl, nil_go ⟨a, M, N, ms, m, _, rfl, L.kp, okmm, fun Lt v1 v2 v3 v4 G1 s1 nL eL p1 p2 p3 p4 => ?_⟩⟩
      refine at_g (σ' := [some (.ref b), some vc, some vy, some (.ref hd), some (.ref a), some (.ref sl), some (.ref el), some (.int (0 + i)), y8, y9, y10, y11, some (.ref Lt), none, none, none, none, none, none]) rfl ?_
      have L1 := L.sm s1
      obtain ⟨vs, v, hs, hvl, hat, dv, dvs⟩ := L1.last
      obtain ⟨dx, hi⟩ := L1.kp.i
      refine ⟨_, rfl, _, rfl, _, rfl, sl, vs, _, _, rfl, rfl, .inl (SqL.of hs), hat, nil_go ⟨v, m, rfl, dv, by omega, by omega, fun v' G2 s2 d2 => nil_go ⟨.ref Lt, v', toD m, rfl, .lst (SqL.of (s2 _ _ eL)) (.cons (Dp.same s2 _ p1) (.cons (Dp.same s2 _ p2) (.cons (p3.same s2).dp (.cons (p4.same s2).dp (.cons (.int _) .nil))))), d2, okD_to okmm, fun G3 s3 => ⟨true, rfl, iteF ?_⟩⟩⟩⟩
      have s23 := s2.trans s3
      refine ⟨_, rfl, a, dx, _, rfl, s23 _ _ hi, kpF_no (by decide +kernel) (by decide +kernel), nil_go ⟨a, M, N, ms ++ [m], _, rfl, L1.kp.same s23, _, rfl, nil_go ⟨sl, vs, rfl, .inl (SqL.of (s23 _ _ hs)), _, _, rfl, rfl, rfl, _, rfl, ?_⟩⟩⟩
      rw [show decide (V.int ((((ms ++ [m]).length : Nat) : Int) - 1) = V.int (((vs.length : Nat) : Int) - 1)) = true from decide_eq_true (by rw [hvl, List.length_append]; rfl)]
      refine iteF ?_
      replace p3 := p3.same s23
      replace p4 := p4.same s23
      replace eL := s23 _ _ eL
      have s13 := s1.trans s23
      clear L1 hs hi dvs dv s23 s2 s3 d2 p1 p2
      obtain ⟨t3, ls3, l3, z3, rfl, ht3, ha3, hl3, nl3, hz3⟩ := p3.at (j := 0) (by omega)
      obtain ⟨t4, ls4, l4, z4, rfl, ht4, ha4, hl4, nl4, hz4⟩ := p4.at (j := 1) (by omega)
      have hLl : Lt ≠ l3 := fun z => by
        rw [z, hl3] at eL
        have e2 := Option.some.inj eL
        injection e2 with e2
        have e3 := congrArg (fun l : List V => l[2]?) e2
        simp at e3
      refine ⟨_, rfl, Lt, _, _, _, rfl, rfl, .inl (SqL.of eL), rfl, t3, ls3, _, _, rfl, rfl, .inr (.inl (.inl ht3)), ha3, .inl ⟨rfl, _, SqL.of hl3⟩, ?_⟩
      refine ⟨l3, z3.map V.int, .str "more", rfl, rfl, hl3, by rw [List.length_map]; exact small1000 (hp1 z3 hz3), ?_⟩
      have s4 : Same G (upd G3 l3 (.lst (z3.map V.int ++ [.str "more"]))) := fun x o e => by rw [upd_ne (fun z => by rw [z, nl3] at e; cases e)]; exact s13 _ _ e
      have eL4 : (upd G3 l3 (.lst (z3.map V.int ++ [.str "more"]))) Lt = some (.lst [v1, v2, .ref t3, .ref t4, .int m.c.ls.length]) := by rw [upd_ne hLl]; exact eL
      have ht4' := (Tp.upd (o := .lst (z3.map V.int ++ [.str "more"])) hl3).t _ _ ht4
      obtain ⟨ys, hy4, hyl⟩ : ∃ ys, (upd G3 l3 (.lst (z3.map V.int ++ [.str "more"]))) l4 = some (.lst ys) ∧ ys.length ≤ 1001 := by
        by_cases h : l4 = l3
        · exact ⟨_, by rw [h]; exact upd_same, by rw [List.length_append, List.length_map]; have := hp1 z3 hz3; show z3.length + 1 ≤ 1001; omega⟩
        · exact ⟨_, by rw [upd_ne h]; exact hl4, by rw [List.length_map]; have := hp2 z4 hz4; omega⟩
      generalize upd G3 l3 (.lst (z3.map V.int ++ [.str "more"])) = G4 at s4 eL4 ht4' hy4
      refine ⟨_, rfl, Lt, _, _, _, rfl, rfl, .inl (SqL.of eL4), rfl, t4, ls4, _, _, rfl, rfl, .inr (.inl (.inl ht4')), ha4, .inl ⟨rfl, _, SqL.of hy4⟩, ?_⟩
      refine ⟨l4, ys, .str "more", rfl, rfl, hy4, Nat.lt_of_le_of_lt hyl (by decide), ?_⟩
      have s5 : Same G (upd G4 l4 (.lst (ys ++ [.str "more"]))) := fun x o e => by rw [upd_ne (fun z => by rw [z, nl4] at e; cases e)]; exact s4 _ _ e
      exact ⟨ms, m, ws, sl, el, _, _, _, _, _, _, rfl, L.sm s5, okm, hml, hwl⟩
  · obtain ⟨ms, m, ws, sl, el, y7, y8, y9, y10, y11, y12, rfl, L, okm, hml, hwl⟩ := h
    have okmm := okm m (List.mem_append_right _ (List.mem_singleton.mpr rfl))
    refine ⟨(by show 0 ≤ sizeLine; decide), fun lg0 nlg => ?_⟩
    refine at_g (σ' := [some (.ref b), some vc, some vy, some (.ref hd), some (.ref a), some (.ref sl), some (.ref el), y7, y8, y9, y10, y11, y12, some (.ref lg0), none, none, none, none, none]) rfl ?_
    have L1 := L.sm (same_new nlg (o := .lst []))
    have elg : (upd G lg0 (.lst [])) lg0 = some (.lst []) := upd_same
    generalize upd G lg0 (.lst []) = G1 at L1 elg
    refine ⟨_, rfl, el, _, rfl, .inl (SqL.of L1.e), fun J wk => for_it wk (fun j σ Z => ∃ (lg : Addr) (lus : List V) (y14 : Option V), σ = [some (.ref b), some vc, some vy, some (.ref hd), some (.ref a), some (.ref sl), some (.ref el), y7, y8, y9, y10, y11, y12, some (.ref lg), y14, none, none, none, none] ∧ Same G1 Z ∧ Z lg = some (.lst lus) ∧ DpAll K Z lus (notesOf (ws.take j))) ⟨lg0, [], none, rfl, Same.refl _, elg, .nil⟩ (fun j σ Z _ h => ?_) (fun j x σ Z Z' hj h hy => ?_) (fun σ Z h => ?_)⟩
    · obtain ⟨lg, lus, y14, rfl, sZ, _⟩ := h
      exact ⟨fun _ z => sZ.seq z, fun z => Same.tup sZ z⟩
    · obtain ⟨lg, lus, y14, rfl, sZ, eZ, dZ⟩ := h
      obtain ⟨rfl, hx⟩ := hy
      rw [List.getElem?_map] at hx
      obtain ⟨wd, hwd, rfl⟩ := Option.map_eq_some_iff.mp hx
      have hj2 : j < ws.length := (List.getElem?_eq_some_iff.mp hwd).1
      have hll : lus.length = 2 * j := by
        rw [DpAll.length dZ, notes_len, List.length_take, Nat.min_eq_left (by omega)]
      refine at_g (σ' := [some (.ref b), some vc, some vy, some (.ref hd), some (.ref a), some (.ref sl), some (.ref el), y7, y8, y9, y10, y11, y12, some (.ref lg), some (.str wd), none, none, none, none]) rfl ?_
      refine ⟨_, rfl, _, rfl, (by show 2 ≤ sizeLine; decide), fun t1 n1 => ⟨_, rfl, (by show 2 ≤ sizeLine; decide), fun t2 n2 => ⟨(by show 2 ≤ sizeLine; decide), fun l nl => ?_⟩⟩⟩
      have s1 := same_new n1 (o := .tup [.str "in", .str wd])
      have s2 := same_new n2 (o := .tup [.str "out", .str wd])
      have s3 := same_new nl (o := .lst [.ref t1, .ref t2])
      refine ⟨lg, l, _, _, rfl, rfl, SqL.of ((s1.trans (s2.trans s3)) _ _ eZ), SqL.of upd_same, Nat.le_of_lt (small1000 (n := lus.length + 2) (by omega)), fun p np => ?_⟩
      have s4 := same_new np (o := .lst (lus ++ [.ref t1, .ref t2]))
      have s14 := s1.trans (s2.trans (s3.trans s4))
      refine at_g (σ' := [some (.ref b), some vc, some vy, some (.ref hd), some (.ref a), some (.ref sl), some (.ref el), y7, y8, y9, y10, y11, y12, some (.ref p), some (.str wd), none, none, none, none]) rfl ?_
      refine ⟨p, _, _, rfl, sZ.trans s14, upd_same, ?_⟩
      rw [List.take_succ, hwd]
      show DpAll K _ (lus ++ [.ref t1, .ref t2]) (notesOf (ws.take j ++ [wd]))
      rw [notes_snoc, List.append_assoc]
      exact dpAll_app (DpAll.same s14 _ dZ) (.cons (dp2 ((s2.trans (s3.trans s4)) _ _ upd_same) (.str _) (.str _)) (.cons (dp2 ((s3.trans s4) _ _ upd_same) (.str _) (.str _)) .nil))
    · obtain ⟨lg, lus, y14, rfl, sZ, eZ, dZ⟩ := h
      rw [List.take_of_length_le (by rw [List.length_map]; exact Nat.le_refl _)] at dZ
      replace L1 := L1.sm sZ
      obtain ⟨dx, hi⟩ := L1.kp.i
      have okdn : okD 20 (.list (notesOf ws)) := ⟨by rw [notes_len]; omega, fun d hd => by
        unfold notesOf at hd
        obtain ⟨w', _, hd⟩ := List.mem_flatMap.mp hd
        have hn : ∀ x y : Str, okD 19 (noteD x y) := fun x y => ⟨by show 2 ≤ 1000; decide, fun d hd => by
          rcases List.mem_cons.mp hd with rfl | hd
          · trivial
          · obtain rfl := List.mem_singleton.mp hd
            trivial⟩
        rcases List.mem_cons.mp hd with rfl | hd
        · exact hn _ _
        · obtain rfl := List.mem_singleton.mp hd
          exact hn _ _⟩
      refine ⟨_, rfl, a, dx, _, rfl, hi, kpF_no (by decide +kernel) (by decide +kernel), nil_go ⟨a, M, N, ms ++ [m], _, rfl, L1.kp, fun l us H2 s2 nl el2 dl => ⟨_, rfl, nil_go ⟨.ref l, .ref lg, .list (notesOf ws), rfl, .lst (SqL.of el2) dl, .lst (SqL.of (s2 _ _ eZ)) (DpAll.same s2 _ dZ), okdn, fun G3 s3 => ⟨true, rfl, iteF ?_⟩⟩⟩⟩⟩
      replace L1 := L1.sm (s2.trans s3)
      have elg3 := (s2.trans s3) _ _ eZ
      have dlg3 := DpAll.same (s2.trans s3) _ dZ
      replace hi := (s2.trans s3) _ _ hi
      obtain ⟨vs, v, hs, hvl, hat, dv, dvs⟩ := L1.last
      obtain ⟨ma, mc, ms_, mh_, mw_, rfl, hma, dc, _⟩ := mo_of dv
      obtain ⟨g, gg, gs, rfl, hg, hgg, hgs⟩ := cn_of dc
      have hgl : gs.length = m.c.ls.length := by rw [DpAll.length hgs, List.length_map]
      refine ⟨_, rfl, _, rfl, sl, vs, _, _, rfl, rfl, .inl (SqL.of hs), hat, ma, _, _, _, rfl, rfl, .inr hma, rfl, g, _, rfl, .inr hg, rfl, _, _, rfl, _, _, rfl, _, _, rfl, rfl, ?_⟩
      refine at_s (σ' := [some (.ref b), some vc, some vy, some (.ref hd), some (.ref a), some (.ref sl), some (.ref el), y7, y8, y9, y10, y11, y12, some (.ref lg), y14, some (.int m.c.r), some (.int m.c.b), some (.ref gg), none]) rfl ?_
      have rr1 := okmm.c.r1; have rr2 := okmm.c.r2; have bb1 := okmm.c.b1; have bb2 := okmm.c.b2; have ln := okmm.c.n
      have t1 := ts_le (i := m.c.r) (by omega) (by omega)
      have t2 := ts_le (i := m.c.b) (by omega) (by omega)
      have t3 := ts_le (i := ((m.c.ls.length : Nat) : Int)) (by omega) (by omega)
      have l0 : ("Keep(" : Str).length = 5 := by decide +kernel
      have l1 : (" red, " : Str).length = 6 := by decide +kernel
      have l2 : (" blue, " : Str).length = 7 := by decide +kernel
      have l3 : (" locks)" : Str).length = 7 := by decide +kernel
      have sz : ∀ n : Nat, n ≤ 1000 → n ≤ sizeLine := fun n h => Nat.le_of_lt (small1000 h)
      refine ⟨_, rfl, nil_go ⟨_, rfl, log_ts (by omega) (by omega), _, _, rfl, rfl, sz _ (by rw [l0]; omega), _, _, rfl, rfl, sz _ (by rw [Str.length_append, l0, l1]; omega), ?_⟩⟩
      refine ⟨_, rfl, nil_go ⟨_, rfl, log_ts (by omega) (by omega), _, _, rfl, rfl, sz _ (by rw [Str.length_append, Str.length_append, l0, l1]; omega), _, _, rfl, rfl, sz _ (by rw [Str.length_append, Str.length_append, Str.length_append, l0, l1, l2]; omega), ?_⟩⟩
      refine ⟨_, rfl, nil_go ⟨gg, gs, rfl, .inr hgg, nil_go ⟨_, rfl, log_ts (by omega) (by omega), _, _, rfl, rfl, sz _ (by rw [Str.length_append, Str.length_append, Str.length_append, Str.length_append, l0, l1, l2, hgl]; omega), _, _, rfl, rfl, sz _ (by rw [Str.length_append, Str.length_append, Str.length_append, Str.length_append, Str.length_append, l0, l1, l2, l3, hgl]; omega), ?_⟩⟩⟩
      rw [hgl]
      refine at_g (σ' := [some (.ref b), some vc, some vy, some (.ref hd), some (.ref a), some (.ref sl), some (.ref el), y7, y8, y9, y10, y11, y12, some (.ref lg), y14, some (.int m.c.r), some (.int m.c.b), some (.ref gg), some (.str (nmK m.c))]) rfl ?_
      refine ⟨_, rfl, a, dx, _, rfl, hi, kpF_no (by decide +kernel) (by decide +kernel), nil_go ⟨a, M, N, ms ++ [m], _, rfl, L1.kp, fun l5 us5 H5 s5 nl5 el5 dl5 => ⟨.inl ⟨rfl, _, SqL.of el5⟩, ⟨l5, us5, .str "more", rfl, rfl, el5, ?_, ?_⟩⟩⟩⟩
      · rw [DpAll.length dl5, notes_len]; exact small1000 (by omega)
      have s6 : Same G3 (upd H5 l5 (.lst (us5 ++ [.str "more"]))) := fun x o e => by rw [upd_ne (fun z => by rw [z, nl5] at e; cases e)]; exact s5 _ _ e
      generalize upd H5 l5 (.lst (us5 ++ [.str "more"])) = G6 at s6
      replace L1 := L1.sm s6
      refine ⟨_, rfl, nil_go ⟨a, dx, _, rfl, s6 _ _ hi, a, M, N, ms, m, _, rfl, L1.kp, okmm, _, rfl, ?_⟩⟩
      refine ⟨_, rfl, rfl, ?_⟩
      refine ⟨true, str_eq, iteT ?_⟩
      refine ⟨_, rfl, a, dx, _, rfl, s6 _ _ hi, kpF_no (by decide +kernel) (by decide +kernel), nil_go ⟨a, M, N, ms ++ [m], _, rfl, L1.kp, fun l7 us7 H7 s7 nl7 el7 dl7 => ⟨_, rfl, nil_go ⟨.ref l7, .ref lg, .list (notesOf ws), rfl, .lst (SqL.of el7) dl7, .lst (SqL.of (s7 _ _ (s6 _ _ elg3))) (DpAll.same (s6.trans s7) _ dlg3), okdn, fun G8 s8 => ?_⟩⟩⟩⟩
      exact q G8 (L1.sm (s7.trans s8)).dr
end
end XL
namespace XL
open PySem PySem.Spec PyProof.Rows L2
theorem fn_upC {P : Program} {w : World} {K : PySem.W.Frag} {mg : Str → Option Value} {base : Heap} {CX : CXT} {k n : Nat} {f : Addr} {fd : FuncData} {ps : List Str} {sp : Sp} (h : k ≤ n) (F : FnOk P w K mg base CX k f fd ps sp) : FnOk P w K mg base CX n f fd ps sp :=
  ⟨F.len, fun A outer s H args us vs Q E hr e0 hb r q => F.run A outer s H args us vs Q E (hr.mono h) e0 hb r q⟩
section
variable {P : Program} {w : World} {K : PySem.W.Frag} {mg : Str → Option Value} {base : Heap}
abbrev sLaw : Stmt := topS 62
abbrev nLaw : List Str := ["_law_script", "_law_cells_here", "_law_k", "_law_box_here"]
theorem scLaw : FnScope nLaw ["_law_script"] (defScope sLaw) := ⟨rfl, rfl, rfl, by decide +kernel, rfl, by decide +kernel, by decide +kernel⟩
def spLaw (K : PySem.W.Frag) : Sp := fun vs H Q _ => ∃ (a : Addr) (ns : List Int), vs = [.ref a] ∧ SqL K H a (ns.map V.int) ∧ ns.length ≤ 63 ∧ ∀ H', Q (.bl true) H'
theorem ok_law {f fc fx fr : Addr} {fd dc dx dr : FuncData} (F : Fun K "law" "law" sLaw f fd)
    (Ce : Fns P w K mg base 27 "_law_cells" ["_law_script", "_law_utmost"] (spCells K) fc dc) (Bo : Fns P w K mg base 27 "_law_box" ["_law_cells_here", "_law_k"] (spBox K) fx dx) (Rig : Fns P w K mg base 27 "_law_right" ["_law_box_here"] spRig fr dr)
    (m_len : mg "len" = none) (m_range : mg "range" = none) : FnG P w K mg base 28 f fd ["_law_script"] (spLaw K) := by
  refine okG F scLaw (fun vs H Q E h => ?_) (fun cdv A outer s H vs Q E hG hr h => ?_)
  · obtain ⟨a, ns, rfl, _⟩ := h
    rfl
  obtain ⟨a, ns, rfl, ha, hn, q⟩ := h
  refine ⟨_, (pss_cons (ps_set (i := 1) scLaw.nd rfl (.inl rfl) (pe_fn Ce hr rfl (pa_cons (pv 0) (pa_cons pe_int pa_nil))))
    (pss_cons (ps_for PassesOwn.never rfl (pi_range1 rfl m_range (pa_cons (pe_callB (r := rLenA K) call_lenA rfl m_len PySem.boot_len (pa_cons (pv 1) pa_nil)) pa_nil)) (pg_name (i := 2) scLaw.nd rfl (.inl rfl))
    (pss_cons (ps_set (i := 3) scLaw.nd rfl (.inl rfl) (pe_fn Bo hr rfl (pa_cons (pv 1) (pa_cons (pv 2) pa_nil))))
    (pss_one (ps_if (PW.pt (pw_or (pt_not (pt_val (pe_fn Rig hr rfl (pa_cons (pv 3) pa_nil)))) (pw_or1 (pt_not (pt_val (pe_fn Rig hr rfl (pa_cons (pv 3) pa_nil))))))) (pss_one (ps_ret pe_bl)) pss_nil))))
    (pss_one (ps_ret pe_bl)))), ?_⟩
  refine ⟨_, rfl, a, ns, 2, rfl, ha, hn, by decide, by decide, fun p zs H1 s1 np ep z1 z2 => ?_⟩
  refine ⟨_, rfl, p, _, rfl, .inl (SqL.of ep), _, rfl, by rw [List.length_map]; omega, by rw [List.length_map]; omega, for_it walk_range (fun i σ H3 => ∃ y2 y3, σ = [some (.ref a), some (.ref p), y2, y3] ∧ H3 p = some (.lst (zs.map V.int))) ⟨none, none, rfl, ep⟩ (fun _ _ _ _ _ => trivial) (fun i x σ H3 H4 hi h hy => ?_) (fun σ H3 h => ?_)⟩
  · obtain ⟨y2, y3, rfl, ep3⟩ := h
    obtain ⟨rfl, rfl⟩ := hy
    have hi' : i < zs.length := by rw [List.length_map] at hi; omega
    refine ⟨_, rfl, _, rfl, p, zs, i, by show [V.ref p, V.int (0 + (i : Int))] = _; rw [Int.zero_add], SqL.of ep3, hi', fun b x y nb => ?_⟩
    have hpb : p ≠ b := ne_of_none ep3 nb
    refine at_g (σ' := [some (.ref a), some (.ref p), some (.int (0 + i)), some (.ref b)]) rfl ?_
    have bx : Bx (upd H4 b (.lst [.int x, .int y, .int 0])) b := ⟨x, y, 0, upd_same⟩
    have kp0 : (upd H4 b (.lst [.int x, .int y, .int 0])) p = some (.lst (zs.map V.int)) := by rw [upd_ne hpb]; exact ep3
    generalize upd H4 b (.lst [.int x, .int y, .int 0]) = B1 at bx kp0
    refine ⟨_, rfl, nil_go ⟨b, rfl, bx, fun H5 d5 => ⟨true, rfl, iteF ?_⟩⟩⟩
    refine ⟨_, rfl, nil_go ⟨b, rfl, d5.box, fun H6 d6 => ⟨true, rfl, iteF ?_⟩⟩⟩
    exact ⟨_, _, rfl, (d5.trans d6).same _ _ hpb kp0⟩
  · exact q H3
end
end XL
namespace XL
open PySem PySem.Spec PyProof.Rows L2

set_option maxHeartbeats 4000000 in
theorem all_mk {l : PySem.W.OpenLaw} {w : World} {K : PySem.W.Frag} {h : Heap} {mg : Str → Option Value} {fa f1 f2 f3 f4 f5 f6 f7 f8 f9 f10 f11 f12 f13 f14 f15 f16 f17 f18 f19 f20 f21 f22 f23 f24 f25 f26 f27 f28 f29 f30 f31 f32 f33 f34 f35 f36 f37 f38 f39 f40 f41 f42 f43 f44 f45 f46 f47 f48 : Addr} (X : K.In h) (G : h.Ns mainGlobals mg) (hfa : mg "law" = some (.ref fa))
    {od1 an1 : Option Addr} {sl1 : Array (Option Value)} {oc1 kV1 dc1 pm1 cd1 ct1 : Value}
    {od2 an2 : Option Addr} {sl2 : Array (Option Value)} {oc2 kV2 dc2 pm2 cd2 ct2 : Value}
    {od3 an3 : Option Addr} {sl3 : Array (Option Value)} {oc3 kV3 dc3 pm3 cd3 ct3 : Value}
    {od4 an4 : Option Addr} {sl4 : Array (Option Value)} {oc4 kV4 dc4 pm4 cd4 ct4 : Value}
    {od5 an5 : Option Addr} {sl5 : Array (Option Value)} {oc5 kV5 dc5 pm5 cd5 ct5 : Value}
    {od6 an6 : Option Addr} {sl6 : Array (Option Value)} {oc6 kV6 dc6 pm6 cd6 ct6 : Value}
    {od7 an7 : Option Addr} {sl7 : Array (Option Value)} {oc7 kV7 dc7 pm7 cd7 ct7 : Value}
    {od8 an8 : Option Addr} {sl8 : Array (Option Value)} {oc8 kV8 dc8 pm8 cd8 ct8 : Value}
    {od9 an9 : Option Addr} {sl9 : Array (Option Value)} {oc9 kV9 dc9 pm9 cd9 ct9 : Value}
    {od10 an10 : Option Addr} {sl10 : Array (Option Value)} {oc10 kV10 dc10 pm10 cd10 ct10 : Value}
    {od11 an11 : Option Addr} {sl11 : Array (Option Value)} {oc11 kV11 dc11 pm11 cd11 ct11 : Value}
    {od12 an12 : Option Addr} {sl12 : Array (Option Value)} {oc12 kV12 dc12 pm12 cd12 ct12 : Value}
    {od13 an13 : Option Addr} {sl13 : Array (Option Value)} {oc13 kV13 dc13 pm13 cd13 ct13 : Value}
    {od14 an14 : Option Addr} {sl14 : Array (Option Value)} {oc14 kV14 dc14 pm14 cd14 ct14 : Value}
    {od15 an15 : Option Addr} {sl15 : Array (Option Value)} {oc15 kV15 dc15 pm15 cd15 ct15 : Value}
    {od16 an16 : Option Addr} {sl16 : Array (Option Value)} {oc16 kV16 dc16 pm16 cd16 ct16 : Value}
    {od17 an17 : Option Addr} {sl17 : Array (Option Value)} {oc17 kV17 dc17 pm17 cd17 ct17 : Value}
    {od18 an18 : Option Addr} {sl18 : Array (Option Value)} {oc18 kV18 dc18 pm18 cd18 ct18 : Value}
    {od19 an19 : Option Addr} {sl19 : Array (Option Value)} {oc19 kV19 dc19 pm19 cd19 ct19 : Value}
    {od20 an20 : Option Addr} {sl20 : Array (Option Value)} {oc20 kV20 dc20 pm20 cd20 ct20 : Value}
    {od21 an21 : Option Addr} {sl21 : Array (Option Value)} {oc21 kV21 dc21 pm21 cd21 ct21 : Value}
    {od22 an22 : Option Addr} {sl22 : Array (Option Value)} {oc22 kV22 dc22 pm22 cd22 ct22 : Value}
    {od23 an23 : Option Addr} {sl23 : Array (Option Value)} {oc23 kV23 dc23 pm23 cd23 ct23 : Value}
    {od24 an24 : Option Addr} {sl24 : Array (Option Value)} {oc24 kV24 dc24 pm24 cd24 ct24 : Value}
    {od25 an25 : Option Addr} {sl25 : Array (Option Value)} {oc25 kV25 dc25 pm25 cd25 ct25 : Value}
    {od26 an26 : Option Addr} {sl26 : Array (Option Value)} {oc26 kV26 dc26 pm26 cd26 ct26 : Value}
    {od27 an27 : Option Addr} {sl27 : Array (Option Value)} {oc27 kV27 dc27 pm27 cd27 ct27 : Value}
    {od28 an28 : Option Addr} {sl28 : Array (Option Value)} {oc28 kV28 dc28 pm28 cd28 ct28 : Value}
    {od29 an29 : Option Addr} {sl29 : Array (Option Value)} {oc29 kV29 dc29 pm29 cd29 ct29 : Value}
    {od30 an30 : Option Addr} {sl30 : Array (Option Value)} {oc30 kV30 dc30 pm30 cd30 ct30 : Value}
    {od31 an31 : Option Addr} {sl31 : Array (Option Value)} {oc31 kV31 dc31 pm31 cd31 ct31 : Value}
    {od32 an32 : Option Addr} {sl32 : Array (Option Value)} {oc32 kV32 dc32 pm32 cd32 ct32 : Value}
    {od33 an33 : Option Addr} {sl33 : Array (Option Value)} {oc33 kV33 dc33 pm33 cd33 ct33 : Value}
    {od34 an34 : Option Addr} {sl34 : Array (Option Value)} {oc34 kV34 dc34 pm34 cd34 ct34 : Value}
    {od35 an35 : Option Addr} {sl35 : Array (Option Value)} {oc35 kV35 dc35 pm35 cd35 ct35 : Value}
    {od36 an36 : Option Addr} {sl36 : Array (Option Value)} {oc36 kV36 dc36 pm36 cd36 ct36 : Value}
    {od37 an37 : Option Addr} {sl37 : Array (Option Value)} {oc37 kV37 dc37 pm37 cd37 ct37 : Value}
    {od38 an38 : Option Addr} {sl38 : Array (Option Value)} {oc38 kV38 dc38 pm38 cd38 ct38 : Value}
    {od39 an39 : Option Addr} {sl39 : Array (Option Value)} {oc39 kV39 dc39 pm39 cd39 ct39 : Value}
    {od40 an40 : Option Addr} {sl40 : Array (Option Value)} {oc40 kV40 dc40 pm40 cd40 ct40 : Value}
    {od41 an41 : Option Addr} {sl41 : Array (Option Value)} {oc41 kV41 dc41 pm41 cd41 ct41 : Value}
    {od42 an42 : Option Addr} {sl42 : Array (Option Value)} {oc42 kV42 dc42 pm42 cd42 ct42 : Value}
    {od43 an43 : Option Addr} {sl43 : Array (Option Value)} {oc43 kV43 dc43 pm43 cd43 ct43 : Value}
    {od44 an44 : Option Addr} {sl44 : Array (Option Value)} {oc44 kV44 dc44 pm44 cd44 ct44 : Value}
    {od45 an45 : Option Addr} {sl45 : Array (Option Value)} {oc45 kV45 dc45 pm45 cd45 ct45 : Value}
    {od46 an46 : Option Addr} {sl46 : Array (Option Value)} {oc46 kV46 dc46 pm46 cd46 ct46 : Value}
    {od47 an47 : Option Addr} {sl47 : Array (Option Value)} {oc47 kV47 dc47 pm47 cd47 ct47 : Value}
    {od48 an48 : Option Addr} {sl48 : Array (Option Value)} {oc48 kV48 dc48 pm48 cd48 ct48 : Value}
    {t_RED : Tok}
    {cS iS cB iB cD iD cL iL cO iO : Addr}  {xodS xanS : Option Addr} {xslS : Array (Option Value)} {xocS xkVS xdcS xpmS xcdS xctS : Value} {nmS qS : Str} {NS : Addr} {bbS : List Value} {snS : List Str} {subS : List Value} {abS : Bool} {colS : Option Bool} {ddS : Option Addr} {maS mbS mcS mdS meS : Option Value} {xodB xanB : Option Addr} {xslB : Array (Option Value)} {xocB xkVB xdcB xpmB xcdB xctB : Value} {nmB qB : Str} {NB : Addr} {bbB : List Value} {snB : List Str} {subB : List Value} {abB : Bool} {colB : Option Bool} {ddB : Option Addr} {maB mbB mcB mdB meB : Option Value} {xodD xanD : Option Addr} {xslD : Array (Option Value)} {xocD xkVD xdcD xpmD xcdD xctD : Value} {nmD qD : Str} {ND : Addr} {bbD : List Value} {snD : List Str} {subD : List Value} {abD : Bool} {colD : Option Bool} {ddD : Option Addr} {maD mbD mcD mdD meD : Option Value} {xodL xanL : Option Addr} {xslL : Array (Option Value)} {xocL xkVL xdcL xpmL xcdL xctL : Value} {nmL qL : Str} {NL : Addr} {bbL : List Value} {snL : List Str} {subL : List Value} {abL : Bool} {colL : Option Bool} {ddL : Option Addr} {maL mbL mcL mdL meL : Option Value} {xodO xanO : Option Addr} {xslO : Array (Option Value)} {xocO xkVO xdcO xpmO xcdO xctO : Value} {nmO qO : Str} {NO : Addr} {bbO : List Value} {snO : List Str} {subO : List Value} {abO : Bool} {colO : Option Bool} {ddO : Option Addr} {maO mbO mcO mdO meO : Option Value} {cK : Addr} {q_init : Addr} {mod_init man_init : Option Addr} {msl_init : Array (Option Value)} {moc_init mkV_init mdc_init mpm_init mcd_init mct_init : Value} {q_go : Addr} {mod_go man_go : Option Addr} {msl_go : Array (Option Value)} {moc_go mkV_go mdc_go mpm_go mcd_go mct_go : Value} {q_row : Addr} {mod_row man_row : Option Addr} {msl_row : Array (Option Value)} {moc_row mkV_row mdc_row mpm_row mcd_row mct_row : Value} {q_fill : Addr} {mod_fill man_fill : Option Addr} {msl_fill : Array (Option Value)} {moc_fill mkV_fill mdc_fill mpm_fill mcd_fill mct_fill : Value} {q_drain : Addr} {mod_drain man_drain : Option Addr} {msl_drain : Array (Option Value)} {moc_drain mkV_drain mdc_drain mpm_drain mcd_drain mct_drain : Value} {q_turn : Addr} {mod_turn man_turn : Option Addr} {msl_turn : Array (Option Value)} {moc_turn mkV_turn mdc_turn mpm_turn mcd_turn mct_turn : Value} {q_dig : Addr} {mod_dig man_dig : Option Addr} {msl_dig : Array (Option Value)} {moc_dig mkV_dig mdc_dig mpm_dig mcd_dig mct_dig : Value} {q_undo : Addr} {mod_undo man_undo : Option Addr} {msl_undo : Array (Option Value)} {moc_undo mkV_undo mdc_undo mpm_undo mcd_undo mct_undo : Value} {q_canal : Addr} {mod_canal man_canal : Option Addr} {msl_canal : Array (Option Value)} {moc_canal mkV_canal mdc_canal mpm_canal mcd_canal mct_canal : Value} {q_standing : Addr} {mod_standing man_standing : Option Addr} {msl_standing : Array (Option Value)} {moc_standing mkV_standing mdc_standing mpm_standing mcd_standing mct_standing : Value} {q_deeds : Addr} {mod_deeds man_deeds : Option Addr} {msl_deeds : Array (Option Value)} {moc_deeds mkV_deeds mdc_deeds mpm_deeds mcd_deeds mct_deeds : Value} {q_hands : Addr} {mod_hands man_hands : Option Addr} {msl_hands : Array (Option Value)} {moc_hands mkV_hands mdc_hands mpm_hands mcd_hands mct_hands : Value} {q_went : Addr} {mod_went man_went : Option Addr} {msl_went : Array (Option Value)} {moc_went mkV_went mdc_went mpm_went mcd_went mct_went : Value} {q_log : Addr} {mod_log man_log : Option Addr} {msl_log : Array (Option Value)} {moc_log mkV_log mdc_log mpm_log mcd_log mct_log : Value} {q_eq : Addr} {mod_eq man_eq : Option Addr} {msl_eq : Array (Option Value)} {moc_eq mkV_eq mdc_eq mpm_eq mcd_eq mct_eq : Value} {q_len : Addr} {mod_len man_len : Option Addr} {msl_len : Array (Option Value)} {moc_len mkV_len mdc_len mpm_len mcd_len mct_len : Value} {q_repr : Addr} {mod_repr man_repr : Option Addr} {msl_repr : Array (Option Value)} {moc_repr mkV_repr mdc_repr mpm_repr mcd_repr mct_repr : Value}
    (a1 : PySem.W.nsIn K mainGlobals "is_number" = some (some (.ref f1)))
    (l1 : K.lookup f1 = some ⟨oc1, od1, .func (PySem.W.fnOf "is_number" "is_number" (defArgs sNum) (defBody sNum) (defScope sNum) .none kV1 dc1 pm1 an1 cd1 ct1), sl1⟩)
    (d1 : PySem.W.codeIn K cd1 "is_number" = true)
    (k1 : PySem.W.keepIn K (.ref f1) = true)
    (a2 : PySem.W.nsIn K mainGlobals "is_place" = some (some (.ref f2)))
    (l2 : K.lookup f2 = some ⟨oc2, od2, .func (PySem.W.fnOf "is_place" "is_place" (defArgs sPl) (defBody sPl) (defScope sPl) .none kV2 dc2 pm2 an2 cd2 ct2), sl2⟩)
    (d2 : PySem.W.codeIn K cd2 "is_place" = true)
    (k2 : PySem.W.keepIn K (.ref f2) = true)
    (a3 : PySem.W.nsIn K mainGlobals "tupled" = some (some (.ref f3)))
    (l3 : K.lookup f3 = some ⟨oc3, od3, .func (PySem.W.fnOf "tupled" "tupled" (defArgs sTupled) (defBody sTupled) (defScope sTupled) .none kV3 dc3 pm3 an3 cd3 ct3), sl3⟩)
    (d3 : PySem.W.codeIn K cd3 "tupled" = true)
    (k3 : PySem.W.keepIn K (.ref f3) = true)
    (a4 : PySem.W.nsIn K mainGlobals "basins_of" = some (some (.ref f4)))
    (l4 : K.lookup f4 = some ⟨oc4, od4, .func (PySem.W.fnOf "basins_of" "basins_of" (defArgs sBas) (defBody sBas) (defScope sBas) .none kV4 dc4 pm4 an4 cd4 ct4), sl4⟩)
    (d4 : PySem.W.codeIn K cd4 "basins_of" = true)
    (k4 : PySem.W.keepIn K (.ref f4) = true)
    (a5 : PySem.W.nsIn K mainGlobals "ends_of" = some (some (.ref f5)))
    (l5 : K.lookup f5 = some ⟨oc5, od5, .func (PySem.W.fnOf "ends_of" "ends_of" (defArgs sEnds) (defBody sEnds) (defScope sEnds) .none kV5 dc5 pm5 an5 cd5 ct5), sl5⟩)
    (d5 : PySem.W.codeIn K cd5 "ends_of" = true)
    (k5 : PySem.W.keepIn K (.ref f5) = true)
    (a6 : PySem.W.nsIn K mainGlobals "from_and_to" = some (some (.ref f6)))
    (l6 : K.lookup f6 = some ⟨oc6, od6, .func (PySem.W.fnOf "from_and_to" "from_and_to" (defArgs sFT) (defBody sFT) (defScope sFT) .none kV6 dc6 pm6 an6 cd6 ct6), sl6⟩)
    (d6 : PySem.W.codeIn K cd6 "from_and_to" = true)
    (k6 : PySem.W.keepIn K (.ref f6) = true)
    (a7 : PySem.W.nsIn K mainGlobals "has_boat" = some (some (.ref f7)))
    (l7 : K.lookup f7 = some ⟨oc7, od7, .func (PySem.W.fnOf "has_boat" "has_boat" (defArgs sHas) (defBody sHas) (defScope sHas) .none kV7 dc7 pm7 an7 cd7 ct7), sl7⟩)
    (d7 : PySem.W.codeIn K cd7 "has_boat" = true)
    (k7 : PySem.W.keepIn K (.ref f7) = true)
    (a8 : PySem.W.nsIn K mainGlobals "gone" = some (some (.ref f8)))
    (l8 : K.lookup f8 = some ⟨oc8, od8, .func (PySem.W.fnOf "gone" "gone" (defArgs sGone) (defBody sGone) (defScope sGone) .none kV8 dc8 pm8 an8 cd8 ct8), sl8⟩)
    (d8 : PySem.W.codeIn K cd8 "gone" = true)
    (k8 : PySem.W.keepIn K (.ref f8) = true)
    (a9 : PySem.W.nsIn K mainGlobals "noughts" = some (some (.ref f9)))
    (l9 : K.lookup f9 = some ⟨oc9, od9, .func (PySem.W.fnOf "noughts" "noughts" (defArgs sNou) (defBody sNou) (defScope sNou) .none kV9 dc9 pm9 an9 cd9 ct9), sl9⟩)
    (d9 : PySem.W.codeIn K cd9 "noughts" = true)
    (k9 : PySem.W.keepIn K (.ref f9) = true)
    (a10 : PySem.W.nsIn K mainGlobals "begun" = some (some (.ref f10)))
    (l10 : K.lookup f10 = some ⟨oc10, od10, .func (PySem.W.fnOf "begun" "begun" (defArgs sBeg) (defBody sBeg) (defScope sBeg) .none kV10 dc10 pm10 an10 cd10 ct10), sl10⟩)
    (d10 : PySem.W.codeIn K cd10 "begun" = true)
    (k10 : PySem.W.keepIn K (.ref f10) = true)
    (a11 : PySem.W.nsIn K mainGlobals "place_of" = some (some (.ref f11)))
    (l11 : K.lookup f11 = some ⟨oc11, od11, .func (PySem.W.fnOf "place_of" "place_of" (defArgs sPlo) (defBody sPlo) (defScope sPlo) .none kV11 dc11 pm11 an11 cd11 ct11), sl11⟩)
    (d11 : PySem.W.codeIn K cd11 "place_of" = true)
    (k11 : PySem.W.keepIn K (.ref f11) = true)
    (a12 : PySem.W.nsIn K mainGlobals "more_at" = some (some (.ref f12)))
    (l12 : K.lookup f12 = some ⟨oc12, od12, .func (PySem.W.fnOf "more_at" "more_at" (defArgs sMat) (defBody sMat) (defScope sMat) .none kV12 dc12 pm12 an12 cd12 ct12), sl12⟩)
    (d12 : PySem.W.codeIn K cd12 "more_at" = true)
    (k12 : PySem.W.keepIn K (.ref f12) = true)
    (a13 : PySem.W.nsIn K mainGlobals "seek_lock" = some (some (.ref f13)))
    (l13 : K.lookup f13 = some ⟨oc13, od13, .func (PySem.W.fnOf "seek_lock" "seek_lock" (defArgs sSel) (defBody sSel) (defScope sSel) .none kV13 dc13 pm13 an13 cd13 ct13), sl13⟩)
    (d13 : PySem.W.codeIn K cd13 "seek_lock" = true)
    (k13 : PySem.W.keepIn K (.ref f13) = true)
    (a14 : PySem.W.nsIn K mainGlobals "seek_basin" = some (some (.ref f14)))
    (l14 : K.lookup f14 = some ⟨oc14, od14, .func (PySem.W.fnOf "seek_basin" "seek_basin" (defArgs sSeb) (defBody sSeb) (defScope sSeb) .none kV14 dc14 pm14 an14 cd14 ct14), sl14⟩)
    (d14 : PySem.W.codeIn K cd14 "seek_basin" = true)
    (k14 : PySem.W.keepIn K (.ref f14) = true)
    (a15 : PySem.W.nsIn K mainGlobals "gone_by" = some (some (.ref f15)))
    (l15 : K.lookup f15 = some ⟨oc15, od15, .func (PySem.W.fnOf "gone_by" "gone_by" (defArgs sGb) (defBody sGb) (defScope sGb) .none kV15 dc15 pm15 an15 cd15 ct15), sl15⟩)
    (d15 : PySem.W.codeIn K cd15 "gone_by" = true)
    (k15 : PySem.W.keepIn K (.ref f15) = true)
    (a16 : PySem.W.nsIn K mainGlobals "gone_by_all" = some (some (.ref f16)))
    (l16 : K.lookup f16 = some ⟨oc16, od16, .func (PySem.W.fnOf "gone_by_all" "gone_by_all" (defArgs sGa) (defBody sGa) (defScope sGa) .none kV16 dc16 pm16 an16 cd16 ct16), sl16⟩)
    (d16 : PySem.W.codeIn K cd16 "gone_by_all" = true)
    (k16 : PySem.W.keepIn K (.ref f16) = true)
    (a17 : PySem.W.nsIn K mainGlobals "by_hand" = some (some (.ref f17)))
    (l17 : K.lookup f17 = some ⟨oc17, od17, .func (PySem.W.fnOf "by_hand" "by_hand" (defArgs sBh) (defBody sBh) (defScope sBh) .none kV17 dc17 pm17 an17 cd17 ct17), sl17⟩)
    (d17 : PySem.W.codeIn K cd17 "by_hand" = true)
    (k17 : PySem.W.keepIn K (.ref f17) = true)
    (a18 : PySem.W.nsIn K mainGlobals "filled" = some (some (.ref f18)))
    (l18 : K.lookup f18 = some ⟨oc18, od18, .func (PySem.W.fnOf "filled" "filled" (defArgs sFi) (defBody sFi) (defScope sFi) .none kV18 dc18 pm18 an18 cd18 ct18), sl18⟩)
    (d18 : PySem.W.codeIn K cd18 "filled" = true)
    (k18 : PySem.W.keepIn K (.ref f18) = true)
    (a19 : PySem.W.nsIn K mainGlobals "drained" = some (some (.ref f19)))
    (l19 : K.lookup f19 = some ⟨oc19, od19, .func (PySem.W.fnOf "drained" "drained" (defArgs sDra) (defBody sDra) (defScope sDra) .none kV19 dc19 pm19 an19 cd19 ct19), sl19⟩)
    (d19 : PySem.W.codeIn K cd19 "drained" = true)
    (k19 : PySem.W.keepIn K (.ref f19) = true)
    (a20 : PySem.W.nsIn K mainGlobals "turned" = some (some (.ref f20)))
    (l20 : K.lookup f20 = some ⟨oc20, od20, .func (PySem.W.fnOf "turned" "turned" (defArgs sTur) (defBody sTur) (defScope sTur) .none kV20 dc20 pm20 an20 cd20 ct20), sl20⟩)
    (d20 : PySem.W.codeIn K cd20 "turned" = true)
    (k20 : PySem.W.keepIn K (.ref f20) = true)
    (a21 : PySem.W.nsIn K mainGlobals "dug" = some (some (.ref f21)))
    (l21 : K.lookup f21 = some ⟨oc21, od21, .func (PySem.W.fnOf "dug" "dug" (defArgs sDug) (defBody sDug) (defScope sDug) .none kV21 dc21 pm21 an21 cd21 ct21), sl21⟩)
    (d21 : PySem.W.codeIn K cd21 "dug" = true)
    (k21 : PySem.W.keepIn K (.ref f21) = true)
    (a22 : PySem.W.nsIn K mainGlobals "with_low" = some (some (.ref f22)))
    (l22 : K.lookup f22 = some ⟨oc22, od22, .func (PySem.W.fnOf "with_low" "with_low" (defArgs sWl) (defBody sWl) (defScope sWl) .none kV22 dc22 pm22 an22 cd22 ct22), sl22⟩)
    (d22 : PySem.W.codeIn K cd22 "with_low" = true)
    (k22 : PySem.W.keepIn K (.ref f22) = true)
    (a23 : PySem.W.nsIn K mainGlobals "_law_box" = some (some (.ref f23)))
    (l23 : K.lookup f23 = some ⟨oc23, od23, .func (PySem.W.fnOf "_law_box" "_law_box" (defArgs sBox) (defBody sBox) (defScope sBox) .none kV23 dc23 pm23 an23 cd23 ct23), sl23⟩)
    (d23 : PySem.W.codeIn K cd23 "_law_box" = true)
    (k23 : PySem.W.keepIn K (.ref f23) = true)
    (a24 : PySem.W.nsIn K mainGlobals "_law_take" = some (some (.ref f24)))
    (l24 : K.lookup f24 = some ⟨oc24, od24, .func (PySem.W.fnOf "_law_take" "_law_take" (defArgs sTake) (defBody sTake) (defScope sTake) .none kV24 dc24 pm24 an24 cd24 ct24), sl24⟩)
    (d24 : PySem.W.codeIn K cd24 "_law_take" = true)
    (k24 : PySem.W.keepIn K (.ref f24) = true)
    (a25 : PySem.W.nsIn K mainGlobals "_law_cells" = some (some (.ref f25)))
    (l25 : K.lookup f25 = some ⟨oc25, od25, .func (PySem.W.fnOf "_law_cells" "_law_cells" (defArgs sCells) (defBody sCells) (defScope sCells) .none kV25 dc25 pm25 an25 cd25 ct25), sl25⟩)
    (d25 : PySem.W.codeIn K cd25 "_law_cells" = true)
    (k25 : PySem.W.keepIn K (.ref f25) = true)
    (a26 : PySem.W.nsIn K mainGlobals "_law_of" = some (some (.ref f26)))
    (l26 : K.lookup f26 = some ⟨oc26, od26, .func (PySem.W.fnOf "_law_of" "_law_of" (defArgs sOf) (defBody sOf) (defScope sOf) .none kV26 dc26 pm26 an26 cd26 ct26), sl26⟩)
    (d26 : PySem.W.codeIn K cd26 "_law_of" = true)
    (k26 : PySem.W.keepIn K (.ref f26) = true)
    (a27 : PySem.W.nsIn K mainGlobals "_law_same" = some (some (.ref f27)))
    (l27 : K.lookup f27 = some ⟨oc27, od27, .func (PySem.W.fnOf "_law_same" "_law_same" (defArgs sSame) (defBody sSame) (defScope sSame) .none kV27 dc27 pm27 an27 cd27 ct27), sl27⟩)
    (d27 : PySem.W.codeIn K cd27 "_law_same" = true)
    (k27 : PySem.W.keepIn K (.ref f27) = true)
    (a28 : PySem.W.nsIn K mainGlobals "_law_lists" = some (some (.ref f28)))
    (l28 : K.lookup f28 = some ⟨oc28, od28, .func (PySem.W.fnOf "_law_lists" "_law_lists" (defArgs sLists) (defBody sLists) (defScope sLists) .none kV28 dc28 pm28 an28 cd28 ct28), sl28⟩)
    (d28 : PySem.W.codeIn K cd28 "_law_lists" = true)
    (k28 : PySem.W.keepIn K (.ref f28) = true)
    (a29 : PySem.W.nsIn K mainGlobals "_law_canal" = some (some (.ref f29)))
    (l29 : K.lookup f29 = some ⟨oc29, od29, .func (PySem.W.fnOf "_law_canal" "_law_canal" (defArgs sCanal) (defBody sCanal) (defScope sCanal) .none kV29 dc29 pm29 an29 cd29 ct29), sl29⟩)
    (d29 : PySem.W.codeIn K cd29 "_law_canal" = true)
    (k29 : PySem.W.keepIn K (.ref f29) = true)
    (a30 : PySem.W.nsIn K mainGlobals "_law_lying" = some (some (.ref f30)))
    (l30 : K.lookup f30 = some ⟨oc30, od30, .func (PySem.W.fnOf "_law_lying" "_law_lying" (defArgs sLying) (defBody sLying) (defScope sLying) .none kV30 dc30 pm30 an30 cd30 ct30), sl30⟩)
    (d30 : PySem.W.codeIn K cd30 "_law_lying" = true)
    (k30 : PySem.W.keepIn K (.ref f30) = true)
    (a31 : PySem.W.nsIn K mainGlobals "_law_from_to" = some (some (.ref f31)))
    (l31 : K.lookup f31 = some ⟨oc31, od31, .func (PySem.W.fnOf "_law_from_to" "_law_from_to" (defArgs sLF) (defBody sLF) (defScope sLF) .none kV31 dc31 pm31 an31 cd31 ct31), sl31⟩)
    (d31 : PySem.W.codeIn K cd31 "_law_from_to" = true)
    (k31 : PySem.W.keepIn K (.ref f31) = true)
    (a32 : PySem.W.nsIn K mainGlobals "_law_steps" = some (some (.ref f32)))
    (l32 : K.lookup f32 = some ⟨oc32, od32, .func (PySem.W.fnOf "_law_steps" "_law_steps" (defArgs sSt) (defBody sSt) (defScope sSt) .none kV32 dc32 pm32 an32 cd32 ct32), sl32⟩)
    (d32 : PySem.W.codeIn K cd32 "_law_steps" = true)
    (k32 : PySem.W.keepIn K (.ref f32) = true)
    (a33 : PySem.W.nsIn K mainGlobals "_law_behind" = some (some (.ref f33)))
    (l33 : K.lookup f33 = some ⟨oc33, od33, .func (PySem.W.fnOf "_law_behind" "_law_behind" (defArgs sBe) (defBody sBe) (defScope sBe) .none kV33 dc33 pm33 an33 cd33 ct33), sl33⟩)
    (d33 : PySem.W.codeIn K cd33 "_law_behind" = true)
    (k33 : PySem.W.keepIn K (.ref f33) = true)
    (a34 : PySem.W.nsIn K mainGlobals "_law_walk" = some (some (.ref f34)))
    (l34 : K.lookup f34 = some ⟨oc34, od34, .func (PySem.W.fnOf "_law_walk" "_law_walk" (defArgs sWk) (defBody sWk) (defScope sWk) .none kV34 dc34 pm34 an34 cd34 ct34), sl34⟩)
    (d34 : PySem.W.codeIn K cd34 "_law_walk" = true)
    (k34 : PySem.W.keepIn K (.ref f34) = true)
    (a35 : PySem.W.nsIn K mainGlobals "_law_with" = some (some (.ref f35)))
    (l35 : K.lookup f35 = some ⟨oc35, od35, .func (PySem.W.fnOf "_law_with" "_law_with" (defArgs sWi) (defBody sWi) (defScope sWi) .none kV35 dc35 pm35 an35 cd35 ct35), sl35⟩)
    (d35 : PySem.W.codeIn K cd35 "_law_with" = true)
    (k35 : PySem.W.keepIn K (.ref f35) = true)
    (a36 : PySem.W.nsIn K mainGlobals "_law_begun" = some (some (.ref f36)))
    (l36 : K.lookup f36 = some ⟨oc36, od36, .func (PySem.W.fnOf "_law_begun" "_law_begun" (defArgs sBg) (defBody sBg) (defScope sBg) .none kV36 dc36 pm36 an36 cd36 ct36), sl36⟩)
    (d36 : PySem.W.codeIn K cd36 "_law_begun" = true)
    (k36 : PySem.W.keepIn K (.ref f36) = true)
    (a37 : PySem.W.nsIn K mainGlobals "_law_went_by" = some (some (.ref f37)))
    (l37 : K.lookup f37 = some ⟨oc37, od37, .func (PySem.W.fnOf "_law_went_by" "_law_went_by" (defArgs sWb) (defBody sWb) (defScope sWb) .none kV37 dc37 pm37 an37 cd37 ct37), sl37⟩)
    (d37 : PySem.W.codeIn K cd37 "_law_went_by" = true)
    (k37 : PySem.W.keepIn K (.ref f37) = true)
    (a38 : PySem.W.nsIn K mainGlobals "_law_put_by_hand" = some (some (.ref f38)))
    (l38 : K.lookup f38 = some ⟨oc38, od38, .func (PySem.W.fnOf "_law_put_by_hand" "_law_put_by_hand" (defArgs sPb) (defBody sPb) (defScope sPb) .none kV38 dc38 pm38 an38 cd38 ct38), sl38⟩)
    (d38 : PySem.W.codeIn K cd38 "_law_put_by_hand" = true)
    (k38 : PySem.W.keepIn K (.ref f38) = true)
    (a39 : PySem.W.nsIn K mainGlobals "_law_by_hand" = some (some (.ref f39)))
    (l39 : K.lookup f39 = some ⟨oc39, od39, .func (PySem.W.fnOf "_law_by_hand" "_law_by_hand" (defArgs sLb) (defBody sLb) (defScope sLb) .none kV39 dc39 pm39 an39 cd39 ct39), sl39⟩)
    (d39 : PySem.W.codeIn K cd39 "_law_by_hand" = true)
    (k39 : PySem.W.keepIn K (.ref f39) = true)
    (a40 : PySem.W.nsIn K mainGlobals "_law_due" = some (some (.ref f40)))
    (l40 : K.lookup f40 = some ⟨oc40, od40, .func (PySem.W.fnOf "_law_due" "_law_due" (defArgs sDu) (defBody sDu) (defScope sDu) .none kV40 dc40 pm40 an40 cd40 ct40), sl40⟩)
    (d40 : PySem.W.codeIn K cd40 "_law_due" = true)
    (k40 : PySem.W.keepIn K (.ref f40) = true)
    (a41 : PySem.W.nsIn K mainGlobals "_law_any_gate" = some (some (.ref f41)))
    (l41 : K.lookup f41 = some ⟨oc41, od41, .func (PySem.W.fnOf "_law_any_gate" "_law_any_gate" (defArgs sAg) (defBody sAg) (defScope sAg) .none kV41 dc41 pm41 an41 cd41 ct41), sl41⟩)
    (d41 : PySem.W.codeIn K cd41 "_law_any_gate" = true)
    (k41 : PySem.W.keepIn K (.ref f41) = true)
    (a42 : PySem.W.nsIn K mainGlobals "_law_deed" = some (some (.ref f42)))
    (l42 : K.lookup f42 = some ⟨oc42, od42, .func (PySem.W.fnOf "_law_deed" "_law_deed" (defArgs sDe) (defBody sDe) (defScope sDe) .none kV42 dc42 pm42 an42 cd42 ct42), sl42⟩)
    (d42 : PySem.W.codeIn K cd42 "_law_deed" = true)
    (k42 : PySem.W.keepIn K (.ref f42) = true)
    (a43 : PySem.W.nsIn K mainGlobals "_law_done" = some (some (.ref f43)))
    (l43 : K.lookup f43 = some ⟨oc43, od43, .func (PySem.W.fnOf "_law_done" "_law_done" (defArgs sDo) (defBody sDo) (defScope sDo) .none kV43 dc43 pm43 an43 cd43 ct43), sl43⟩)
    (d43 : PySem.W.codeIn K cd43 "_law_done" = true)
    (k43 : PySem.W.keepIn K (.ref f43) = true)
    (a44 : PySem.W.nsIn K mainGlobals "_law_word" = some (some (.ref f44)))
    (l44 : K.lookup f44 = some ⟨oc44, od44, .func (PySem.W.fnOf "_law_word" "_law_word" (defArgs sWo) (defBody sWo) (defScope sWo) .none kV44 dc44 pm44 an44 cd44 ct44), sl44⟩)
    (d44 : PySem.W.codeIn K cd44 "_law_word" = true)
    (k44 : PySem.W.keepIn K (.ref f44) = true)
    (a45 : PySem.W.nsIn K mainGlobals "_law_told_of" = some (some (.ref f45)))
    (l45 : K.lookup f45 = some ⟨oc45, od45, .func (PySem.W.fnOf "_law_told_of" "_law_told_of" (defArgs sTo) (defBody sTo) (defScope sTo) .none kV45 dc45 pm45 an45 cd45 ct45), sl45⟩)
    (d45 : PySem.W.codeIn K cd45 "_law_told_of" = true)
    (k45 : PySem.W.keepIn K (.ref f45) = true)
    (a46 : PySem.W.nsIn K mainGlobals "_law_told_due" = some (some (.ref f46)))
    (l46 : K.lookup f46 = some ⟨oc46, od46, .func (PySem.W.fnOf "_law_told_due" "_law_told_due" (defArgs sTd) (defBody sTd) (defScope sTd) .none kV46 dc46 pm46 an46 cd46 ct46), sl46⟩)
    (d46 : PySem.W.codeIn K cd46 "_law_told_due" = true)
    (k46 : PySem.W.keepIn K (.ref f46) = true)
    (a47 : PySem.W.nsIn K mainGlobals "_law_right" = some (some (.ref f47)))
    (l47 : K.lookup f47 = some ⟨oc47, od47, .func (PySem.W.fnOf "_law_right" "_law_right" (defArgs sRig) (defBody sRig) (defScope sRig) .none kV47 dc47 pm47 an47 cd47 ct47), sl47⟩)
    (d47 : PySem.W.codeIn K cd47 "_law_right" = true)
    (k47 : PySem.W.keepIn K (.ref f47) = true)
    (a48 : PySem.W.nsIn K mainGlobals "law" = some (some (.ref f48)))
    (l48 : K.lookup f48 = some ⟨oc48, od48, .func (PySem.W.fnOf "law" "law" (defArgs sLaw) (defBody sLaw) (defScope sLaw) .none kV48 dc48 pm48 an48 cd48 ct48), sl48⟩)
    (d48 : PySem.W.codeIn K cd48 "law" = true)
    (k48 : PySem.W.keepIn K (.ref f48) = true)
    (z_isinstance : PySem.W.nsIn K mainGlobals "isinstance" = some none)
    (z_int : PySem.W.nsIn K mainGlobals "int" = some none)
    (z_bool : PySem.W.nsIn K mainGlobals "bool" = some none)
    (z_len : PySem.W.nsIn K mainGlobals "len" = some none)
    (z_all : PySem.W.nsIn K mainGlobals "all" = some none)
    (z_range : PySem.W.nsIn K mainGlobals "range" = some none)
    (z_zip : PySem.W.nsIn K mainGlobals "zip" = some none)
    (z_list : PySem.W.nsIn K mainGlobals "list" = some none)
    (z_tuple : PySem.W.nsIn K mainGlobals "tuple" = some none)
    (z_str : PySem.W.nsIn K mainGlobals "str" = some none)
    (z_enumerate : PySem.W.nsIn K mainGlobals "enumerate" = some none)
    (z_abs : PySem.W.nsIn K mainGlobals "abs" = some none)
    (z_repr : PySem.W.nsIn K mainGlobals "repr" = some none)
    (z_max : PySem.W.nsIn K mainGlobals "max" = some none)
    (z_LookupError : PySem.W.nsIn K mainGlobals "LookupError" = some none)
    (z_RuntimeError : PySem.W.nsIn K mainGlobals "RuntimeError" = some none)
    (v_RED : PySem.W.nsIn K mainGlobals "RED" = some (some (.str "red" t_RED)))
    (caS : PySem.W.nsIn K mainGlobals "NoBasin" = some (some (.ref cS)))
    (clS : K.lookup cS = some (excClassObj nmS qS cS NS bbS [.type "LookupError", .type "Exception", .type "BaseException", .type "object"] true snS subS abS colS ddS maS mbS mcS mdS meS "LookupError.__new__"))
    (csS : PySem.W.findIn K (.ref cS) "__setattr__" = some (some (.builtin "object.__setattr__")))
    (cgS : PySem.W.findIn K (.ref cS) "__getattribute__" = some (some (.builtin "BaseException.__getattribute__")))
    (ctS_ : PySem.W.findIn K (.ref cS) "__getattr__" = some none)
    (ckS : PySem.W.keepIn K (.ref cS) = true)
    (ccS : PySem.W.findIn K (.ref cS) "__class__" = some (some (.builtin "object.__class__")))
    (ciS : PySem.W.findIn K (.ref cS) "__init__" = some (some (.ref iS)))
    (cfS : PySem.W.typeIn K (.ref iS) = some (.type "function"))
    (cyS : PySem.W.typeIn K (.ref cS) = some (.type "type"))
    (chS : PySem.W.hasDictIn K cS = true)
    (cnS : PySem.W.findIn K (.ref cS) "basin" = some none)
    (elS : K.lookup iS = some ⟨xocS, xodS, .func (PySem.W.fnOf "__init__" "NoBasin.__init__" (defArgs sIS) (defBody sIS) (defScope sIS) .none xkVS xdcS xpmS xanS xcdS xctS), xslS⟩)
    (edS : PySem.W.codeIn K xcdS "NoBasin.__init__" = true)
    (ekS : PySem.W.keepIn K (.ref iS) = true)
    (caB : PySem.W.nsIn K mainGlobals "NoBoat" = some (some (.ref cB)))
    (clB : K.lookup cB = some (excClassObj nmB qB cB NB bbB [.type "RuntimeError", .type "Exception", .type "BaseException", .type "object"] true snB subB abB colB ddB maB mbB mcB mdB meB "RuntimeError.__new__"))
    (csB : PySem.W.findIn K (.ref cB) "__setattr__" = some (some (.builtin "object.__setattr__")))
    (cgB : PySem.W.findIn K (.ref cB) "__getattribute__" = some (some (.builtin "BaseException.__getattribute__")))
    (ctB_ : PySem.W.findIn K (.ref cB) "__getattr__" = some none)
    (ckB : PySem.W.keepIn K (.ref cB) = true)
    (ccB : PySem.W.findIn K (.ref cB) "__class__" = some (some (.builtin "object.__class__")))
    (ciB : PySem.W.findIn K (.ref cB) "__init__" = some (some (.ref iB)))
    (cfB : PySem.W.typeIn K (.ref iB) = some (.type "function"))
    (cyB : PySem.W.typeIn K (.ref cB) = some (.type "type"))
    (chB : PySem.W.hasDictIn K cB = true)
    (cnB : PySem.W.findIn K (.ref cB) "going" = some none)
    (elB : K.lookup iB = some ⟨xocB, xodB, .func (PySem.W.fnOf "__init__" "NoBoat.__init__" (defArgs sIB) (defBody sIB) (defScope sIB) .none xkVB xdcB xpmB xanB xcdB xctB), xslB⟩)
    (edB : PySem.W.codeIn K xcdB "NoBoat.__init__" = true)
    (ekB : PySem.W.keepIn K (.ref iB) = true)
    (caD : PySem.W.nsIn K mainGlobals "NoDeed" = some (some (.ref cD)))
    (clD : K.lookup cD = some (excClassObj nmD qD cD ND bbD [.type "LookupError", .type "Exception", .type "BaseException", .type "object"] true snD subD abD colD ddD maD mbD mcD mdD meD "LookupError.__new__"))
    (csD : PySem.W.findIn K (.ref cD) "__setattr__" = some (some (.builtin "object.__setattr__")))
    (cgD : PySem.W.findIn K (.ref cD) "__getattribute__" = some (some (.builtin "BaseException.__getattribute__")))
    (ctD_ : PySem.W.findIn K (.ref cD) "__getattr__" = some none)
    (ckD : PySem.W.keepIn K (.ref cD) = true)
    (ccD : PySem.W.findIn K (.ref cD) "__class__" = some (some (.builtin "object.__class__")))
    (ciD : PySem.W.findIn K (.ref cD) "__init__" = some (some (.ref iD)))
    (cfD : PySem.W.typeIn K (.ref iD) = some (.type "function"))
    (cyD : PySem.W.typeIn K (.ref cD) = some (.type "type"))
    (chD : PySem.W.hasDictIn K cD = true)
    (cnD : PySem.W.findIn K (.ref cD) "many" = some none)
    (elD : K.lookup iD = some ⟨xocD, xodD, .func (PySem.W.fnOf "__init__" "NoDeed.__init__" (defArgs sID) (defBody sID) (defScope sID) .none xkVD xdcD xpmD xanD xcdD xctD), xslD⟩)
    (edD : PySem.W.codeIn K xcdD "NoDeed.__init__" = true)
    (ekD : PySem.W.keepIn K (.ref iD) = true)
    (caL : PySem.W.nsIn K mainGlobals "NoLock" = some (some (.ref cL)))
    (clL : K.lookup cL = some (excClassObj nmL qL cL NL bbL [.type "LookupError", .type "Exception", .type "BaseException", .type "object"] true snL subL abL colL ddL maL mbL mcL mdL meL "LookupError.__new__"))
    (csL : PySem.W.findIn K (.ref cL) "__setattr__" = some (some (.builtin "object.__setattr__")))
    (cgL : PySem.W.findIn K (.ref cL) "__getattribute__" = some (some (.builtin "BaseException.__getattribute__")))
    (ctL_ : PySem.W.findIn K (.ref cL) "__getattr__" = some none)
    (ckL : PySem.W.keepIn K (.ref cL) = true)
    (ccL : PySem.W.findIn K (.ref cL) "__class__" = some (some (.builtin "object.__class__")))
    (ciL : PySem.W.findIn K (.ref cL) "__init__" = some (some (.ref iL)))
    (cfL : PySem.W.typeIn K (.ref iL) = some (.type "function"))
    (cyL : PySem.W.typeIn K (.ref cL) = some (.type "type"))
    (chL : PySem.W.hasDictIn K cL = true)
    (cnL : PySem.W.findIn K (.ref cL) "lock" = some none)
    (elL : K.lookup iL = some ⟨xocL, xodL, .func (PySem.W.fnOf "__init__" "NoLock.__init__" (defArgs sIL) (defBody sIL) (defScope sIL) .none xkVL xdcL xpmL xanL xcdL xctL), xslL⟩)
    (edL : PySem.W.codeIn K xcdL "NoLock.__init__" = true)
    (ekL : PySem.W.keepIn K (.ref iL) = true)
    (caO : PySem.W.nsIn K mainGlobals "Short" = some (some (.ref cO)))
    (clO : K.lookup cO = some (excClassObj nmO qO cO NO bbO [.type "RuntimeError", .type "Exception", .type "BaseException", .type "object"] true snO subO abO colO ddO maO mbO mcO mdO meO "RuntimeError.__new__"))
    (csO : PySem.W.findIn K (.ref cO) "__setattr__" = some (some (.builtin "object.__setattr__")))
    (cgO : PySem.W.findIn K (.ref cO) "__getattribute__" = some (some (.builtin "BaseException.__getattribute__")))
    (ctO_ : PySem.W.findIn K (.ref cO) "__getattr__" = some none)
    (ckO : PySem.W.keepIn K (.ref cO) = true)
    (ccO : PySem.W.findIn K (.ref cO) "__class__" = some (some (.builtin "object.__class__")))
    (ciO : PySem.W.findIn K (.ref cO) "__init__" = some (some (.ref iO)))
    (cfO : PySem.W.typeIn K (.ref iO) = some (.type "function"))
    (cyO : PySem.W.typeIn K (.ref cO) = some (.type "type"))
    (chO : PySem.W.hasDictIn K cO = true)
    (cnO : PySem.W.findIn K (.ref cO) "many" = some none)
    (elO : K.lookup iO = some ⟨xocO, xodO, .func (PySem.W.fnOf "__init__" "Short.__init__" (defArgs sIO) (defBody sIO) (defScope sIO) .none xkVO xdcO xpmO xanO xcdO xctO), xslO⟩)
    (edO : PySem.W.codeIn K xcdO "Short.__init__" = true)
    (ekO : PySem.W.keepIn K (.ref iO) = true)
    (sg : PySem.W.specialIn K (.builtin "object.__class__") "__get__" = some (some (.builtin "getset_descriptor.__get__")))
    (st : PySem.W.takesIn K (.builtin "object.__class__") = some true)
    (xsSS : PySem.W.subIn K (.ref cS) (.ref cS) = some true)
    (xsSB : PySem.W.subIn K (.ref cS) (.ref cB) = some false)
    (xsSD : PySem.W.subIn K (.ref cS) (.ref cD) = some false)
    (xsSL : PySem.W.subIn K (.ref cS) (.ref cL) = some false)
    (xsSO : PySem.W.subIn K (.ref cS) (.ref cO) = some false)
    (xsBS : PySem.W.subIn K (.ref cB) (.ref cS) = some false)
    (xsBB : PySem.W.subIn K (.ref cB) (.ref cB) = some true)
    (xsBD : PySem.W.subIn K (.ref cB) (.ref cD) = some false)
    (xsBL : PySem.W.subIn K (.ref cB) (.ref cL) = some false)
    (xsBO : PySem.W.subIn K (.ref cB) (.ref cO) = some false)
    (xsDS : PySem.W.subIn K (.ref cD) (.ref cS) = some false)
    (xsDB : PySem.W.subIn K (.ref cD) (.ref cB) = some false)
    (xsDD : PySem.W.subIn K (.ref cD) (.ref cD) = some true)
    (xsDL : PySem.W.subIn K (.ref cD) (.ref cL) = some false)
    (xsDO : PySem.W.subIn K (.ref cD) (.ref cO) = some false)
    (xsLS : PySem.W.subIn K (.ref cL) (.ref cS) = some false)
    (xsLB : PySem.W.subIn K (.ref cL) (.ref cB) = some false)
    (xsLD : PySem.W.subIn K (.ref cL) (.ref cD) = some false)
    (xsLL : PySem.W.subIn K (.ref cL) (.ref cL) = some true)
    (xsLO : PySem.W.subIn K (.ref cL) (.ref cO) = some false)
    (xsOS : PySem.W.subIn K (.ref cO) (.ref cS) = some false)
    (xsOB : PySem.W.subIn K (.ref cO) (.ref cB) = some false)
    (xsOD : PySem.W.subIn K (.ref cO) (.ref cD) = some false)
    (xsOL : PySem.W.subIn K (.ref cO) (.ref cL) = some false)
    (xsOO : PySem.W.subIn K (.ref cO) (.ref cO) = some true)
    (xnd : ([cS, cB, cD, cL, cO] : List Addr).Nodup)
    (caK : PySem.W.nsIn K mainGlobals "Keep" = some (some (.ref cK)))
    (kpg : PySem.W.plainGet K cK Str.empty = true)
    (khd : PySem.W.hasDictIn K cK = true)
    (kpo : PySem.W.plainOver K cK = true)
    (ksa : PySem.W.findIn K (.ref cK) "__setattr__" = some (some (.builtin "object.__setattr__")))
    (kmk : PySem.W.makesIn K cK = true)
    (kkc : PySem.W.keepIn K (.ref cK) = true)
    (knM : PySem.W.findIn K (.ref cK) "moments" = some none)
    (knN : PySem.W.findIn K (.ref cK) "notes" = some none)
    (kne : PySem.W.findIn K (.ref cK) "__ne__" = some (some (.builtin "object.__ne__")))
    (kca : PySem.W.findIn K (.ref cK) "__class__" = some (some (.builtin "object.__class__")))
    (kcm : PySem.W.mroIn K cK (.type "object") = some true)
    (ma_init : PySem.W.findIn K (.ref cK) "__init__" = some (some (.ref q_init)))
    (mi_init : PySem.W.isFn K (.ref q_init) = true)
    (ml_init : K.lookup q_init = some ⟨moc_init, mod_init, .func (PySem.W.fnOf "__init__" "Keep.__init__" (defArgs sKi) (defBody sKi) (defScope sKi) .none mkV_init mdc_init mpm_init man_init mcd_init mct_init), msl_init⟩)
    (mc_init : PySem.W.codeIn K mcd_init "Keep.__init__" = true)
    (mk_init : PySem.W.keepIn K (.ref q_init) = true)
    (ma_go : PySem.W.findIn K (.ref cK) "go" = some (some (.ref q_go)))
    (mi_go : PySem.W.isFn K (.ref q_go) = true)
    (ml_go : K.lookup q_go = some ⟨moc_go, mod_go, .func (PySem.W.fnOf "go" "Keep.go" (defArgs sKgo) (defBody sKgo) (defScope sKgo) .none mkV_go mdc_go mpm_go man_go mcd_go mct_go), msl_go⟩)
    (mc_go : PySem.W.codeIn K mcd_go "Keep.go" = true)
    (mk_go : PySem.W.keepIn K (.ref q_go) = true)
    (ma_row : PySem.W.findIn K (.ref cK) "row" = some (some (.ref q_row)))
    (mi_row : PySem.W.isFn K (.ref q_row) = true)
    (ml_row : K.lookup q_row = some ⟨moc_row, mod_row, .func (PySem.W.fnOf "row" "Keep.row" (defArgs sKro) (defBody sKro) (defScope sKro) .none mkV_row mdc_row mpm_row man_row mcd_row mct_row), msl_row⟩)
    (mc_row : PySem.W.codeIn K mcd_row "Keep.row" = true)
    (mk_row : PySem.W.keepIn K (.ref q_row) = true)
    (ma_fill : PySem.W.findIn K (.ref cK) "fill" = some (some (.ref q_fill)))
    (mi_fill : PySem.W.isFn K (.ref q_fill) = true)
    (ml_fill : K.lookup q_fill = some ⟨moc_fill, mod_fill, .func (PySem.W.fnOf "fill" "Keep.fill" (defArgs sKfi) (defBody sKfi) (defScope sKfi) .none mkV_fill mdc_fill mpm_fill man_fill mcd_fill mct_fill), msl_fill⟩)
    (mc_fill : PySem.W.codeIn K mcd_fill "Keep.fill" = true)
    (mk_fill : PySem.W.keepIn K (.ref q_fill) = true)
    (ma_drain : PySem.W.findIn K (.ref cK) "drain" = some (some (.ref q_drain)))
    (mi_drain : PySem.W.isFn K (.ref q_drain) = true)
    (ml_drain : K.lookup q_drain = some ⟨moc_drain, mod_drain, .func (PySem.W.fnOf "drain" "Keep.drain" (defArgs sKdr) (defBody sKdr) (defScope sKdr) .none mkV_drain mdc_drain mpm_drain man_drain mcd_drain mct_drain), msl_drain⟩)
    (mc_drain : PySem.W.codeIn K mcd_drain "Keep.drain" = true)
    (mk_drain : PySem.W.keepIn K (.ref q_drain) = true)
    (ma_turn : PySem.W.findIn K (.ref cK) "turn" = some (some (.ref q_turn)))
    (mi_turn : PySem.W.isFn K (.ref q_turn) = true)
    (ml_turn : K.lookup q_turn = some ⟨moc_turn, mod_turn, .func (PySem.W.fnOf "turn" "Keep.turn" (defArgs sKtu) (defBody sKtu) (defScope sKtu) .none mkV_turn mdc_turn mpm_turn man_turn mcd_turn mct_turn), msl_turn⟩)
    (mc_turn : PySem.W.codeIn K mcd_turn "Keep.turn" = true)
    (mk_turn : PySem.W.keepIn K (.ref q_turn) = true)
    (ma_dig : PySem.W.findIn K (.ref cK) "dig" = some (some (.ref q_dig)))
    (mi_dig : PySem.W.isFn K (.ref q_dig) = true)
    (ml_dig : K.lookup q_dig = some ⟨moc_dig, mod_dig, .func (PySem.W.fnOf "dig" "Keep.dig" (defArgs sKdi) (defBody sKdi) (defScope sKdi) .none mkV_dig mdc_dig mpm_dig man_dig mcd_dig mct_dig), msl_dig⟩)
    (mc_dig : PySem.W.codeIn K mcd_dig "Keep.dig" = true)
    (mk_dig : PySem.W.keepIn K (.ref q_dig) = true)
    (ma_undo : PySem.W.findIn K (.ref cK) "undo" = some (some (.ref q_undo)))
    (mi_undo : PySem.W.isFn K (.ref q_undo) = true)
    (ml_undo : K.lookup q_undo = some ⟨moc_undo, mod_undo, .func (PySem.W.fnOf "undo" "Keep.undo" (defArgs sKun) (defBody sKun) (defScope sKun) .none mkV_undo mdc_undo mpm_undo man_undo mcd_undo mct_undo), msl_undo⟩)
    (mc_undo : PySem.W.codeIn K mcd_undo "Keep.undo" = true)
    (mk_undo : PySem.W.keepIn K (.ref q_undo) = true)
    (ma_canal : PySem.W.findIn K (.ref cK) "canal" = some (some (.ref q_canal)))
    (mi_canal : PySem.W.isFn K (.ref q_canal) = true)
    (ml_canal : K.lookup q_canal = some ⟨moc_canal, mod_canal, .func (PySem.W.fnOf "canal" "Keep.canal" (defArgs sKca) (defBody sKca) (defScope sKca) .none mkV_canal mdc_canal mpm_canal man_canal mcd_canal mct_canal), msl_canal⟩)
    (mc_canal : PySem.W.codeIn K mcd_canal "Keep.canal" = true)
    (mk_canal : PySem.W.keepIn K (.ref q_canal) = true)
    (ma_standing : PySem.W.findIn K (.ref cK) "standing" = some (some (.ref q_standing)))
    (mi_standing : PySem.W.isFn K (.ref q_standing) = true)
    (ml_standing : K.lookup q_standing = some ⟨moc_standing, mod_standing, .func (PySem.W.fnOf "standing" "Keep.standing" (defArgs sKst) (defBody sKst) (defScope sKst) .none mkV_standing mdc_standing mpm_standing man_standing mcd_standing mct_standing), msl_standing⟩)
    (mc_standing : PySem.W.codeIn K mcd_standing "Keep.standing" = true)
    (mk_standing : PySem.W.keepIn K (.ref q_standing) = true)
    (ma_deeds : PySem.W.findIn K (.ref cK) "deeds" = some (some (.ref q_deeds)))
    (mi_deeds : PySem.W.isFn K (.ref q_deeds) = true)
    (ml_deeds : K.lookup q_deeds = some ⟨moc_deeds, mod_deeds, .func (PySem.W.fnOf "deeds" "Keep.deeds" (defArgs sKde) (defBody sKde) (defScope sKde) .none mkV_deeds mdc_deeds mpm_deeds man_deeds mcd_deeds mct_deeds), msl_deeds⟩)
    (mc_deeds : PySem.W.codeIn K mcd_deeds "Keep.deeds" = true)
    (mk_deeds : PySem.W.keepIn K (.ref q_deeds) = true)
    (ma_hands : PySem.W.findIn K (.ref cK) "hands" = some (some (.ref q_hands)))
    (mi_hands : PySem.W.isFn K (.ref q_hands) = true)
    (ml_hands : K.lookup q_hands = some ⟨moc_hands, mod_hands, .func (PySem.W.fnOf "hands" "Keep.hands" (defArgs sKha) (defBody sKha) (defScope sKha) .none mkV_hands mdc_hands mpm_hands man_hands mcd_hands mct_hands), msl_hands⟩)
    (mc_hands : PySem.W.codeIn K mcd_hands "Keep.hands" = true)
    (mk_hands : PySem.W.keepIn K (.ref q_hands) = true)
    (ma_went : PySem.W.findIn K (.ref cK) "went" = some (some (.ref q_went)))
    (mi_went : PySem.W.isFn K (.ref q_went) = true)
    (ml_went : K.lookup q_went = some ⟨moc_went, mod_went, .func (PySem.W.fnOf "went" "Keep.went" (defArgs sKwe) (defBody sKwe) (defScope sKwe) .none mkV_went mdc_went mpm_went man_went mcd_went mct_went), msl_went⟩)
    (mc_went : PySem.W.codeIn K mcd_went "Keep.went" = true)
    (mk_went : PySem.W.keepIn K (.ref q_went) = true)
    (ma_log : PySem.W.findIn K (.ref cK) "log" = some (some (.ref q_log)))
    (mi_log : PySem.W.isFn K (.ref q_log) = true)
    (ml_log : K.lookup q_log = some ⟨moc_log, mod_log, .func (PySem.W.fnOf "log" "Keep.log" (defArgs sKlo) (defBody sKlo) (defScope sKlo) .none mkV_log mdc_log mpm_log man_log mcd_log mct_log), msl_log⟩)
    (mc_log : PySem.W.codeIn K mcd_log "Keep.log" = true)
    (mk_log : PySem.W.keepIn K (.ref q_log) = true)
    (ma_eq : PySem.W.findIn K (.ref cK) "__eq__" = some (some (.ref q_eq)))
    (mi_eq : PySem.W.isFn K (.ref q_eq) = true)
    (ml_eq : K.lookup q_eq = some ⟨moc_eq, mod_eq, .func (PySem.W.fnOf "__eq__" "Keep.__eq__" (defArgs sKeq) (defBody sKeq) (defScope sKeq) .none mkV_eq mdc_eq mpm_eq man_eq mcd_eq mct_eq), msl_eq⟩)
    (mc_eq : PySem.W.codeIn K mcd_eq "Keep.__eq__" = true)
    (mk_eq : PySem.W.keepIn K (.ref q_eq) = true)
    (ma_len : PySem.W.findIn K (.ref cK) "__len__" = some (some (.ref q_len)))
    (mi_len : PySem.W.isFn K (.ref q_len) = true)
    (ml_len : K.lookup q_len = some ⟨moc_len, mod_len, .func (PySem.W.fnOf "__len__" "Keep.__len__" (defArgs sKln) (defBody sKln) (defScope sKln) .none mkV_len mdc_len mpm_len man_len mcd_len mct_len), msl_len⟩)
    (mc_len : PySem.W.codeIn K mcd_len "Keep.__len__" = true)
    (mk_len : PySem.W.keepIn K (.ref q_len) = true)
    (ma_repr : PySem.W.findIn K (.ref cK) "__repr__" = some (some (.ref q_repr)))
    (mi_repr : PySem.W.isFn K (.ref q_repr) = true)
    (ml_repr : K.lookup q_repr = some ⟨moc_repr, mod_repr, .func (PySem.W.fnOf "__repr__" "Keep.__repr__" (defArgs sKre) (defBody sKre) (defScope sKre) .none mkV_repr mdc_repr mpm_repr man_repr mcd_repr mct_repr), msl_repr⟩)
    (mc_repr : PySem.W.codeIn K mcd_repr "Keep.__repr__" = true)
    (mk_repr : PySem.W.keepIn K (.ref q_repr) = true)
    : ∃ fd : FuncData, (∀ (s : Shared) (v : Value), BindsTo s fd ⟨[v], []⟩ [("_law_script", v)]) ∧ ∀ base : Heap, K.In base → base.Ns mainGlobals mg → FnG l.prog w K mg base 28 fa fd ["_law_script"] (spLaw K) := by
  have e := hfa.symm.trans (PySem.W.mg_of X G a48)
  cases e
  have F1 := fun_mk (st := sNum) l1 d1 k1
  have b1 := F1.binds (ps := ["thing"]) fun _ _ _ _ _ _ us hl => match us, hl with | [_], _ => rfl
  have g1 := PySem.W.mg_of X G a1
  have F2 := fun_mk (st := sPl) l2 d2 k2
  have b2 := F2.binds (ps := ["thing", "many"]) fun _ _ _ _ _ _ us hl => match us, hl with | [_, _], _ => rfl
  have g2 := PySem.W.mg_of X G a2
  have F3 := fun_mk (st := sTupled) l3 d3 k3
  have b3 := F3.binds (ps := ["thing"]) fun _ _ _ _ _ _ us hl => match us, hl with | [_], _ => rfl
  have g3 := PySem.W.mg_of X G a3
  have F4 := fun_mk (st := sBas) l4 d4 k4
  have b4 := F4.binds (ps := ["canal", "water"]) fun _ _ _ _ _ _ us hl => match us, hl with | [_, _], _ => rfl
  have g4 := PySem.W.mg_of X G a4
  have F5 := fun_mk (st := sEnds) l5 d5 k5
  have b5 := F5.binds (ps := ["lock", "water"]) fun _ _ _ _ _ _ us hl => match us, hl with | [_, _], _ => rfl
  have g5 := PySem.W.mg_of X G a5
  have F6 := fun_mk (st := sFT) l6 d6 k6
  have b6 := F6.binds (ps := ["canal", "standing", "lock", "water"]) fun _ _ _ _ _ _ us hl => match us, hl with | [_, _, _, _], _ => rfl
  have g6 := PySem.W.mg_of X G a6
  have F7 := fun_mk (st := sHas) l7 d7 k7
  have b7 := F7.binds (ps := ["canal", "standing", "lock", "water"]) fun _ _ _ _ _ _ us hl => match us, hl with | [_, _, _, _], _ => rfl
  have g7 := PySem.W.mg_of X G a7
  have F8 := fun_mk (st := sGone) l8 d8 k8
  have b8 := F8.binds (ps := ["canal", "standing", "going"]) fun _ _ _ _ _ _ us hl => match us, hl with | [_, _, _], _ => rfl
  have g8 := PySem.W.mg_of X G a8
  have F9 := fun_mk (st := sNou) l9 d9 k9
  have b9 := F9.binds (ps := ["many"]) fun _ _ _ _ _ _ us hl => match us, hl with | [_], _ => rfl
  have g9 := PySem.W.mg_of X G a9
  have F10 := fun_mk (st := sBeg) l10 d10 k10
  have b10 := F10.binds (ps := ["canal", "standing"]) fun _ _ _ _ _ _ us hl => match us, hl with | [_, _], _ => rfl
  have g10 := PySem.W.mg_of X G a10
  have F11 := fun_mk (st := sPlo) l11 d11 k11
  have b11 := F11.binds (ps := ["water"]) fun _ _ _ _ _ _ us hl => match us, hl with | [_], _ => rfl
  have g11 := PySem.W.mg_of X G a11
  have F12 := fun_mk (st := sMat) l12 d12 k12
  have b12 := F12.binds (ps := ["parts", "place", "at", "more"]) fun _ _ _ _ _ _ us hl => match us, hl with | [_, _, _, _], _ => rfl
  have g12 := PySem.W.mg_of X G a12
  have F13 := fun_mk (st := sSel) l13 d13 k13
  have b13 := F13.binds (ps := ["moment", "lock"]) fun _ _ _ _ _ _ us hl => match us, hl with | [_, _], _ => rfl
  have g13 := PySem.W.mg_of X G a13
  have F14 := fun_mk (st := sSeb) l14 d14 k14
  have b14 := F14.binds (ps := ["moment", "water", "basin"]) fun _ _ _ _ _ _ us hl => match us, hl with | [_, _, _], _ => rfl
  have g14 := PySem.W.mg_of X G a14
  have F15 := fun_mk (st := sGb) l15 d15 k15
  have b15 := F15.binds (ps := ["moment", "lock", "water"]) fun _ _ _ _ _ _ us hl => match us, hl with | [_, _, _], _ => rfl
  have g15 := PySem.W.mg_of X G a15
  have F16 := fun_mk (st := sGa) l16 d16 k16
  have b16 := F16.binds (ps := ["moment", "goings"]) fun _ _ _ _ _ _ us hl => match us, hl with | [_, _], _ => rfl
  have g16 := PySem.W.mg_of X G a16
  have F17 := fun_mk (st := sBh) l17 d17 k17
  have b17 := F17.binds (ps := ["moment", "place", "at", "more"]) fun _ _ _ _ _ _ us hl => match us, hl with | [_, _, _, _], _ => rfl
  have g17 := PySem.W.mg_of X G a17
  have F18 := fun_mk (st := sFi) l18 d18 k18
  have b18 := F18.binds (ps := ["moment", "water", "basin", "many"]) fun _ _ _ _ _ _ us hl => match us, hl with | [_, _, _, _], _ => rfl
  have g18 := PySem.W.mg_of X G a18
  have F19 := fun_mk (st := sDra) l19 d19 k19
  have b19 := F19.binds (ps := ["moment", "water", "basin", "many"]) fun _ _ _ _ _ _ us hl => match us, hl with | [_, _, _, _], _ => rfl
  have g19 := PySem.W.mg_of X G a19
  have F20 := fun_mk (st := sTur) l20 d20 k20
  have b20 := F20.binds (ps := ["moment", "lock"]) fun _ _ _ _ _ _ us hl => match us, hl with | [_, _], _ => rfl
  have g20 := PySem.W.mg_of X G a20
  have F21 := fun_mk (st := sDug) l21 d21 k21
  have b21 := F21.binds (ps := ["moment", "a", "c", "x", "y"]) fun _ _ _ _ _ _ us hl => match us, hl with | [_, _, _, _, _], _ => rfl
  have g21 := PySem.W.mg_of X G a21
  have F22 := fun_mk (st := sWl) l22 d22 k22
  have b22 := F22.binds (ps := ["parts"]) fun _ _ _ _ _ _ us hl => match us, hl with | [_], _ => rfl
  have g22 := PySem.W.mg_of X G a22
  have F23 := fun_mk (st := sBox) l23 d23 k23
  have b23 := F23.binds (ps := ["_law_cells_here", "_law_k"]) fun _ _ _ _ _ _ us hl => match us, hl with | [_, _], _ => rfl
  have g23 := PySem.W.mg_of X G a23
  have F24 := fun_mk (st := sTake) l24 d24 k24
  have b24 := F24.binds (ps := ["_law_box_here", "_law_size"]) fun _ _ _ _ _ _ us hl => match us, hl with | [_, _], _ => rfl
  have g24 := PySem.W.mg_of X G a24
  have F25 := fun_mk (st := sCells) l25 d25 k25
  have b25 := F25.binds (ps := ["_law_script", "_law_utmost"]) fun _ _ _ _ _ _ us hl => match us, hl with | [_, _], _ => rfl
  have g25 := PySem.W.mg_of X G a25
  have F26 := fun_mk (st := sOf) l26 d26 k26
  have b26 := F26.binds (ps := ["_law_box_here", "_law_some"]) fun _ _ _ _ _ _ us hl => match us, hl with | [_, _], _ => rfl
  have g26 := PySem.W.mg_of X G a26
  have F27 := fun_mk (st := sSame) l27 d27 k27
  have b27 := F27.binds (ps := ["_law_found", "_law_due_here"]) fun _ _ _ _ _ _ us hl => match us, hl with | [_, _], _ => rfl
  have g27 := PySem.W.mg_of X G a27
  have F28 := fun_mk (st := sLists) l28 d28 k28
  have b28 := F28.binds (ps := ["_law_what"]) fun _ _ _ _ _ _ us hl => match us, hl with | [_], _ => rfl
  have g28 := PySem.W.mg_of X G a28
  have F29 := fun_mk (st := sCanal) l29 d29 k29
  have b29 := F29.binds (ps := ["_law_box_here", "_law_wide", "_law_utmost"]) fun _ _ _ _ _ _ us hl => match us, hl with | [_, _, _], _ => rfl
  have g29 := PySem.W.mg_of X G a29
  have F30 := fun_mk (st := sLying) l30 d30 k30
  have b30 := F30.binds (ps := ["_law_box_here", "_law_ship_way", "_law_most"]) fun _ _ _ _ _ _ us hl => match us, hl with | [_, _, _], _ => rfl
  have g30 := PySem.W.mg_of X G a30
  have F31 := fun_mk (st := sLF) l31 d31 k31
  have b31 := F31.binds (ps := ["_law_ship_way", "_law_lying_here", "_law_hop"]) fun _ _ _ _ _ _ us hl => match us, hl with | [_, _, _], _ => rfl
  have g31 := PySem.W.mg_of X G a31
  have F32 := fun_mk (st := sSt) l32 d32 k32
  have b32 := F32.binds (ps := ["_law_ship_way", "_law_lying_here"]) fun _ _ _ _ _ _ us hl => match us, hl with | [_, _], _ => rfl
  have g32 := PySem.W.mg_of X G a32
  have F33 := fun_mk (st := sBe) l33 d33 k33
  have b33 := F33.binds (ps := ["_law_ship_way", "_law_lying_here", "_law_hop"]) fun _ _ _ _ _ _ us hl => match us, hl with | [_, _, _], _ => rfl
  have g33 := PySem.W.mg_of X G a33
  have F34 := fun_mk (st := sWk) l34 d34 k34
  have b34 := F34.binds (ps := ["_law_box_here", "_law_ship_way", "_law_lying_here", "_law_most"]) fun _ _ _ _ _ _ us hl => match us, hl with | [_, _, _, _], _ => rfl
  have g34 := PySem.W.mg_of X G a34
  have F35 := fun_mk (st := sWi) l35 d35 k35
  have b35 := F35.binds (ps := ["_law_some", "_law_spot", "_law_more"]) fun _ _ _ _ _ _ us hl => match us, hl with | [_, _, _], _ => rfl
  have g35 := PySem.W.mg_of X G a35
  have F36 := fun_mk (st := sBg) l36 d36 k36
  have b36 := F36.binds (ps := ["_law_ship_way", "_law_lying_here"]) fun _ _ _ _ _ _ us hl => match us, hl with | [_, _], _ => rfl
  have g36 := PySem.W.mg_of X G a36
  have F37 := fun_mk (st := sWb) l37 d37 k37
  have b37 := F37.binds (ps := ["_law_s", "_law_gate", "_law_hue"]) fun _ _ _ _ _ _ us hl => match us, hl with | [_, _, _], _ => rfl
  have g37 := PySem.W.mg_of X G a37
  have F38 := fun_mk (st := sPb) l38 d38 k38
  have b38 := F38.binds (ps := ["_law_s", "_law_hue", "_law_spot", "_law_more"]) fun _ _ _ _ _ _ us hl => match us, hl with | [_, _, _, _], _ => rfl
  have g38 := PySem.W.mg_of X G a38
  have F39 := fun_mk (st := sLb) l39 d39 k39
  have b39 := F39.binds (ps := ["_law_s", "_law_deed_here"]) fun _ _ _ _ _ _ us hl => match us, hl with | [_, _], _ => rfl
  have g39 := PySem.W.mg_of X G a39
  have F40 := fun_mk (st := sDu) l40 d40 k40
  have b40 := F40.binds (ps := ["_law_s", "_law_deed_here"]) fun _ _ _ _ _ _ us hl => match us, hl with | [_, _], _ => rfl
  have g40 := PySem.W.mg_of X G a40
  have F41 := fun_mk (st := sAg) l41 d41 k41
  have b41 := F41.binds (ps := ["_law_box_here", "_law_ship_way"]) fun _ _ _ _ _ _ us hl => match us, hl with | [_, _], _ => rfl
  have g41 := PySem.W.mg_of X G a41
  have F42 := fun_mk (st := sDe) l42 d42 k42
  have b42 := F42.binds (ps := ["_law_box_here", "_law_s"]) fun _ _ _ _ _ _ us hl => match us, hl with | [_, _], _ => rfl
  have g42 := PySem.W.mg_of X G a42
  have F43 := fun_mk (st := sDo) l43 d43 k43
  have b43 := F43.binds (ps := ["_law_house", "_law_deed_here"]) fun _ _ _ _ _ _ us hl => match us, hl with | [_, _], _ => rfl
  have g43 := PySem.W.mg_of X G a43
  have F44 := fun_mk (st := sWo) l44 d44 k44
  have b44 := F44.binds (ps := ["_law_error"]) fun _ _ _ _ _ _ us hl => match us, hl with | [_], _ => rfl
  have g44 := PySem.W.mg_of X G a44
  have F45 := fun_mk (st := sTo) l45 d45 k45
  have b45 := F45.binds (ps := ["_law_house"]) fun _ _ _ _ _ _ us hl => match us, hl with | [_], _ => rfl
  have g45 := PySem.W.mg_of X G a45
  have F46 := fun_mk (st := sTd) l46 d46 k46
  have b46 := F46.binds (ps := ["_law_s"]) fun _ _ _ _ _ _ us hl => match us, hl with | [_], _ => rfl
  have g46 := PySem.W.mg_of X G a46
  have F47 := fun_mk (st := sRig) l47 d47 k47
  have b47 := F47.binds (ps := ["_law_box_here"]) fun _ _ _ _ _ _ us hl => match us, hl with | [_], _ => rfl
  have g47 := PySem.W.mg_of X G a47
  have F48 := fun_mk (st := sLaw) l48 d48 k48
  have m_isinstance := PySem.W.mg_none_of X G z_isinstance
  have m_int := PySem.W.mg_none_of X G z_int
  have m_bool := PySem.W.mg_none_of X G z_bool
  have m_len := PySem.W.mg_none_of X G z_len
  have m_all := PySem.W.mg_none_of X G z_all
  have m_range := PySem.W.mg_none_of X G z_range
  have m_zip := PySem.W.mg_none_of X G z_zip
  have m_list := PySem.W.mg_none_of X G z_list
  have m_tuple := PySem.W.mg_none_of X G z_tuple
  have m_str := PySem.W.mg_none_of X G z_str
  have m_enumerate := PySem.W.mg_none_of X G z_enumerate
  have m_abs := PySem.W.mg_none_of X G z_abs
  have m_repr := PySem.W.mg_none_of X G z_repr
  have m_max := PySem.W.mg_none_of X G z_max
  have m_LookupError := PySem.W.mg_none_of X G z_LookupError
  have m_RuntimeError := PySem.W.mg_none_of X G z_RuntimeError
  have c_RED := PySem.W.mg_of X G v_RED
  refine ⟨PySem.W.fnOf "law" "law" (defArgs sLaw) (defBody sLaw) (defScope sLaw) .none kV48 dc48 pm48 an48 cd48 ct48, fun s v => .of_eq rfl, fun base _ _ => ?_⟩
  have xxS : ExK K cS 1 := exk_mk F.excBase_LookupError F.store_LookupError.passes (by decide +kernel) (by decide +kernel) clS csS cgS ctS_ ckS ccS chS sg st
  have yyS := fun_mk (st := sIS) elS edS ekS
  have ybS := yyS.binds (ps := ["self", "basin"]) fun _ _ _ _ _ _ us hl => match us, hl with | [_, _], _ => rfl
  have TS : Er l.prog w K mg base "NoBasin" 1 cS iS _ ["self", "basin"] (spI cS "basin") := ⟨xxS, cyS, ciS, cfS, PySem.W.mg_of X G caS, ok_IS yyS xxS cnS m_LookupError, ybS⟩
  have KCS : Cl K cS := ⟨⟨_, _, _, _, _, _, _, _, _, _, _, _, _, _, _, _, clS⟩, cyS, xxS.exC, chS⟩
  have xxB : ExK K cB 2 := exk_mk F.excBase_RuntimeError F.store_RuntimeError.passes (by decide +kernel) (by decide +kernel) clB csB cgB ctB_ ckB ccB chB sg st
  have yyB := fun_mk (st := sIB) elB edB ekB
  have ybB := yyB.binds (ps := ["self", "going"]) fun _ _ _ _ _ _ us hl => match us, hl with | [_, _], _ => rfl
  have TB : Er l.prog w K mg base "NoBoat" 2 cB iB _ ["self", "going"] (spI cB "going") := ⟨xxB, cyB, ciB, cfB, PySem.W.mg_of X G caB, ok_IB yyB xxB cnB m_RuntimeError, ybB⟩
  have KCB : Cl K cB := ⟨⟨_, _, _, _, _, _, _, _, _, _, _, _, _, _, _, _, clB⟩, cyB, xxB.exC, chB⟩
  have xxD : ExK K cD 1 := exk_mk F.excBase_LookupError F.store_LookupError.passes (by decide +kernel) (by decide +kernel) clD csD cgD ctD_ ckD ccD chD sg st
  have yyD := fun_mk (st := sID) elD edD ekD
  have ybD := yyD.binds (ps := ["self", "many"]) fun _ _ _ _ _ _ us hl => match us, hl with | [_, _], _ => rfl
  have TD : Er l.prog w K mg base "NoDeed" 1 cD iD _ ["self", "many"] (spI cD "many") := ⟨xxD, cyD, ciD, cfD, PySem.W.mg_of X G caD, ok_ID yyD xxD cnD m_LookupError, ybD⟩
  have KCD : Cl K cD := ⟨⟨_, _, _, _, _, _, _, _, _, _, _, _, _, _, _, _, clD⟩, cyD, xxD.exC, chD⟩
  have xxL : ExK K cL 1 := exk_mk F.excBase_LookupError F.store_LookupError.passes (by decide +kernel) (by decide +kernel) clL csL cgL ctL_ ckL ccL chL sg st
  have yyL := fun_mk (st := sIL) elL edL ekL
  have ybL := yyL.binds (ps := ["self", "lock"]) fun _ _ _ _ _ _ us hl => match us, hl with | [_, _], _ => rfl
  have TL : Er l.prog w K mg base "NoLock" 1 cL iL _ ["self", "lock"] (spI cL "lock") := ⟨xxL, cyL, ciL, cfL, PySem.W.mg_of X G caL, ok_IL yyL xxL cnL m_LookupError, ybL⟩
  have KCL : Cl K cL := ⟨⟨_, _, _, _, _, _, _, _, _, _, _, _, _, _, _, _, clL⟩, cyL, xxL.exC, chL⟩
  have xxO : ExK K cO 2 := exk_mk F.excBase_RuntimeError F.store_RuntimeError.passes (by decide +kernel) (by decide +kernel) clO csO cgO ctO_ ckO ccO chO sg st
  have yyO := fun_mk (st := sIO) elO edO ekO
  have ybO := yyO.binds (ps := ["self", "many"]) fun _ _ _ _ _ _ us hl => match us, hl with | [_, _], _ => rfl
  have TO : Er l.prog w K mg base "Short" 2 cO iO _ ["self", "many"] (spI cO "many") := ⟨xxO, cyO, ciO, cfO, PySem.W.mg_of X G caO, ok_IO yyO xxO cnO m_RuntimeError, ybO⟩
  have KCO : Cl K cO := ⟨⟨_, _, _, _, _, _, _, _, _, _, _, _, _, _, _, _, clO⟩, cyO, xxO.exC, chO⟩
  have nSB : cS ≠ cB := fun z => by rw [z] at xnd; simp at xnd
  have nSD : cS ≠ cD := fun z => by rw [z] at xnd; simp at xnd
  have nSL : cS ≠ cL := fun z => by rw [z] at xnd; simp at xnd
  have nSO : cS ≠ cO := fun z => by rw [z] at xnd; simp at xnd
  have nBS : cB ≠ cS := fun z => by rw [z] at xnd; simp at xnd
  have nBD : cB ≠ cD := fun z => by rw [z] at xnd; simp at xnd
  have nBL : cB ≠ cL := fun z => by rw [z] at xnd; simp at xnd
  have nBO : cB ≠ cO := fun z => by rw [z] at xnd; simp at xnd
  have nDS : cD ≠ cS := fun z => by rw [z] at xnd; simp at xnd
  have nDB : cD ≠ cB := fun z => by rw [z] at xnd; simp at xnd
  have nDL : cD ≠ cL := fun z => by rw [z] at xnd; simp at xnd
  have nDO : cD ≠ cO := fun z => by rw [z] at xnd; simp at xnd
  have nLS : cL ≠ cS := fun z => by rw [z] at xnd; simp at xnd
  have nLB : cL ≠ cB := fun z => by rw [z] at xnd; simp at xnd
  have nLD : cL ≠ cD := fun z => by rw [z] at xnd; simp at xnd
  have nLO : cL ≠ cO := fun z => by rw [z] at xnd; simp at xnd
  have nOS : cO ≠ cS := fun z => by rw [z] at xnd; simp at xnd
  have nOB : cO ≠ cB := fun z => by rw [z] at xnd; simp at xnd
  have nOD : cO ≠ cD := fun z => by rw [z] at xnd; simp at xnd
  have nOL : cO ≠ cL := fun z => by rw [z] at xnd; simp at xnd
  have wk : WkE K (Ks.mk cL cS cD cB cO) := by
    refine ⟨fun j hj => ?_, fun i j hi hj => ?_, fun j hj => ?_, fun j hj => ?_⟩
    · match j, hj with
        | 0, _ => exact xxS
        | 1, _ => exact xxB
        | 2, _ => exact xxD
        | 3, _ => exact xxL
        | 4, _ => exact xxO
    · match i, j, hi, hj with
        | 0, 0, _, _ => exact kit_self
        | 0, 1, _, _ => exact kit_ne xxS KCB nBS
        | 0, 2, _, _ => exact kit_ne xxS KCD nDS
        | 0, 3, _, _ => exact kit_ne xxS KCL nLS
        | 0, 4, _, _ => exact kit_ne xxS KCO nOS
        | 1, 0, _, _ => exact kit_ne xxB KCS nSB
        | 1, 1, _, _ => exact kit_self
        | 1, 2, _, _ => exact kit_ne xxB KCD nDB
        | 1, 3, _, _ => exact kit_ne xxB KCL nLB
        | 1, 4, _, _ => exact kit_ne xxB KCO nOB
        | 2, 0, _, _ => exact kit_ne xxD KCS nSD
        | 2, 1, _, _ => exact kit_ne xxD KCB nBD
        | 2, 2, _, _ => exact kit_self
        | 2, 3, _, _ => exact kit_ne xxD KCL nLD
        | 2, 4, _, _ => exact kit_ne xxD KCO nOD
        | 3, 0, _, _ => exact kit_ne xxL KCS nSL
        | 3, 1, _, _ => exact kit_ne xxL KCB nBL
        | 3, 2, _, _ => exact kit_ne xxL KCD nDL
        | 3, 3, _, _ => exact kit_self
        | 3, 4, _, _ => exact kit_ne xxL KCO nOL
        | 4, 0, _, _ => exact kit_ne xxO KCS nSO
        | 4, 1, _, _ => exact kit_ne xxO KCB nBO
        | 4, 2, _, _ => exact kit_ne xxO KCD nDO
        | 4, 3, _, _ => exact kit_ne xxO KCL nLO
        | 4, 4, _, _ => exact kit_self
    · match j, hj with
        | 0, _ => exact (exm_cons (exm_of_sub KCS xsSS) (exm_cons (exm_of_sub KCB xsSB) (exm_cons (exm_of_sub KCD xsSD) (exm_cons (exm_of_sub KCL xsSL) (exm_cons (exm_of_sub KCO xsSO) rfl)))))
        | 1, _ => exact (exm_cons (exm_of_sub KCS xsBS) (exm_cons (exm_of_sub KCB xsBB) (exm_cons (exm_of_sub KCD xsBD) (exm_cons (exm_of_sub KCL xsBL) (exm_cons (exm_of_sub KCO xsBO) rfl)))))
        | 2, _ => exact (exm_cons (exm_of_sub KCS xsDS) (exm_cons (exm_of_sub KCB xsDB) (exm_cons (exm_of_sub KCD xsDD) (exm_cons (exm_of_sub KCL xsDL) (exm_cons (exm_of_sub KCO xsDO) rfl)))))
        | 3, _ => exact (exm_cons (exm_of_sub KCS xsLS) (exm_cons (exm_of_sub KCB xsLB) (exm_cons (exm_of_sub KCD xsLD) (exm_cons (exm_of_sub KCL xsLL) (exm_cons (exm_of_sub KCO xsLO) rfl)))))
        | 4, _ => exact (exm_cons (exm_of_sub KCS xsOS) (exm_cons (exm_of_sub KCB xsOB) (exm_cons (exm_of_sub KCD xsOD) (exm_cons (exm_of_sub KCL xsOL) (exm_cons (exm_of_sub KCO xsOO) rfl)))))
    · match j, hj with
        | 0, _ => exact cnS
        | 1, _ => exact cnB
        | 2, _ => exact cnD
        | 3, _ => exact cnL
        | 4, _ => exact cnO
  have MF_init := fun_mk (st := sKi) ml_init mc_init mk_init
  have MB_init := MF_init.binds (ps := ["self", "canal", "standing"]) fun _ _ _ _ _ _ us hl => match us, hl with | [_, _, _], _ => rfl
  have MF_go := fun_mk (st := sKgo) ml_go mc_go mk_go
  have MB_go := MF_go.binds (ps := ["self", "lock", "water"]) fun _ _ _ _ _ _ us hl => match us, hl with | [_, _, _], _ => rfl
  have MF_row := fun_mk (st := sKro) ml_row mc_row mk_row
  have MB_row := MF_row.binds (ps := ["self", "goings"]) fun _ _ _ _ _ _ us hl => match us, hl with | [_, _], _ => rfl
  have MF_fill := fun_mk (st := sKfi) ml_fill mc_fill mk_fill
  have MB_fill := MF_fill.binds (ps := ["self", "water", "basin", "many"]) fun _ _ _ _ _ _ us hl => match us, hl with | [_, _, _, _], _ => rfl
  have MF_drain := fun_mk (st := sKdr) ml_drain mc_drain mk_drain
  have MB_drain := MF_drain.binds (ps := ["self", "water", "basin", "many"]) fun _ _ _ _ _ _ us hl => match us, hl with | [_, _, _, _], _ => rfl
  have MF_turn := fun_mk (st := sKtu) ml_turn mc_turn mk_turn
  have MB_turn := MF_turn.binds (ps := ["self", "lock"]) fun _ _ _ _ _ _ us hl => match us, hl with | [_, _], _ => rfl
  have MF_dig := fun_mk (st := sKdi) ml_dig mc_dig mk_dig
  have MB_dig := MF_dig.binds (ps := ["self", "a", "c", "x", "y"]) fun _ _ _ _ _ _ us hl => match us, hl with | [_, _, _, _, _], _ => rfl
  have MF_undo := fun_mk (st := sKun) ml_undo mc_undo mk_undo
  have MB_undo := MF_undo.binds (ps := ["self"]) fun _ _ _ _ _ _ us hl => match us, hl with | [_], _ => rfl
  have MF_canal := fun_mk (st := sKca) ml_canal mc_canal mk_canal
  have MB_canal := MF_canal.binds (ps := ["self"]) fun _ _ _ _ _ _ us hl => match us, hl with | [_], _ => rfl
  have MF_standing := fun_mk (st := sKst) ml_standing mc_standing mk_standing
  have MB_standing := MF_standing.binds (ps := ["self"]) fun _ _ _ _ _ _ us hl => match us, hl with | [_], _ => rfl
  have MF_deeds := fun_mk (st := sKde) ml_deeds mc_deeds mk_deeds
  have MB_deeds := MF_deeds.binds (ps := ["self"]) fun _ _ _ _ _ _ us hl => match us, hl with | [_], _ => rfl
  have MF_hands := fun_mk (st := sKha) ml_hands mc_hands mk_hands
  have MB_hands := MF_hands.binds (ps := ["self"]) fun _ _ _ _ _ _ us hl => match us, hl with | [_], _ => rfl
  have MF_went := fun_mk (st := sKwe) ml_went mc_went mk_went
  have MB_went := MF_went.binds (ps := ["self"]) fun _ _ _ _ _ _ us hl => match us, hl with | [_], _ => rfl
  have MF_log := fun_mk (st := sKlo) ml_log mc_log mk_log
  have MB_log := MF_log.binds (ps := ["self"]) fun _ _ _ _ _ _ us hl => match us, hl with | [_], _ => rfl
  have MF_eq := fun_mk (st := sKeq) ml_eq mc_eq mk_eq
  have MB_eq := MF_eq.binds (ps := ["self", "other"]) fun _ _ _ _ _ _ us hl => match us, hl with | [_, _], _ => rfl
  have MF_len := fun_mk (st := sKln) ml_len mc_len mk_len
  have MB_len := MF_len.binds (ps := ["self"]) fun _ _ _ _ _ _ us hl => match us, hl with | [_], _ => rfl
  have MF_repr := fun_mk (st := sKre) ml_repr mc_repr mk_repr
  have MB_repr := MF_repr.binds (ps := ["self"]) fun _ _ _ _ _ _ us hl => match us, hl with | [_], _ => rfl
  have kcls : KC K cK := ⟨⟨kpg, khd, kpo, ksa⟩, knM, knN⟩
  have kown : KO K cK q_len q_eq := ⟨ma_len, mi_len, ma_eq, mi_eq, kne, kca, sg, st, kcm, kit_self⟩
  have MK : Mk K cK q_init := ⟨kmk, ma_init, mi_init, kkc⟩
  have gK := PySem.W.mg_of X G caK
  have v0_law_cells_spCells_27 : Fns l.prog w K mg base 27 "_law_cells" ["_law_script", "_law_utmost"] (spCells K) f25 _ := ⟨ok_cells (k := 26) F25 m_list m_enumerate, g25, k25, b25⟩
  have v1_law_box_spBox_27 : Fns l.prog w K mg base 27 "_law_box" ["_law_cells_here", "_law_k"] (spBox K) f23 _ := ⟨ok_box (k := 26) F23 m_abs m_int, g23, k23, b23⟩
  have v3_law_canal_spCanal_26 : Fns l.prog w K mg base 26 "_law_canal" ["_law_box_here", "_law_wide", "_law_utmost"] (spCanal K) f29 _ := ⟨ok_canal (k := 23) F29 F24 b24 g24 F26 b26 g26 m_len m_list m_tuple m_range, g29, k29, b29⟩
  have v4_law_lying_spLying_26 : Fns l.prog w K mg base 26 "_law_lying" ["_law_box_here", "_law_ship_way", "_law_most"] (spLying K) f30 _ := ⟨ok_lying (k := 23) F30 F24 b24 g24 F26 b26 g26 m_len m_tuple m_range, g30, k30, b30⟩
  have v5_law_take_spTake_26 : Fns l.prog w K mg base 26 "_law_take" ["_law_box_here", "_law_size"] (spTake) f24 _ := ⟨ok_take (k := 25) F24, g24, k24, b24⟩
  have v6_law_lists_26 : Fns l.prog w K mg base 26 "_law_lists" ["_law_what"] (spLists K 20) f28 _ := ⟨fn_upC (by decide) (ok_lists F28 b28 g28 m_isinstance m_list m_tuple 20), g28, k28, b28⟩
  have v7_law_begun_spBg_26 : Fns l.prog w K mg base 26 "_law_begun" ["_law_ship_way", "_law_lying_here"] (spBg K) f36 _ := ⟨ok_bg (k := 25) F36 m_len, g36, k36, b36⟩
  have v9_law_take_spTake_25 : Fns l.prog w K mg base 25 "_law_take" ["_law_box_here", "_law_size"] (spTake) f24 _ := ⟨ok_take (k := 24) F24, g24, k24, b24⟩
  have v10_law_of_spOf_25 : Fns l.prog w K mg base 25 "_law_of" ["_law_box_here", "_law_some"] (spOf K) f26 _ := ⟨ok_of (k := 23) F26 F24 b24 g24 m_len, g26, k26, b26⟩
  have v12_law_from_to_spLF_24 : Fns l.prog w K mg base 24 "_law_from_to" ["_law_ship_way", "_law_lying_here", "_law_hop"] (spLF K) f31 _ := ⟨ok_lf (k := 23) F31, g31, k31, b31⟩
  have v11_law_steps_spSt_25 : Fns l.prog w K mg base 25 "_law_steps" ["_law_ship_way", "_law_lying_here"] (spSt K) f32 _ := ⟨ok_st (k := 24) F32 v12_law_from_to_spLF_24 m_range m_len m_enumerate, g32, k32, b32⟩
  have v14_law_take_spTake_24 : Fns l.prog w K mg base 24 "_law_take" ["_law_box_here", "_law_size"] (spTake) f24 _ := ⟨ok_take (k := 23) F24, g24, k24, b24⟩
  have v15_law_of_spOf_24 : Fns l.prog w K mg base 24 "_law_of" ["_law_box_here", "_law_some"] (spOf K) f26 _ := ⟨ok_of (k := 22) F26 F24 b24 g24 m_len, g26, k26, b26⟩
  have v13_law_any_gate_spAg_25 : Fns l.prog w K mg base 25 "_law_any_gate" ["_law_box_here", "_law_ship_way"] (spAg K) f41 _ := ⟨ok_ag (k := 24) F41 v14_law_take_spTake_24 v15_law_of_spOf_24 m_len, g41, k41, b41⟩
  have v18_law_from_to_spLF_23 : Fns l.prog w K mg base 23 "_law_from_to" ["_law_ship_way", "_law_lying_here", "_law_hop"] (spLF K) f31 _ := ⟨ok_lf (k := 22) F31, g31, k31, b31⟩
  have v17_law_steps_spSt_24 : Fns l.prog w K mg base 24 "_law_steps" ["_law_ship_way", "_law_lying_here"] (spSt K) f32 _ := ⟨ok_st (k := 23) F32 v18_law_from_to_spLF_23 m_range m_len m_enumerate, g32, k32, b32⟩
  have v19_law_behind_spBe_24 : Fns l.prog w K mg base 24 "_law_behind" ["_law_ship_way", "_law_lying_here", "_law_hop"] (spBe K) f33 _ := ⟨ok_be (k := 23) F33 v18_law_from_to_spLF_23 m_list m_int m_tuple, g33, k33, b33⟩
  have v16_law_walk_spWk_25 : Fns l.prog w K mg base 25 "_law_walk" ["_law_box_here", "_law_ship_way", "_law_lying_here", "_law_most"] (spWk K) f34 _ := ⟨ok_wk (k := 24) F34 v17_law_steps_spSt_24 v15_law_of_spOf_24 v19_law_behind_spBe_24 m_range m_len m_int, g34, k34, b34⟩
  have v8_law_deed_spDe_26 : Fns l.prog w K mg base 26 "_law_deed" ["_law_box_here", "_law_s"] (spDe K) f42 _ := ⟨ok_de (k := 25) F42 v9_law_take_spTake_25 v10_law_of_spOf_25 v11_law_steps_spSt_25 v13_law_any_gate_spAg_25 v16_law_walk_spWk_25 m_len m_int m_range m_tuple, g42, k42, b42⟩
  have v22_law_with_spWi_24 : Fns l.prog w K mg base 24 "_law_with" ["_law_some", "_law_spot", "_law_more"] (spWi K) f35 _ := ⟨ok_wi (k := 23) F35, g35, k35, b35⟩
  have v21_law_went_by_spWb_25 : Fns l.prog w K mg base 25 "_law_went_by" ["_law_s", "_law_gate", "_law_hue"] (spWb K) f37 _ := ⟨ok_wb (k := 24) F37 v17_law_steps_spSt_24 v22_law_with_spWi_24 v19_law_behind_spBe_24 m_len m_int, g37, k37, b37⟩
  have v23_law_put_by_hand_spPb_25 : Fns l.prog w K mg base 25 "_law_put_by_hand" ["_law_s", "_law_hue", "_law_spot", "_law_more"] (spPb K) f38 _ := ⟨ok_pb (k := 24) F38 v22_law_with_spWi_24 m_int, g38, k38, b38⟩
  have v24_law_by_hand_spLb_25 : Fns l.prog w K mg base 25 "_law_by_hand" ["_law_s", "_law_deed_here"] (spLb K) f39 _ := ⟨ok_lb (k := 24) F39 v22_law_with_spWi_24 m_len m_enumerate, g39, k39, b39⟩
  have v20_law_due_spDu_26 : Fns l.prog w K mg base 26 "_law_due" ["_law_s", "_law_deed_here"] (spDu K) f40 _ := ⟨ok_du (k := 25) F40 v21_law_went_by_spWb_25 v23_law_put_by_hand_spPb_25 v24_law_by_hand_spLb_25, g40, k40, b40⟩
  have v30_is_number_spNum_21 : Fns l.prog w K mg base 21 "is_number" ["thing"] (spNum) f1 _ := ⟨ok_num (k := 20) F1 m_isinstance m_int m_bool, g1, k1, b1⟩
  have v29_is_place_spPl_22 : Fns l.prog w K mg base 22 "is_place" ["thing", "many"] (spPl) f2 _ := ⟨ok_pl (k := 21) F2 v30_is_number_spNum_21, g2, k2, b2⟩
  have v28_seek_lock_spSel_23 : FnX l.prog w K mg base 23 "seek_lock" ["moment", "lock"] (spSel K (Ks.mk cL cS cD cB cO)) f13 _ := ⟨ok_sel (k := 20) F13 v29_is_place_spPl_22 TL m_len, g13, k13, b13⟩
  have v34_ends_of_spEnds_19 : Fns l.prog w K mg base 19 "ends_of" ["lock", "water"] (spEnds K) f5 _ := ⟨ok_ends (k := 18) F5 c_RED, g5, k5, b5⟩
  have v33_from_and_to_spFT_20 : Fns l.prog w K mg base 20 "from_and_to" ["canal", "standing", "lock", "water"] (spFT K) f6 _ := ⟨ok_ft (k := 19) F6 v34_ends_of_spEnds_19, g6, k6, b6⟩
  have v32_has_boat_spHas_21 : Fns l.prog w K mg base 21 "has_boat" ["canal", "standing", "lock", "water"] (spHas K) f7 _ := ⟨ok_has (k := 20) F7 v33_from_and_to_spFT_20 c_RED, g7, k7, b7⟩
  have v36_ends_of_spEnds_20 : Fns l.prog w K mg base 20 "ends_of" ["lock", "water"] (spEnds K) f5 _ := ⟨ok_ends (k := 19) F5 c_RED, g5, k5, b5⟩
  have v35_from_and_to_spFT_21 : Fns l.prog w K mg base 21 "from_and_to" ["canal", "standing", "lock", "water"] (spFT K) f6 _ := ⟨ok_ft (k := 20) F6 v36_ends_of_spEnds_20, g6, k6, b6⟩
  have v31_gone_spGone_23 : FnX l.prog w K mg base 23 "gone" ["canal", "standing", "going"] (spGone K cB) f8 _ := ⟨ok_gone (k := 20) F8 v32_has_boat_spHas_21 v35_from_and_to_spFT_21 TB c_RED m_list m_tuple, g8, k8, b8⟩
  have v37_more_at_spMat_23 : Fns l.prog w K mg base 23 "more_at" ["parts", "place", "at", "more"] (spMat K) f12 _ := ⟨ok_mat (k := 22) F12, g12, k12, b12⟩
  have v38_place_of_spPlo_23 : Fns l.prog w K mg base 23 "place_of" ["water"] (spPlo) f11 _ := ⟨ok_plo (k := 22) F11 c_RED, g11, k11, b11⟩
  have v27_gone_by_spGb_24 : FnX l.prog w K mg base 24 "gone_by" ["moment", "lock", "water"] (spGb K (Ks.mk cL cS cD cB cO)) f15 _ := ⟨ok_gb (k := 22) F15 v28_seek_lock_spSel_23 v31_gone_spGone_23 v37_more_at_spMat_23 v38_place_of_spPlo_23, g15, k15, b15⟩
  have w26_go_25_MtX : MtX l.prog w K mg base 25 cK "go" ["self", "lock", "water"] (spKgo K (Ks.mk cL cS cD cB cO) cK) q_go _ := ⟨ok_Kgo (k := 24) MF_go kcls v27_gone_by_spGb_24, ⟨ma_go, mi_go, mk_go⟩, MB_go⟩
  have v44_is_number_spNum_20 : Fns l.prog w K mg base 20 "is_number" ["thing"] (spNum) f1 _ := ⟨ok_num (k := 19) F1 m_isinstance m_int m_bool, g1, k1, b1⟩
  have v43_is_place_spPl_21 : Fns l.prog w K mg base 21 "is_place" ["thing", "many"] (spPl) f2 _ := ⟨ok_pl (k := 20) F2 v44_is_number_spNum_20, g2, k2, b2⟩
  have v42_seek_lock_spSel_22 : FnX l.prog w K mg base 22 "seek_lock" ["moment", "lock"] (spSel K (Ks.mk cL cS cD cB cO)) f13 _ := ⟨ok_sel (k := 19) F13 v43_is_place_spPl_21 TL m_len, g13, k13, b13⟩
  have v48_ends_of_spEnds_18 : Fns l.prog w K mg base 18 "ends_of" ["lock", "water"] (spEnds K) f5 _ := ⟨ok_ends (k := 17) F5 c_RED, g5, k5, b5⟩
  have v47_from_and_to_spFT_19 : Fns l.prog w K mg base 19 "from_and_to" ["canal", "standing", "lock", "water"] (spFT K) f6 _ := ⟨ok_ft (k := 18) F6 v48_ends_of_spEnds_18, g6, k6, b6⟩
  have v46_has_boat_spHas_20 : Fns l.prog w K mg base 20 "has_boat" ["canal", "standing", "lock", "water"] (spHas K) f7 _ := ⟨ok_has (k := 19) F7 v47_from_and_to_spFT_19 c_RED, g7, k7, b7⟩
  have v45_gone_spGone_22 : FnX l.prog w K mg base 22 "gone" ["canal", "standing", "going"] (spGone K cB) f8 _ := ⟨ok_gone (k := 19) F8 v46_has_boat_spHas_20 v33_from_and_to_spFT_20 TB c_RED m_list m_tuple, g8, k8, b8⟩
  have v49_more_at_spMat_22 : Fns l.prog w K mg base 22 "more_at" ["parts", "place", "at", "more"] (spMat K) f12 _ := ⟨ok_mat (k := 21) F12, g12, k12, b12⟩
  have v50_place_of_spPlo_22 : Fns l.prog w K mg base 22 "place_of" ["water"] (spPlo) f11 _ := ⟨ok_plo (k := 21) F11 c_RED, g11, k11, b11⟩
  have v41_gone_by_spGb_23 : FnX l.prog w K mg base 23 "gone_by" ["moment", "lock", "water"] (spGb K (Ks.mk cL cS cD cB cO)) f15 _ := ⟨ok_gb (k := 21) F15 v42_seek_lock_spSel_22 v45_gone_spGone_22 v49_more_at_spMat_22 v50_place_of_spPlo_22, g15, k15, b15⟩
  have v40_gone_by_all_spGa_24 : FnX l.prog w K mg base 24 "gone_by_all" ["moment", "goings"] (spGa K (Ks.mk cL cS cD cB cO)) f16 _ := ⟨ok_ga (k := 23) F16 v41_gone_by_spGb_23, g16, k16, b16⟩
  have w39_row_25_MtX : MtX l.prog w K mg base 25 cK "row" ["self", "goings"] (spKro K (Ks.mk cL cS cD cB cO) cK) q_row _ := ⟨ok_Kro (k := 24) MF_row kcls v40_gone_by_all_spGa_24, ⟨ma_row, mi_row, mk_row⟩, MB_row⟩
  have v54_basins_of_spBas_22 : Fns l.prog w K mg base 22 "basins_of" ["canal", "water"] (spBas K) f4 _ := ⟨ok_bas (k := 21) F4 c_RED, g4, k4, b4⟩
  have v53_seek_basin_spSeb_23 : FnX l.prog w K mg base 23 "seek_basin" ["moment", "water", "basin"] (spSeb K (Ks.mk cL cS cD cB cO)) f14 _ := ⟨ok_seb (k := 20) F14 v29_is_place_spPl_22 v54_basins_of_spBas_22 TS, g14, k14, b14⟩
  have v55_by_hand_spBh_23 : Fns l.prog w K mg base 23 "by_hand" ["moment", "place", "at", "more"] (spBh K) f17 _ := ⟨ok_bh (k := 22) F17 v49_more_at_spMat_22, g17, k17, b17⟩
  have v52_filled_spFi_24 : FnX l.prog w K mg base 24 "filled" ["moment", "water", "basin", "many"] (spFi K (Ks.mk cL cS cD cB cO)) f18 _ := ⟨ok_fi (k := 22) F18 v53_seek_basin_spSeb_23 v38_place_of_spPlo_23 v55_by_hand_spBh_23, g18, k18, b18⟩
  have w51_fill_25_MtX : MtX l.prog w K mg base 25 cK "fill" ["self", "water", "basin", "many"] (spKfi K (Ks.mk cL cS cD cB cO) cK) q_fill _ := ⟨ok_Kfi (k := 24) MF_fill kcls v52_filled_spFi_24, ⟨ma_fill, mi_fill, mk_fill⟩, MB_fill⟩
  have v57_drained_spDra_24 : FnX l.prog w K mg base 24 "drained" ["moment", "water", "basin", "many"] (spDra K (Ks.mk cL cS cD cB cO)) f19 _ := ⟨ok_dra (k := 21) F19 v53_seek_basin_spSeb_23 v38_place_of_spPlo_23 v55_by_hand_spBh_23 TO, g19, k19, b19⟩
  have w56_drain_25_MtX : MtX l.prog w K mg base 25 cK "drain" ["self", "water", "basin", "many"] (spKdr K (Ks.mk cL cS cD cB cO) cK) q_drain _ := ⟨ok_Kdr (k := 24) MF_drain kcls v57_drained_spDra_24, ⟨ma_drain, mi_drain, mk_drain⟩, MB_drain⟩
  have v59_turned_spTur_24 : FnX l.prog w K mg base 24 "turned" ["moment", "lock"] (spTur K (Ks.mk cL cS cD cB cO)) f20 _ := ⟨ok_tur (k := 22) F20 v28_seek_lock_spSel_23 v55_by_hand_spBh_23, g20, k20, b20⟩
  have w58_turn_25_MtX : MtX l.prog w K mg base 25 cK "turn" ["self", "lock"] (spKtu K (Ks.mk cL cS cD cB cO) cK) q_turn _ := ⟨ok_Ktu (k := 24) MF_turn kcls v59_turned_spTur_24, ⟨ma_turn, mi_turn, mk_turn⟩, MB_turn⟩
  have w61_len_1_FnOk : FnOk l.prog w K mg base CX0 1 q_len _ ["self"] (spKln K cK) := ok_Kln (k := 0) MF_len kcls m_len
  have v64_is_number_spNum_22 : Fns l.prog w K mg base 22 "is_number" ["thing"] (spNum) f1 _ := ⟨ok_num (k := 21) F1 m_isinstance m_int m_bool, g1, k1, b1⟩
  have v63_is_place_spPl_23 : Fns l.prog w K mg base 23 "is_place" ["thing", "many"] (spPl) f2 _ := ⟨ok_pl (k := 22) F2 v64_is_number_spNum_22, g2, k2, b2⟩
  have v65_with_low_spWl_23 : Fns l.prog w K mg base 23 "with_low" ["parts"] (spWl K) f22 _ := ⟨ok_wl (k := 22) F22, g22, k22, b22⟩
  have v62_dug_spDug_24 : FnX l.prog w K mg base 24 "dug" ["moment", "a", "c", "x", "y"] (spDug K (Ks.mk cL cS cD cB cO)) f21 _ := ⟨ok_dug (k := 21) F21 v63_is_place_spPl_23 v65_with_low_spWl_23 TS, g21, k21, b21⟩
  have w60_dig_25_MtX : MtX l.prog w K mg base 25 cK "dig" ["self", "a", "c", "x", "y"] (spKdi K (Ks.mk cL cS cD cB cO) cK) q_dig _ := ⟨ok_Kdi (k := 22) MF_dig kcls kown w61_len_1_FnOk MB_len m_len v62_dug_spDug_24, ⟨ma_dig, mi_dig, mk_dig⟩, MB_dig⟩
  have v66_law_word_spWo_25 : Fns l.prog w K mg base 25 "_law_word" ["_law_error"] (spWo K (Ks.mk cL cS cD cB cO)) f44 _ := ⟨ok_wo (k := 24) F44 wk TS TB TD TL TO m_isinstance m_LookupError m_RuntimeError, g44, k44, b44⟩
  have v25_law_done_spDo_26 : Fns l.prog w K mg base 26 "_law_done" ["_law_house", "_law_deed_here"] (spDo K (Ks.mk cL cS cD cB cO) cK) f43 _ := ⟨ok_do (k := 25) F43 kcls wk TS TB TD TL TO w26_go_25_MtX w39_row_25_MtX w51_fill_25_MtX w56_drain_25_MtX w58_turn_25_MtX w60_dig_25_MtX v66_law_word_spWo_25, g43, k43, b43⟩
  have v67_law_same_26 : Fns l.prog w K mg base 26 "_law_same" ["_law_found", "_law_due_here"] (spSame K 20) f27 _ := ⟨fn_upC (by decide) (ok_same F27 b27 g27 m_isinstance m_list m_tuple m_zip m_len m_all m_bool m_str m_int 20), g27, k27, b27⟩
  have w69_canal_1_Mt : Mt l.prog w K mg base 1 cK "canal" ["self"] (spKca K cK) q_canal _ := ⟨ok_Kca (k := 0) MF_canal kcls, ⟨ma_canal, mi_canal, mk_canal⟩, MB_canal⟩
  have w70_standing_1_Mt : Mt l.prog w K mg base 1 cK "standing" ["self"] (spKst K cK) q_standing _ := ⟨ok_Kst (k := 0) MF_standing kcls, ⟨ma_standing, mi_standing, mk_standing⟩, MB_standing⟩
  have w71_hands_1_Mt : Mt l.prog w K mg base 1 cK "hands" ["self"] (spKha K cK) q_hands _ := ⟨ok_Kha (k := 0) MF_hands kcls m_list m_tuple, ⟨ma_hands, mi_hands, mk_hands⟩, MB_hands⟩
  have w72_went_1_Mt : Mt l.prog w K mg base 1 cK "went" ["self"] (spKwe K cK) q_went _ := ⟨ok_Kwe (k := 0) MF_went kcls m_list m_tuple, ⟨ma_went, mi_went, mk_went⟩, MB_went⟩
  have w73_len_1_Mt : Mt l.prog w K mg base 1 cK "__len__" ["self"] (spKln K cK) q_len _ := ⟨ok_Kln (k := 0) MF_len kcls m_len, ⟨ma_len, mi_len, mk_len⟩, MB_len⟩
  have v68_law_told_of_spTo_26 : Fns l.prog w K mg base 26 "_law_told_of" ["_law_house"] (spTo K cK) f45 _ := ⟨ok_to (k := 23) F45 kcls kown w69_canal_1_Mt w70_standing_1_Mt w71_hands_1_Mt w72_went_1_Mt w73_len_1_Mt m_len, g45, k45, b45⟩
  have v74_law_told_due_spTd_26 : Fns l.prog w K mg base 26 "_law_told_due" ["_law_s"] (spTd K) f46 _ := ⟨ok_td (k := 25) F46 m_list m_tuple m_len, g46, k46, b46⟩
  have v77_tupled_14 : Fns l.prog w K mg base 14 "tupled" ["thing"] (spTupled K 4) f3 _ := ⟨fn_upC (by decide) (ok_tupled F3 b3 g3 m_isinstance m_list m_tuple 4), g3, k3, b3⟩
  have v78_noughts_spNou_14 : Fns l.prog w K mg base 14 "noughts" ["many"] (spNou K) f9 _ := ⟨ok_nou (k := 13) F9 m_tuple m_range, g9, k9, b9⟩
  have v76_begun_spBeg_15 : Fns l.prog w K mg base 15 "begun" ["canal", "standing"] (spBeg K) f10 _ := ⟨ok_beg (k := 10) F10 v77_tupled_14 v78_noughts_spNou_14 m_len, g10, k10, b10⟩
  have w75_init_16_FnOk : FnOk l.prog w K mg base CX0 16 q_init _ ["self", "canal", "standing"] (spKi K cK) := ok_Ki (k := 15) MF_init kcls v76_begun_spBeg_15
  have w79_undo_16_Mt : Mt l.prog w K mg base 16 cK "undo" ["self"] (spKun K cK) q_undo _ := ⟨ok_Kun (k := 15) MF_undo kcls m_len, ⟨ma_undo, mi_undo, mk_undo⟩, MB_undo⟩
  have w80_deeds_16_Mt : Mt l.prog w K mg base 16 cK "deeds" ["self"] (spKde K cK) q_deeds _ := ⟨ok_Kde (k := 15) MF_deeds kcls m_len, ⟨ma_deeds, mi_deeds, mk_deeds⟩, MB_deeds⟩
  have w81_log_16_Mt : Mt l.prog w K mg base 16 cK "log" ["self"] (spKlo K cK) q_log _ := ⟨ok_Klo (k := 15) MF_log kcls m_list, ⟨ma_log, mi_log, mk_log⟩, MB_log⟩
  have w82_repr_16_FnOk : FnOk l.prog w K mg base CX0 16 q_repr _ ["self"] (spKre K cK) := ok_Kre (k := 13) MF_repr kcls kown w61_len_1_FnOk MB_len m_len
  have v2_law_right_spRig_27 : Fns l.prog w K mg base 27 "_law_right" ["_law_box_here"] (spRig) f47 _ := ⟨ok_rig F47 kcls v3_law_canal_spCanal_26 v4_law_lying_spLying_26 v5_law_take_spTake_26 v6_law_lists_26 v7_law_begun_spBg_26 v8_law_deed_spDe_26 v20_law_due_spDu_26 v25_law_done_spDo_26 v67_law_same_26 v68_law_told_of_spTo_26 v74_law_told_due_spTd_26 gK MK w75_init_16_FnOk MB_init w79_undo_16_Mt w80_deeds_16_Mt w81_log_16_Mt ⟨ma_repr, mi_repr⟩ w82_repr_16_FnOk MB_repr m_len m_range m_max m_str m_repr, g47, k47, b47⟩
  exact ok_law F48 v0_law_cells_spCells_27 v1_law_box_spBox_27 v2_law_right_spRig_27 m_len m_range
end XL
open PySem PySem.W PyProof.Rows
set_option maxRecDepth 100000 in
set_option maxHeartbeats 0 in
theorem PySem.Challenge.cw_crosslocks_k53_keeps_beside_books_holds : PySem.Challenge.rw_crosslocks_k53_keeps_beside_books.Holds := by
  w_on; o_law; k_head; (case hw => w_witness2)
  k_fill
  refine XL.walkG (l := PySem.Challenge.rw_crosslocks_k53_keeps_beside_books) (n := 63) (k := 28) (x := "_law_script") (sp := XL.spLaw) rfl (by decide) rfl ⟨rfl, by decide, by decide⟩ (fun w h Y => PySem.W.kIn_of Y) ?F (fun K H a ns hl _ hS => ⟨a, ns, rfl, hS, hl, fun _ => rfl⟩)
  case F =>
    intro w mg fa h KX G hmg
    refine' XL.all_mk KX G hmg ?a1 ?l1 ?d1 ?k1 ?a2 ?l2 ?d2 ?k2 ?a3 ?l3 ?d3 ?k3 ?a4 ?l4 ?d4 ?k4 ?a5 ?l5 ?d5 ?k5 ?a6 ?l6 ?d6 ?k6 ?a7 ?l7 ?d7 ?k7 ?a8 ?l8 ?d8 ?k8 ?a9 ?l9 ?d9 ?k9 ?a10 ?l10 ?d10 ?k10 ?a11 ?l11 ?d11 ?k11 ?a12 ?l12 ?d12 ?k12 ?a13 ?l13 ?d13 ?k13 ?a14 ?l14 ?d14 ?k14 ?a15 ?l15 ?d15 ?k15 ?a16 ?l16 ?d16 ?k16 ?a17 ?l17 ?d17 ?k17 ?a18 ?l18 ?d18 ?k18 ?a19 ?l19 ?d19 ?k19 ?a20 ?l20 ?d20 ?k20 ?a21 ?l21 ?d21 ?k21 ?a22 ?l22 ?d22 ?k22 ?a23 ?l23 ?d23 ?k23 ?a24 ?l24 ?d24 ?k24 ?a25 ?l25 ?d25 ?k25 ?a26 ?l26 ?d26 ?k26 ?a27 ?l27 ?d27 ?k27 ?a28 ?l28 ?d28 ?k28 ?a29 ?l29 ?d29 ?k29 ?a30 ?l30 ?d30 ?k30 ?a31 ?l31 ?d31 ?k31 ?a32 ?l32 ?d32 ?k32 ?a33 ?l33 ?d33 ?k33 ?a34 ?l34 ?d34 ?k34 ?a35 ?l35 ?d35 ?k35 ?a36 ?l36 ?d36 ?k36 ?a37 ?l37 ?d37 ?k37 ?a38 ?l38 ?d38 ?k38 ?a39 ?l39 ?d39 ?k39 ?a40 ?l40 ?d40 ?k40 ?a41 ?l41 ?d41 ?k41 ?a42 ?l42 ?d42 ?k42 ?a43 ?l43 ?d43 ?k43 ?a44 ?l44 ?d44 ?k44 ?a45 ?l45 ?d45 ?k45 ?a46 ?l46 ?d46 ?k46 ?a47 ?l47 ?d47 ?k47 ?a48 ?l48 ?d48 ?k48 ?z_isinstance ?z_int ?z_bool ?z_len ?z_all ?z_range ?z_zip ?z_list ?z_tuple ?z_str ?z_enumerate ?z_abs ?z_repr ?z_max ?z_LookupError ?z_RuntimeError ?v_RED ?caS ?clS ?csS ?cgS ?ctS_ ?ckS ?ccS ?ciS ?cfS ?cyS ?chS ?cnS ?elS ?edS ?ekS ?caB ?clB ?csB ?cgB ?ctB_ ?ckB ?ccB ?ciB ?cfB ?cyB ?chB ?cnB ?elB ?edB ?ekB ?caD ?clD ?csD ?cgD ?ctD_ ?ckD ?ccD ?ciD ?cfD ?cyD ?chD ?cnD ?elD ?edD ?ekD ?caL ?clL ?csL ?cgL ?ctL_ ?ckL ?ccL ?ciL ?cfL ?cyL ?chL ?cnL ?elL ?edL ?ekL ?caO ?clO ?csO ?cgO ?ctO_ ?ckO ?ccO ?ciO ?cfO ?cyO ?chO ?cnO ?elO ?edO ?ekO ?sg ?st ?xsSS ?xsSB ?xsSD ?xsSL ?xsSO ?xsBS ?xsBB ?xsBD ?xsBL ?xsBO ?xsDS ?xsDB ?xsDD ?xsDL ?xsDO ?xsLS ?xsLB ?xsLD ?xsLL ?xsLO ?xsOS ?xsOB ?xsOD ?xsOL ?xsOO ?xnd ?caK ?kpg ?khd ?kpo ?ksa ?kmk ?kkc ?knM ?knN ?kne ?kca ?kcm ?ma_init ?mi_init ?ml_init ?mc_init ?mk_init ?ma_go ?mi_go ?ml_go ?mc_go ?mk_go ?ma_row ?mi_row ?ml_row ?mc_row ?mk_row ?ma_fill ?mi_fill ?ml_fill ?mc_fill ?mk_fill ?ma_drain ?mi_drain ?ml_drain ?mc_drain ?mk_drain ?ma_turn ?mi_turn ?ml_turn ?mc_turn ?mk_turn ?ma_dig ?mi_dig ?ml_dig ?mc_dig ?mk_dig ?ma_undo ?mi_undo ?ml_undo ?mc_undo ?mk_undo ?ma_canal ?mi_canal ?ml_canal ?mc_canal ?mk_canal ?ma_standing ?mi_standing ?ml_standing ?mc_standing ?mk_standing ?ma_deeds ?mi_deeds ?ml_deeds ?mc_deeds ?mk_deeds ?ma_hands ?mi_hands ?ml_hands ?mc_hands ?mk_hands ?ma_went ?mi_went ?ml_went ?mc_went ?mk_went ?ma_log ?mi_log ?ml_log ?mc_log ?mk_log ?ma_eq ?mi_eq ?ml_eq ?mc_eq ?mk_eq ?ma_len ?mi_len ?ml_len ?mc_len ?mk_len ?ma_repr ?mi_repr ?ml_repr ?mc_repr ?mk_repr
    (case a1 => k_is)
    (case l1 => k_is)
    (case d1 => k_is)
    (case k1 => k_is)
    (case a2 => k_is)
    (case l2 => k_is)
    (case d2 => k_is)
    (case k2 => k_is)
    (case a3 => k_is)
    (case l3 => k_is)
    (case d3 => k_is)
    (case k3 => k_is)
    (case a4 => k_is)
    (case l4 => k_is)
    (case d4 => k_is)
    (case k4 => k_is)
    (case a5 => k_is)
    (case l5 => k_is)
    (case d5 => k_is)
    (case k5 => k_is)
    (case a6 => k_is)
    (case l6 => k_is)
    (case d6 => k_is)
    (case k6 => k_is)
    (case a7 => k_is)
    (case l7 => k_is)
    (case d7 => k_is)
    (case k7 => k_is)
    (case a8 => k_is)
    (case l8 => k_is)
    (case d8 => k_is)
    (case k8 => k_is)
    (case a9 => k_is)
    (case l9 => k_is)
    (case d9 => k_is)
    (case k9 => k_is)
    (case a10 => k_is)
    (case l10 => k_is)
    (case d10 => k_is)
    (case k10 => k_is)
    (case a11 => k_is)
    (case l11 => k_is)
    (case d11 => k_is)
    (case k11 => k_is)
    (case a12 => k_is)
    (case l12 => k_is)
    (case d12 => k_is)
    (case k12 => k_is)
    (case a13 => k_is)
    (case l13 => k_is)
    (case d13 => k_is)
    (case k13 => k_is)
    (case a14 => k_is)
    (case l14 => k_is)
    (case d14 => k_is)
    (case k14 => k_is)
    (case a15 => k_is)
    (case l15 => k_is)
    (case d15 => k_is)
    (case k15 => k_is)
    (case a16 => k_is)
    (case l16 => k_is)
    (case d16 => k_is)
    (case k16 => k_is)
    (case a17 => k_is)
    (case l17 => k_is)
    (case d17 => k_is)
    (case k17 => k_is)
    (case a18 => k_is)
    (case l18 => k_is)
    (case d18 => k_is)
    (case k18 => k_is)
    (case a19 => k_is)
    (case l19 => k_is)
    (case d19 => k_is)
    (case k19 => k_is)
    (case a20 => k_is)
    (case l20 => k_is)
    (case d20 => k_is)
    (case k20 => k_is)
    (case a21 => k_is)
    (case l21 => k_is)
    (case d21 => k_is)
    (case k21 => k_is)
    (case a22 => k_is)
    (case l22 => k_is)
    (case d22 => k_is)
    (case k22 => k_is)
    (case a23 => k_is)
    (case l23 => k_is)
    (case d23 => k_is)
    (case k23 => k_is)
    (case a24 => k_is)
    (case l24 => k_is)
    (case d24 => k_is)
    (case k24 => k_is)
    (case a25 => k_is)
    (case l25 => k_is)
    (case d25 => k_is)
    (case k25 => k_is)
    (case a26 => k_is)
    (case l26 => k_is)
    (case d26 => k_is)
    (case k26 => k_is)
    (case a27 => k_is)
    (case l27 => k_is)
    (case d27 => k_is)
    (case k27 => k_is)
    (case a28 => k_is)
    (case l28 => k_is)
    (case d28 => k_is)
    (case k28 => k_is)
    (case a29 => k_is)
    (case l29 => k_is)
    (case d29 => k_is)
    (case k29 => k_is)
    (case a30 => k_is)
    (case l30 => k_is)
    (case d30 => k_is)
    (case k30 => k_is)
    (case a31 => k_is)
    (case l31 => k_is)
    (case d31 => k_is)
    (case k31 => k_is)
    (case a32 => k_is)
    (case l32 => k_is)
    (case d32 => k_is)
    (case k32 => k_is)
    (case a33 => k_is)
    (case l33 => k_is)
    (case d33 => k_is)
    (case k33 => k_is)
    (case a34 => k_is)
    (case l34 => k_is)
    (case d34 => k_is)
    (case k34 => k_is)
    (case a35 => k_is)
    (case l35 => k_is)
    (case d35 => k_is)
    (case k35 => k_is)
    (case a36 => k_is)
    (case l36 => k_is)
    (case d36 => k_is)
    (case k36 => k_is)
    (case a37 => k_is)
    (case l37 => k_is)
    (case d37 => k_is)
    (case k37 => k_is)
    (case a38 => k_is)
    (case l38 => k_is)
    (case d38 => k_is)
    (case k38 => k_is)
    (case a39 => k_is)
    (case l39 => k_is)
    (case d39 => k_is)
    (case k39 => k_is)
    (case a40 => k_is)
    (case l40 => k_is)
    (case d40 => k_is)
    (case k40 => k_is)
    (case a41 => k_is)
    (case l41 => k_is)
    (case d41 => k_is)
    (case k41 => k_is)
    (case a42 => k_is)
    (case l42 => k_is)
    (case d42 => k_is)
    (case k42 => k_is)
    (case a43 => k_is)
    (case l43 => k_is)
    (case d43 => k_is)
    (case k43 => k_is)
    (case a44 => k_is)
    (case l44 => k_is)
    (case d44 => k_is)
    (case k44 => k_is)
    (case a45 => k_is)
    (case l45 => k_is)
    (case d45 => k_is)
    (case k45 => k_is)
    (case a46 => k_is)
    (case l46 => k_is)
    (case d46 => k_is)
    (case k46 => k_is)
    (case a47 => k_is)
    (case l47 => k_is)
    (case d47 => k_is)
    (case k47 => k_is)
    (case a48 => k_is)
    (case l48 => k_is)
    (case d48 => k_is)
    (case k48 => k_is)
    (case z_isinstance => k_is)
    (case z_int => k_is)
    (case z_bool => k_is)
    (case z_len => k_is)
    (case z_all => k_is)
    (case z_range => k_is)
    (case z_zip => k_is)
    (case z_list => k_is)
    (case z_tuple => k_is)
    (case z_str => k_is)
    (case z_enumerate => k_is)
    (case z_abs => k_is)
    (case z_repr => k_is)
    (case z_max => k_is)
    (case z_LookupError => k_is)
    (case z_RuntimeError => k_is)
    (case v_RED => k_is)
    (case caS => k_is)
    (case clS => k_is)
    (case csS => k_is)
    (case cgS => k_is)
    (case ctS_ => k_is)
    (case ckS => k_is)
    (case ccS => k_is)
    (case ciS => k_is)
    (case cfS => k_is)
    (case cyS => k_is)
    (case chS => k_is)
    (case cnS => k_is)
    (case elS => k_is)
    (case edS => k_is)
    (case ekS => k_is)
    (case caB => k_is)
    (case clB => k_is)
    (case csB => k_is)
    (case cgB => k_is)
    (case ctB_ => k_is)
    (case ckB => k_is)
    (case ccB => k_is)
    (case ciB => k_is)
    (case cfB => k_is)
    (case cyB => k_is)
    (case chB => k_is)
    (case cnB => k_is)
    (case elB => k_is)
    (case edB => k_is)
    (case ekB => k_is)
    (case caD => k_is)
    (case clD => k_is)
    (case csD => k_is)
    (case cgD => k_is)
    (case ctD_ => k_is)
    (case ckD => k_is)
    (case ccD => k_is)
    (case ciD => k_is)
    (case cfD => k_is)
    (case cyD => k_is)
    (case chD => k_is)
    (case cnD => k_is)
    (case elD => k_is)
    (case edD => k_is)
    (case ekD => k_is)
    (case caL => k_is)
    (case clL => k_is)
    (case csL => k_is)
    (case cgL => k_is)
    (case ctL_ => k_is)
    (case ckL => k_is)
    (case ccL => k_is)
    (case ciL => k_is)
    (case cfL => k_is)
    (case cyL => k_is)
    (case chL => k_is)
    (case cnL => k_is)
    (case elL => k_is)
    (case edL => k_is)
    (case ekL => k_is)
    (case caO => k_is)
    (case clO => k_is)
    (case csO => k_is)
    (case cgO => k_is)
    (case ctO_ => k_is)
    (case ckO => k_is)
    (case ccO => k_is)
    (case ciO => k_is)
    (case cfO => k_is)
    (case cyO => k_is)
    (case chO => k_is)
    (case cnO => k_is)
    (case elO => k_is)
    (case edO => k_is)
    (case ekO => k_is)
    (case sg => k_is)
    (case st => k_is)
    (case xsSS => k_is)
    (case xsSB => k_is)
    (case xsSD => k_is)
    (case xsSL => k_is)
    (case xsSO => k_is)
    (case xsBS => k_is)
    (case xsBB => k_is)
    (case xsBD => k_is)
    (case xsBL => k_is)
    (case xsBO => k_is)
    (case xsDS => k_is)
    (case xsDB => k_is)
    (case xsDD => k_is)
    (case xsDL => k_is)
    (case xsDO => k_is)
    (case xsLS => k_is)
    (case xsLB => k_is)
    (case xsLD => k_is)
    (case xsLL => k_is)
    (case xsLO => k_is)
    (case xsOS => k_is)
    (case xsOB => k_is)
    (case xsOD => k_is)
    (case xsOL => k_is)
    (case xsOO => k_is)
    (case xnd => decide)
    (case caK => k_is)
    (case kpg => k_is)
    (case khd => k_is)
    (case kpo => k_is)
    (case ksa => k_is)
    (case kmk => k_is)
    (case kkc => k_is)
    (case knM => k_is)
    (case knN => k_is)
    (case kne => k_is)
    (case kca => k_is)
    (case kcm => k_is)
    (case ma_init => k_is)
    (case mi_init => k_is)
    (case ml_init => k_is)
    (case mc_init => k_is)
    (case mk_init => k_is)
    (case ma_go => k_is)
    (case mi_go => k_is)
    (case ml_go => k_is)
    (case mc_go => k_is)
    (case mk_go => k_is)
    (case ma_row => k_is)
    (case mi_row => k_is)
    (case ml_row => k_is)
    (case mc_row => k_is)
    (case mk_row => k_is)
    (case ma_fill => k_is)
    (case mi_fill => k_is)
    (case ml_fill => k_is)
    (case mc_fill => k_is)
    (case mk_fill => k_is)
    (case ma_drain => k_is)
    (case mi_drain => k_is)
    (case ml_drain => k_is)
    (case mc_drain => k_is)
    (case mk_drain => k_is)
    (case ma_turn => k_is)
    (case mi_turn => k_is)
    (case ml_turn => k_is)
    (case mc_turn => k_is)
    (case mk_turn => k_is)
    (case ma_dig => k_is)
    (case mi_dig => k_is)
    (case ml_dig => k_is)
    (case mc_dig => k_is)
    (case mk_dig => k_is)
    (case ma_undo => k_is)
    (case mi_undo => k_is)
    (case ml_undo => k_is)
    (case mc_undo => k_is)
    (case mk_undo => k_is)
    (case ma_canal => k_is)
    (case mi_canal => k_is)
    (case ml_canal => k_is)
    (case mc_canal => k_is)
    (case mk_canal => k_is)
    (case ma_standing => k_is)
    (case mi_standing => k_is)
    (case ml_standing => k_is)
    (case mc_standing => k_is)
    (case mk_standing => k_is)
    (case ma_deeds => k_is)
    (case mi_deeds => k_is)
    (case ml_deeds => k_is)
    (case mc_deeds => k_is)
    (case mk_deeds => k_is)
    (case ma_hands => k_is)
    (case mi_hands => k_is)
    (case ml_hands => k_is)
    (case mc_hands => k_is)
    (case mk_hands => k_is)
    (case ma_went => k_is)
    (case mi_went => k_is)
    (case ml_went => k_is)
    (case mc_went => k_is)
    (case mk_went => k_is)
    (case ma_log => k_is)
    (case mi_log => k_is)
    (case ml_log => k_is)
    (case mc_log => k_is)
    (case mk_log => k_is)
    (case ma_eq => k_is)
    (case mi_eq => k_is)
    (case ml_eq => k_is)
    (case mc_eq => k_is)
    (case mk_eq => k_is)
    (case ma_len => k_is)
    (case mi_len => k_is)
    (case ml_len => k_is)
    (case mc_len => k_is)
    (case mk_len => k_is)
    (case ma_repr => k_is)
    (case mi_repr => k_is)
    (case ml_repr => k_is)
    (case mc_repr => k_is)
    (case mk_repr => k_is)

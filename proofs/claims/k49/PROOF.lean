import PyProof.Rows.All
import Wide.All
import OpenK.AllK
import Wide.FinOn
import KE.GoesMore
import KE.KDictZip
import PyProof.ListNew
import PyProof.SeqWrite
import KE.GoesEnum
import HandS.ForMost
import HandS.Zip
import PyProof.ReprRoads
import HandS.Wide
import HandS.IsInst
import HandS.TupAny
import HandS.NoneIn
import HandS.Flow
import HandS.Conv
import HandS.Walk
import HandS.ExcValue
import PyProof.ReprLen
import HandS.Dict
import HandS.DictComp
import HandS.Style
import KE.KeyNested
import KE.KDictKeyed
import KE.KDictDisplayH
import HandS.TupLen
import HandS.Deep
import HandS.Iter
import HandS.Text
import HandS.Codes
import HandS.StrMore
import HandS.More
import HandS.TupSets
import HandS.SortInts
import KE.SortData
import KE.SortKeyed
import HandS.List
import PyProof.Rows.SeqMore
import PyProof.Rows.IntBool
import PyProof.CallStr
import PySem.Challenge.RW_crosslocks_k49_maps_or_not
set_option Elab.async false
set_option linter.all false
set_option maxRecDepth 100000
namespace XL
open PySem PyProof.Rows
section
variable {prog : Program} {w : World} {A : Around} {E : Value → Shared → Prop} {s : Shared} {z TI TO T i1 i2 : Addr}
variable {fp1 fp2 : List Addr} {n1 n2 i : Nat} {P1 P2 : Nat → Value → Prop} {St1 St2 : Nat → Heap → Prop} {a1 a2 : Value} {f : Bool} {oT : Obj}

/-- one more pair while the one given out before is held -/
theorem held_item {Q : Value → Shared → Prop} (S : ZipSep2 z TI TO i1 i2 fp1 fp2)
    (D1 : Draws prog w A i1 fp1 n1 P1 St1) (D2 : Draws prog w A i2 fp2 n2 P2 St2)
    (hz : IsZipHeld s.heap z TI TO T f) (hT : s.heap.get? T = some oT) (hTI : IsTupOf2 s.heap TI (.ref i1) (.ref i2))
    (st1 : St1 i s.heap) (st2 : St2 i s.heap) (l1 : i < n1) (l2 : i < n2)
    (hQ : ∀ x1 x2 h' tk, P1 i x1 → P2 i x2 → IsZipHeld h' z TI TO T true → St1 (i + 1) h' → St2 (i + 1) h' →
      IsTupOf2 h' s.heap.objs.size x1 x2 → h'.objs.size = s.heap.objs.size + 1 →
      (∀ c o, c ≠ z → c ≠ i1 → c ≠ i2 → s.heap.get? c = some o → h'.get? c = some o) →
      Q (.ref s.heap.objs.size) { s with heap := h', toks := tk }) :
    wpAny (model prog w) A (Builtin.«zip.__next__» ⟨[.ref z], []⟩) (fun fin s' => ∃ v, fin = .done (.ret v) ∧ Q v s') E s := by
  obtain ⟨hp, g, d, tk0, os⟩ := s
  show wpAny _ _ (field (.ref z) 2 >>= _) _ _ _
  refine wpAny_bind (wpAny_field hz rfl (x := .bool false) rfl ?_); show wpAny _ _ (field (.ref z) 3 >>= _) _ _ _
  refine wpAny_bind (wpAny_field hz rfl (x := .ref TI) rfl ?_); refine wpAny_bind (wpAny_seqItems hTI rfl ?_)
  show wpAny _ _ (Builtin.SmallTypes.ownedTupleIsFree (.ref z) >>= _) _ _ _
  refine wpAny_bind (wpAny_tupleHeld_zip hz hT fun g0 hz0 hs0 => ?_); simp only [Bool.false_eq_true, if_false]; refine wpAny_bind ?_
  replace hs0 : Heap.SameBut z hp g0 := hs0
  rw [← Array.forIn_toList]; simp only [List.forIn_cons, List.forIn_nil]
  refine wpAny_bind (wpAny_bind (wpAny_holding ?_)); show wpAny _ _ (Builtin.SmallTypes.nextOf (.ref i1) >>= _) _ _ ⟨g0, g, d, tk0, os⟩
  refine wpAny_bind (D1.item i _ _ _ l1 (D1.over st1 hs0 S.zf1) fun x1 p1 tk1 hx1 sn1 hp1 => wpAny_pure ?_)
  replace hp1 : Heap.SameBut i1 g0 p1 := hp1
  refine wpAny_pure ?_
  refine wpAny_bind (wpAny_bind (wpAny_holding ?_)); show wpAny _ _ (Builtin.SmallTypes.nextOf (.ref i2) >>= _) _ _ ⟨p1, g, d, tk1, os⟩
  refine wpAny_bind (D2.item i _ _ _ l2 (D2.over (D2.over st2 hs0 S.zf2) hp1 S.sep1_2) fun x2 p2 tk2 hx2 sn2 hp2 => wpAny_pure ?_)
  replace hp2 : Heap.SameBut i2 p1 p2 := hp2
  refine wpAny_pure (wpAny_pure ?_); show wpAny _ _ (newTuple [x1, x2] >>= _) _ _ _
  refine wpAny_bind (wpAny_newTuple ?_)
  have hsz : p2.objs.size = hp.objs.size := by rw [hp2.1, hp1.1, hs0.1]
  have hz2 : IsZipHeld p2 z TI TO T true := hp2.extBut _ _ S.zi2 (hp1.extBut _ _ S.zi1 hz0)
  have hk : ∀ c o, c ≠ z → c ≠ i1 → c ≠ i2 → hp.get? c = some o → p2.get? c = some o := fun c o c0 c1 c2 e =>
    hp2.extBut _ _ c2 (hp1.extBut _ _ c1 (hs0.extBut _ _ c0 e))
  have j1 : St1 (i + 1) p2 := D1.over sn1 hp2 S.sep2_1
  refine wpAny_pure ⟨_, rfl, ?_⟩; show Q (.ref p2.objs.size) _
  have hpr : IsTupOf2 (p2.push { cls := .type "tuple", data := .seq #[x1, x2] }) p2.objs.size x1 x2 := Heap.get?_push_size _ rfl
  have hz4 : (p2.push { cls := .type "tuple", data := .seq #[x1, x2] }).objs.size = p2.objs.size + 1 := Heap.size_push ..
  rw [hsz] at hpr hz4 ⊢
  exact hQ x1 x2 _ tk2 hx1 hx2 (Heap.get?_push_of_some _ hz2) (D1.frame _ _ _ j1 fun b _ o e => Heap.get?_push_of_some _ e)
    (D2.frame _ _ _ sn2 fun b _ o e => Heap.get?_push_of_some _ e) hpr hz4 fun c o c0 c1 c2 e => Heap.get?_push_of_some _ (hk c o c0 c1 c2 e)

/-- the end while the last pair is held -/
theorem held_end {Q : Fin → Shared → Prop} (S : ZipSep2 z TI TO i1 i2 fp1 fp2)
    (D1 : Draws prog w A i1 fp1 n1 P1 St1) (D2 : Draws prog w A i2 fp2 n2 P2 St2)
    (hz : IsZipHeld s.heap z TI TO T f) (hT : s.heap.get? T = some oT) (hTI : IsTupOf2 s.heap TI (.ref i1) (.ref i2))
    (st1 : St1 i s.heap) (st2 : St2 i s.heap) (e1 : i ≤ n1) (e2 : i ≤ n2) (hend : i = n1 ∨ i = n2)
    (hE : ∀ h' tk e, (∀ c o, c ≠ z → c ≠ i1 → c ≠ i2 → s.heap.get? c = some o → h'.get? c = some o) →
      (∃ o, h'.get? e = some o ∧ o.cls = .type "StopIteration") → E (.ref e) { s with heap := h', toks := tk }) :
    wpAny (model prog w) A (Builtin.«zip.__next__» ⟨[.ref z], []⟩) Q E s := by
  obtain ⟨hp, g, d, tk0, os⟩ := s
  show wpAny _ _ (field (.ref z) 2 >>= _) _ _ _
  refine wpAny_bind (wpAny_field hz rfl (x := .bool false) rfl ?_); show wpAny _ _ (field (.ref z) 3 >>= _) _ _ _
  refine wpAny_bind (wpAny_field hz rfl (x := .ref TI) rfl ?_); refine wpAny_bind (wpAny_seqItems hTI rfl ?_)
  show wpAny _ _ (Builtin.SmallTypes.ownedTupleIsFree (.ref z) >>= _) _ _ _
  refine wpAny_bind (wpAny_tupleHeld_zip hz hT fun g0 hz0 hs0 => ?_); simp only [Bool.false_eq_true, if_false]; refine wpAny_bind ?_
  replace hs0 : Heap.SameBut z hp g0 := hs0
  rw [← Array.forIn_toList]; simp only [List.forIn_cons, List.forIn_nil]
  refine wpAny_bind (wpAny_bind (wpAny_holding ?_)); show wpAny _ _ (Builtin.SmallTypes.nextOf (.ref i1) >>= _) _ _ ⟨g0, g, d, tk0, os⟩
  by_cases l1 : i < n1
  · refine wpAny_bind (D1.item i _ _ _ l1 (D1.over st1 hs0 S.zf1) fun x1 p1 tk1 hx1 sn1 hp1 => wpAny_pure ?_)
    replace hp1 : Heap.SameBut i1 g0 p1 := hp1
    have hi2 : i = n2 := by omega
    refine wpAny_pure ?_
    refine wpAny_bind (wpAny_bind (wpAny_holding ?_)); show wpAny _ _ (Builtin.SmallTypes.nextOf (.ref i2) >>= _) _ _ ⟨p1, g, d, tk1, os⟩
    refine wpAny_bind (D2.done ⟨p1, g, d, tk1, os⟩ _ _ (by rw [← hi2]; exact D2.over (D2.over st2 hs0 S.zf2) hp1 S.sep1_2) fun q e hq he => ?_)
    exact hE q tk1 e (fun c o c0 c1 c2 x => hq _ _ c2 (hp1.extBut _ _ c1 (hs0.extBut _ _ c0 x))) he
  · have hi1 : i = n1 := by omega
    refine wpAny_bind (D1.done ⟨g0, g, d, tk0, os⟩ _ _ (by rw [← hi1]; exact D1.over st1 hs0 S.zf1) fun q e hq he => ?_)
    exact hE q tk0 e (fun c o c0 c1 c2 x => hq _ _ c1 (hs0.extBut _ _ c0 x)) he
end
end XL
namespace XL
open PySem PyProof.Rows
/-- the zip between two nexts: nothing given out yet, or the last pair is held -/
def ZNow (h : Heap) (z TI TO L : Addr) : Prop :=
  (IsZip h z TI TO .none ∧ ∃ a1 a2, IsTupOf2 h TO a1 a2) ∨ ∃ T f oT, IsZipHeld h z TI TO T f ∧ h.get? T = some oT ∧ T ≠ z ∧ T ≠ L
theorem ZNow.typ {s : Shared} {z TI TO L : Addr} (h : ZNow s.heap z TI TO L) : s.TypeIs (.ref z) "zip" := by
  rcases h with ⟨h, _⟩ | ⟨T, f, oT, h, _⟩
  · exact ⟨_, h, rfl⟩
  · exact ⟨_, h, rfl⟩
theorem ZNow.lt {h : Heap} {z TI TO L : Addr} (q : ZNow h z TI TO L) : z < h.objs.size := by
  rcases q with ⟨h, _⟩ | ⟨T, f, oT, h, _⟩
  · exact Heap.lt_size h
  · exact Heap.lt_size h
section
variable {prog : Program} {w : World} {A : Around} {E : Value → Shared → Prop} {s : Shared} {z TI TO L i1 i2 : Addr}
variable {fp1 fp2 : List Addr} {n1 n2 i : Nat} {P1 P2 : Nat → Value → Prop} {St1 St2 : Nat → Heap → Prop}
theorem next_item {Q : Option Value → Shared → Prop} (S : ZipSep2 z TI TO i1 i2 fp1 fp2)
    (D1 : Draws prog w A.in1 i1 fp1 n1 P1 St1) (D2 : Draws prog w A.in1 i2 fp2 n2 P2 St2)
    (hz : ZNow s.heap z TI TO L) (hTI : IsTupOf2 s.heap TI (.ref i1) (.ref i2)) (hL : L < s.heap.objs.size)
    (st1 : St1 i s.heap) (st2 : St2 i s.heap) (l1 : i < n1) (l2 : i < n2)
    (hQ : ∀ x1 x2 h' tk, P1 i x1 → P2 i x2 → ZNow h' z TI TO L → St1 (i + 1) h' → St2 (i + 1) h' →
      IsTupOf2 h' s.heap.objs.size x1 x2 → h'.objs.size = s.heap.objs.size + 1 →
      (∀ c o, c ≠ z → c ≠ TO → c ≠ i1 → c ≠ i2 → s.heap.get? c = some o → h'.get? c = some o) →
      Q (some (.ref s.heap.objs.size)) { s with heap := h', toks := tk }) :
    wpAny (model prog w) A (pyNext (.ref z)) Q E s := by
  have hTy := hz.typ
  have zl : z < s.heap.objs.size := hz.lt
  have zne : s.heap.objs.size ≠ z := Nat.ne_of_gt zl
  have lne : s.heap.objs.size ≠ L := Nat.ne_of_gt hL
  rcases hz with ⟨hz, a1, a2, hTO⟩ | ⟨T, f, oT, hz, hT, hTz, hTL⟩
  · refine wpAny_pyNext_zipD2_item S D1 D2 hz hTI hTO st1 st2 l1 l2 fun x1 x2 h' tk y1 y2 b1 b2 d1 d2 b5 b6 b7 => ?_
    exact hQ x1 x2 h' tk y1 y2 (.inr ⟨s.heap.objs.size, false, _, b1, b5, zne, lne⟩) d1 d2 b5 b6 b7
  · unfold pyNext
    refine wpAny_bind (wpAny_attempt (wpAny_callSpecial?_slot (name := Str.ofString "__next__") hTy F.slot_zip_next
      (wpAny_call_entry F.slot_zip_next hTy F.entry_zip_next (held_item S D1 D2 hz hT hTI st1 st2 l1 l2
        fun x1 x2 h' tk y1 y2 b1 d1 d2 b5 b6 b7 => wpAny_pure ?_) (F.args_zip_next_1 _))))
    have hT' : ∃ o, h'.get? T = some o := by
      by_cases c1 : T = i1
      · rw [c1]; exact D1.live _ _ d1
      · by_cases c2 : T = i2
        · rw [c2]; exact D2.live _ _ d2
        · exact ⟨_, b7 T oT hTz c1 c2 hT⟩
    obtain ⟨o', hT'⟩ := hT'
    exact hQ x1 x2 h' tk y1 y2 (.inr ⟨T, true, o', b1, hT', hTz, hTL⟩) d1 d2 b5 b6 fun c o c0 _ c1 c2 e => b7 c o c0 c1 c2 e
theorem next_end {Q : Option Value → Shared → Prop} (S : ZipSep2 z TI TO i1 i2 fp1 fp2)
    (D1 : Draws prog w A.in1 i1 fp1 n1 P1 St1) (D2 : Draws prog w A.in1 i2 fp2 n2 P2 St2)
    (hz : ZNow s.heap z TI TO L) (hTI : IsTupOf2 s.heap TI (.ref i1) (.ref i2))
    (st1 : St1 i s.heap) (st2 : St2 i s.heap) (e1 : i ≤ n1) (e2 : i ≤ n2) (hend : i = n1 ∨ i = n2)
    (hQ : ∀ h' tk, (∀ c o, c ≠ z → c ≠ TO → c ≠ i1 → c ≠ i2 → s.heap.get? c = some o → h'.get? c = some o) →
      Q none { s with heap := h', toks := tk }) :
    wpAny (model prog w) A (pyNext (.ref z)) Q E s := by
  have hTy := hz.typ
  rcases hz with ⟨hz, a1, a2, hTO⟩ | ⟨T, f, oT, hz, hT, hTz, hTL⟩
  · exact wpAny_pyNext_zipD2_end S D1 D2 hz hTI hTO st1 st2 e1 e2 hend hQ
  · unfold pyNext
    refine wpAny_bind (wpAny_attempt (wpAny_callSpecial?_slot (name := Str.ofString "__next__") hTy F.slot_zip_next
      (wpAny_call_entry F.slot_zip_next hTy F.entry_zip_next (held_end S D1 D2 hz hT hTI st1 st2 e1 e2 hend fun h' tk e hk he => ?_) (F.args_zip_next_1 _))))
    obtain ⟨o, ho, hc⟩ := he
    refine wpAny_bind (wpAny_isInstance (T := "StopIteration") (b := true) ⟨o, ho, hc⟩ isSubtype_stop ?_)
    exact wpAny_pure (hQ _ _ fun c o c0 _ c1 c2 e => hk c o c0 c1 c2 e)
end

/-- the pairs laid so far: at Ts, new, apart from the zip's own cells and the list -/
structure Laid (N L : Nat) (P1 P2 : Nat → Value → Prop) (cells : List Addr) (h : Heap) (Ts : List Addr) : Prop where
  nd : Ts.Nodup
  at_ : ∀ j T, Ts[j]? = some T → N ≤ T ∧ T < h.objs.size ∧ T ≠ L ∧ T ∉ cells ∧ ∃ x y, P1 j x ∧ P2 j y ∧ IsTupOf2 h T x y
theorem Laid.nil {N L : Nat} {P1 P2 : Nat → Value → Prop} {cells : List Addr} {h : Heap} : Laid N L P1 P2 cells h [] := ⟨List.nodup_nil, fun j T e => by simp at e⟩
theorem Laid.over {N L : Nat} {P1 P2 : Nat → Value → Prop} {cells : List Addr} {h h' : Heap} {Ts : List Addr} (q : Laid N L P1 P2 cells h Ts)
    (hs : h.objs.size ≤ h'.objs.size) (hk : ∀ c o, c ∉ cells → c ≠ L → h.get? c = some o → h'.get? c = some o) : Laid N L P1 P2 cells h' Ts :=
  ⟨q.nd, fun j T e => by
    obtain ⟨a, b, c, d, x, y, px, py, t⟩ := q.at_ j T e
    exact ⟨a, Nat.lt_of_lt_of_le b hs, c, d, x, y, px, py, hk _ _ d c t⟩⟩
theorem Laid.push {N L : Nat} {P1 P2 : Nat → Value → Prop} {cells : List Addr} {h h' : Heap} {Ts : List Addr} {x y : Value} (q : Laid N L P1 P2 cells h Ts)
    (hs : h'.objs.size = h.objs.size + 1) (hk : ∀ c o, c ∉ cells → c ≠ L → h.get? c = some o → h'.get? c = some o)
    (hN : N ≤ h.objs.size) (hL : L < h.objs.size) (hc : ∀ c ∈ cells, c < h.objs.size) (px : P1 Ts.length x) (py : P2 Ts.length y) (t : IsTupOf2 h' h.objs.size x y) :
    Laid N L P1 P2 cells h' (Ts ++ [h.objs.size]) := by
  have q' := q.over (h' := h') (by omega) hk
  refine ⟨?_, fun j T e => ?_⟩
  · rw [List.nodup_append]
    refine ⟨q.nd, by simp, fun a ha b hb e => ?_⟩
    simp at hb
    obtain ⟨j, hj⟩ := List.getElem?_of_mem ha
    have := (q.at_ j a hj).2.1
    rw [e, hb] at this
    exact Nat.lt_irrefl _ this
  · by_cases hj : j < Ts.length
    · rw [List.getElem?_append_left hj] at e
      exact q'.at_ j T e
    · rw [List.getElem?_append_right (by omega)] at e
      have hj0 : j - Ts.length = 0 := by
        rcases Nat.eq_zero_or_pos (j - Ts.length) with z | z
        · exact z
        · rw [List.getElem?_eq_none (by simp; omega)] at e
          cases e
      rw [hj0] at e
      have e' : h.objs.size = T := by simpa using e
      subst e'
      have ej : j = Ts.length := by omega
      refine ⟨hN, by rw [hs]; exact Nat.lt_succ_self _, Nat.ne_of_gt hL, fun hm => Nat.lt_irrefl _ (hc _ hm), x, y, ?_, ?_, t⟩
      · rw [ej]; exact px
      · rw [ej]; exact py
section
variable {prog : Program} {w : World} {A : Around} {R : Result → Shared → Prop} {z TI TO i1 i2 : Addr} {N L : Nat}
variable {fp1 fp2 : List Addr} {n1 n2 n : Nat} {P1 P2 : Nat → Value → Prop} {St1 St2 : Nat → Heap → Prop}
theorem loop_zip (S : ZipSep2 z TI TO i1 i2 fp1 fp2) (D1 : Draws prog w A.in1.in1 i1 fp1 n1 P1 St1) (D2 : Draws prog w A.in1.in1 i2 fp2 n2 P2 St2)
    (hn : n = min n1 n2) (hsz : n ≤ sizeLine) (res : Value) (hL1 : L ∉ fp1) (hL2 : L ∉ fp2) (hLz : L ≠ z) (hLTI : L ≠ TI) (hLTO : L ≠ TO) (hNz : N ≤ z) (hNT : N ≤ TO) (hN1 : N ≤ i1) (hN2 : N ≤ i2) (hNL : N ≤ L) :
    ∀ (k : Nat) (s : Shared) (Ts : List Addr) (c : Nat), n - Ts.length = k → Ts.length ≤ n → ZNow s.heap z TI TO L → IsTupOf2 s.heap TI (.ref i1) (.ref i2) → TO < s.heap.objs.size →
      St1 Ts.length s.heap → St2 Ts.length s.heap → N ≤ s.heap.objs.size → s.heap.get? L = some { cls := .type "list", dict := none, data := .seq (Ts.map Value.ref).toArray c, slots := #[] } →
      Laid N L P1 P2 [z, TO, i1, i2] s.heap Ts →
      (∀ h' tk Ts' c', Ts'.length = n → (∀ b o, b < N → s.heap.get? b = some o → h'.get? b = some o) →
        h'.get? L = some { cls := .type "list", dict := none, data := .seq (Ts'.map Value.ref).toArray c', slots := #[] } → Laid N L P1 P2 [z, TO, i1, i2] h' Ts' →
        R (.ok (.ret res)) { s with heap := h', toks := tk }) →
      codeAny (model prog w) A (.builtin "list.extend.loop" ⟨[.ref L, .ref z, res], []⟩) R s := by
  intro k
  have S' := S
  induction k with
  | zero =>
    intro s Ts c hk hle hz hTI hTO st1 st2 hN hLs hld hR
    have hin : Ts.length = n := by omega
    refine codeAny_builtin F.entry_extend_loop ?_
    rw [Around.under_plainId F.plain_extend_loop _]
    show wpAny _ A.in1 (pyNext (.ref z) >>= _) _ _ s
    have hend : Ts.length = n1 ∨ Ts.length = n2 := by omega
    refine wpAny_bind (next_end S D1 D2 hz hTI st1 st2 (by omega) (by omega) hend fun h' tk hk' => ?_)
    have ne : ∀ c, c ∉ [z, TO, i1, i2] → c ≠ z ∧ c ≠ TO ∧ c ≠ i1 ∧ c ≠ i2 := fun c hc => by simpa using hc
    have Li : L ≠ i1 ∧ L ≠ i2 := ⟨fun e => hL1 (e ▸ S.mem1), fun e => hL2 (e ▸ S.mem2)⟩
    refine wpAny_pure (hR h' tk Ts c hin (fun b o hb e => ?_) (hk' L _ hLz hLTO Li.1 Li.2 hLs) ?_)
    · exact hk' b o (Nat.ne_of_lt (Nat.lt_of_lt_of_le hb hNz)) (Nat.ne_of_lt (Nat.lt_of_lt_of_le hb hNT)) (Nat.ne_of_lt (Nat.lt_of_lt_of_le hb hN1)) (Nat.ne_of_lt (Nat.lt_of_lt_of_le hb hN2)) e
    · refine ⟨hld.nd, fun j T e => ?_⟩
      obtain ⟨a, b, c, d, x, y, px, py, t⟩ := hld.at_ j T e
      have t' : IsTupOf2 h' T x y := hk' _ _ (ne T d).1 (ne T d).2.1 (ne T d).2.2.1 (ne T d).2.2.2 t
      exact ⟨a, Heap.lt_size t', c, d, x, y, px, py, t'⟩
  | succ k ih =>
    intro s Ts c hk hle hz hTI hTO st1 st2 hN hLs hld hR
    have hlt1 : Ts.length < n1 := by omega
    have hlt2 : Ts.length < n2 := by omega
    refine codeAny_builtin F.entry_extend_loop ?_
    rw [Around.under_plainId F.plain_extend_loop _]
    show wpAny _ A.in1 (pyNext (.ref z) >>= _) _ _ s
    have hLlt : L < s.heap.objs.size := Heap.lt_size hLs
    refine wpAny_bind (next_item S D1 D2 hz hTI hLlt st1 st2 hlt1 hlt2 fun x1 x2 h' tk px py hz' d1 d2 ht hsz' hk' => ?_)
    have ne : ∀ c, c ∉ [z, TO, i1, i2] → c ≠ z ∧ c ≠ TO ∧ c ≠ i1 ∧ c ≠ i2 := fun c hc => by simpa using hc
    have Li : L ≠ i1 ∧ L ≠ i2 := ⟨fun e => hL1 (e ▸ S.mem1), fun e => hL2 (e ▸ S.mem2)⟩
    have hL' := hk' L _ hLz hLTO Li.1 Li.2 hLs
    have hTI' : IsTupOf2 h' TI (.ref i1) (.ref i2) := hk' TI _ S.TIz S.TITO S.TIi1 S.TIi2 hTI
    have hcells : ∀ b ∈ [z, TO, i1, i2], b < s.heap.objs.size := fun b hb => by
      have hb' : b = z ∨ b = TO ∨ b = i1 ∨ b = i2 := by simpa using hb
      rcases hb' with e | e | e | e
      · rw [e]; exact hz.lt
      · rw [e]; exact hTO
      · rw [e]; obtain ⟨o, q⟩ := D1.live _ _ st1; exact Heap.lt_size q
      · rw [e]; obtain ⟨o, q⟩ := D2.live _ _ st2; exact Heap.lt_size q
    have hld' : Laid N L P1 P2 [z, TO, i1, i2] h' (Ts ++ [s.heap.objs.size]) :=
      hld.push hsz' (fun c o hc _ e => hk' c o (ne c hc).1 (ne c hc).2.1 (ne c hc).2.2.1 (ne c hc).2.2.2 e) hN hLlt hcells px py ht
    show wpAny _ A.in1 (updateSeq L (·.push (Value.ref s.heap.objs.size)) >>= _) _ _ _
    refine wpAny_bind ?_
    have hlen : (Ts ++ [s.heap.objs.size]).length = Ts.length + 1 := by simp
    have hzs : ((Ts.map Value.ref).toArray : Array Value).size = Ts.length := by simp
    refine wpAny_updateSeq hL' rfl (wpAny_pure ⟨plainId_quiet F.plain_extend_loop _, ?_⟩) (by rw [hzs]; omega)
      (by show ((Ts.map Value.ref).toArray.push (Value.ref s.heap.objs.size)).size ≤ sizeLine + 1; rw [Array.size_push, hzs]; omega)
    have hself := Heap.get?_update_self (Obj.mapSeq (·.push (Value.ref s.heap.objs.size))) hL' rfl
    have hoth : ∀ b o, b ≠ L → h'.get? b = some o → (h'.update L (Obj.mapSeq (·.push (Value.ref s.heap.objs.size)))).get? b = some o :=
      fun b o hb e => (Heap.get?_update_other _ _ (Ne.symm hb)).trans e
    have hus : (h'.update L (Obj.mapSeq (·.push (Value.ref s.heap.objs.size)))).objs.size = h'.objs.size := (Heap.SameBut.update ..).1
    obtain ⟨c3, hc3⟩ : ∃ c3, (h'.update L (Obj.mapSeq (·.push (Value.ref s.heap.objs.size)))).get? L = some { cls := .type "list", dict := none, data := .seq ((Ts ++ [s.heap.objs.size]).map Value.ref).toArray c3, slots := #[] } := by
      have eA : ((Ts ++ [s.heap.objs.size]).map Value.ref).toArray = (Ts.map Value.ref).toArray.push (Value.ref s.heap.objs.size) := by simp
      rw [eA, hself]; exact ⟨_, rfl⟩
    refine ih { s with heap := h'.update L (Obj.mapSeq (·.push (Value.ref s.heap.objs.size))), toks := tk } (Ts ++ [s.heap.objs.size]) c3 (by rw [hlen]; omega) (by rw [hlen]; omega) ?_ (hoth TI _ (Ne.symm hLTI) hTI') ?_ ?_ ?_ ?_ ?_ ?_ fun h2 tk2 Ts2 c2 hl2 hk2 hL2' hld2 => ?_
    · rcases hz' with ⟨q, a1, a2, q2⟩ | ⟨T, f, oT, q, q2, q3, q4⟩
      · exact .inl ⟨hoth z _ (Ne.symm hLz) q, a1, a2, hoth TO _ (Ne.symm hLTO) q2⟩
      · exact .inr ⟨T, f, oT, hoth z _ (Ne.symm hLz) q, hoth T _ q4 q2, q3, q4⟩
    · show TO < (h'.update L _).objs.size
      rw [hus, hsz']; exact Nat.lt_succ_of_lt hTO
    · rw [hlen]; exact D1.frame _ _ _ d1 fun b hb o e => hoth b o (fun q => hL1 (q ▸ hb)) e
    · rw [hlen]; exact D2.frame _ _ _ d2 fun b hb o e => hoth b o (fun q => hL2 (q ▸ hb)) e
    · show N ≤ (h'.update L _).objs.size
      rw [hus, hsz']; exact Nat.le_succ_of_le hN
    · exact hc3
    · exact hld'.over (by rw [hus]; exact Nat.le_refl _) fun b o _ hb e => hoth b o hb e
    · refine hR h2 tk2 Ts2 c2 hl2 (fun b o hb e => hk2 b o hb (hoth b o (Nat.ne_of_lt (Nat.lt_of_lt_of_le hb hNL)) ?_)) hL2' hld2
      exact hk' b o (Nat.ne_of_lt (Nat.lt_of_lt_of_le hb hNz)) (Nat.ne_of_lt (Nat.lt_of_lt_of_le hb hNT)) (Nat.ne_of_lt (Nat.lt_of_lt_of_le hb hN1)) (Nat.ne_of_lt (Nat.lt_of_lt_of_le hb hN2)) e
theorem zip_no_len : typeLookup (.type "zip") "__len__" = pure none := am_miss_of_fast (by decide +kernel)
theorem zip_no_hint : typeLookup (.type "zip") "__length_hint__" = pure none := am_miss_of_fast (by decide +kernel)
end
end XL
namespace XL
open PySem PyProof.Rows
section
variable {prog : Program} {w : World} {A : Around} {E : Value → Shared → Prop} {s : Shared}
/-- list(zip(v1, v2)): a new list of new pairs -/
theorem call_list_zip {Q : Value → Shared → Prop} {v1 v2 : Value} {o1 o2 : Obj} {H1 H2 : Heap → Prop} {fp1 fp2 : List Addr} {n1 n2 n : Nat} {P1 P2 : Nat → Value → Prop} {St1 St2 : Nat → Heap → Prop}
    (B1 : Begins v1 o1 H1) (B2 : Begins v2 o2 H2) (h1 : H1 s.heap) (h2 : H2 s.heap) (hf1 : ∀ b ∈ fp1, b < s.heap.objs.size) (hf2 : ∀ b ∈ fp2, b < s.heap.objs.size)
    (D1 : ∀ A', A'.handled = none → Draws prog w A' s.heap.objs.size (s.heap.objs.size :: fp1) n1 P1 St1)
    (D2 : ∀ A', A'.handled = none → Draws prog w A' (s.heap.objs.size + 1) ((s.heap.objs.size + 1) :: fp2) n2 P2 St2)
    (b1 : ∀ h', (∀ b o, s.heap.get? b = some o → h'.get? b = some o) → h'.get? s.heap.objs.size = some o1 → St1 0 h')
    (b2 : ∀ h', (∀ b o, s.heap.get? b = some o → h'.get? b = some o) → h'.get? (s.heap.objs.size + 1) = some o2 → St2 0 h')
    (hA : A.handled = none) (hn : n = min n1 n2) (hz : n ≤ sizeLine)
    (hQ : ∀ (h' : Heap) (tk : Nat) (Ts : List Addr) (c : Nat) (L : Addr), Ts.length = n → (∀ b o, s.heap.get? b = some o → h'.get? b = some o) → s.heap.objs.size ≤ L →
      h'.get? L = some { cls := .type "list", dict := none, data := .seq (Ts.map Value.ref).toArray c, slots := #[] } → Ts.Nodup →
      (∀ j T, Ts[j]? = some T → s.heap.objs.size ≤ T ∧ T ≠ L ∧ ∃ x y, P1 j x ∧ P2 j y ∧ IsTupOf2 h' T x y) → Q (.ref L) { s with heap := h', toks := tk }) :
    wpAny (model prog w) A (call (.type "zip") [v1, v2]) (fun v s1 => wpAny (model prog w) A (call (.type "list") [v]) Q E s1) E s := by
  refine zip_begins2 B1 B2 h1 h2 fun g hz0 hTI hTO e1 e2 hsz hk => ?_
  have hgN : g.objs.size = s.heap.objs.size + 5 := hsz
  generalize hNN : s.heap.objs.size = N at *
  refine callType_codes (Q₁ := fun obj s₁ => obj = .ref g.objs.size ∧ s₁ = { s with heap := g.push { cls := .type "list", data := .seq #[] } }) F.called_list (F.typeCall_list_1 _) F.entry_list_init
    (code_list_new _ ⟨rfl, rfl⟩) fun obj s₁ q₁ => ?_
  obtain ⟨rfl, rfl⟩ := q₁
  have hS : (g.push { cls := .type "list", data := .seq #[] }).get? g.objs.size = some { cls := .type "list", data := .seq #[] } := Heap.get?_push_size _ rfl
  refine ⟨⟨_, hS, rfl⟩, F.args_list_init_2 _ _, ?_⟩
  have SS := zip_sep2 hf1 hf2
  have kp : ∀ b o, g.get? b = some o → (g.push { cls := .type "list", data := .seq #[] }).get? b = some o := fun b o e => Heap.get?_push_of_some _ e
  generalize hG : g.push { cls := .type "list", data := .seq #[] } = G at *
  have hGz : G.objs.size = g.objs.size + 1 := by rw [← hG]; exact Heap.size_push ..
  have hLv : g.objs.size = N + 5 := hgN
  generalize hLL : g.objs.size = L at *
  show wpAny _ _ (do let old ← Builtin.List.listItems (.ref L); Builtin.List.listUpdate (.ref L) (fun _ => #[]); letGo old.toList.reverse; Builtin.List.listExtendWith (.ref L) (.ref (N + 4)) .none) _ _ _
  refine wpAny_bind ?_
  unfold Builtin.List.listItems
  refine wpAny_bind (wpAny_seqItems hS rfl (wpAny_pure ?_))
  show wpAny _ _ (updateSeq L (fun _ => #[]) >>= fun _ => letGo (#[] : Array Value).toList.reverse >>= fun _ => Builtin.List.listExtendWith (.ref L) (.ref (N + 4)) .none) _ _ _
  refine wpAny_bind (wpAny_updateSeq hS rfl ?_)
  have hS₂ := Heap.get?_update_self (Obj.mapSeq (fun _ => (#[] : Array Value))) hS rfl
  have oth : ∀ b o, b ≠ L → G.get? b = some o → (G.update L (Obj.mapSeq (fun _ => (#[] : Array Value)))).get? b = some o :=
    fun b o hb e => (Heap.get?_update_other _ _ (Ne.symm hb)).trans e
  have hG2 : (G.update L (Obj.mapSeq (fun _ => (#[] : Array Value)))).objs.size = G.objs.size := (Heap.SameBut.update ..).1
  generalize hGG : G.update L (Obj.mapSeq (fun _ => (#[] : Array Value))) = G2 at *
  refine wpAny_bind (wpAny_letGo ?_)
  have hNL : N ≤ L := by omega
  have nL : ∀ j : Nat, j < 5 → N + j ≠ L := fun j hj => by omega
  have hz2 : IsZip G2 (N + 4) (N + 2) (N + 3) .none := oth _ _ (nL 4 (by omega)) (kp _ _ hz0)
  have hT2 : IsTupOf2 G2 (N + 2) (.ref N) (.ref (N + 1)) := oth _ _ (nL 2 (by omega)) (kp _ _ hTI)
  have hO2 : IsTupOf2 G2 (N + 3) .none .none := oth _ _ (nL 3 (by omega)) (kp _ _ hTO)
  unfold Builtin.List.listExtendWith
  have hTy : ({ s with heap := G2 } : Shared).TypeIs (.ref (N + 4)) "zip" := ⟨_, hz2, rfl⟩
  refine wpAny_bind (wpAny_typeOf hTy ?_)
  have q1 : Builtin.List.listSameRef (.ref L) (.ref (N + 4)) = false := by simp only [Builtin.List.listSameRef]; exact beq_eq_false_iff_ne.mpr (nL 4 (by omega)).symm
  have q2 : (Value.type "zip" == Value.type "list") = false := by decide
  have q3 : (Value.type "zip" == Value.type "tuple") = false := by decide
  simp only [q1, q2, q3, Bool.or_false, Bool.false_eq_true, if_false]
  refine wpAny_bind (wpAny_pyIter_zip hz2 ?_)
  refine wpAny_bind (wpAny_holding ?_)
  unfold Builtin.List.listLengthHint
  refine wpAny_bind (wpAny_specialOf hTy zip_no_len ?_)
  show wpAny _ _ (specialOf (Value.ref (N + 4)) (Str.ofString "__length_hint__") >>= _) _ _ _
  refine wpAny_bind (wpAny_specialOf hTy zip_no_hint ?_)
  refine wpAny_pure ?_
  show wpAny _ _ (rule "list.extend.makes-room" >>= fun _ => Builtin.List.listTouch (.ref L) >>= fun _ => again (.builtin "list.extend.loop" ⟨[.ref L, .ref (N + 4), .none], []⟩)) _ _ _
  refine wpAny_bind (wpAny_rule ?_)
  refine wpAny_bind ?_
  show wpAny _ _ (updateSeq L (·.push .none) >>= fun _ => updateSeq L (·.pop)) _ _ _
  refine wpAny_bind (wpAny_updateSeq hS₂ rfl ?_)
  have hS₃ := Heap.get?_update_self (Obj.mapSeq (·.push Value.none)) hS₂ rfl
  refine wpAny_updateSeq (hz := by seq_fits) hS₃ rfl ?_
  have hS₄ := Heap.get?_update_self (Obj.mapSeq (·.pop)) hS₃ rfl
  have oth2 : ∀ b o, b ≠ L → G2.get? b = some o → ((G2.update L (Obj.mapSeq (·.push Value.none))).update L (Obj.mapSeq (·.pop))).get? b = some o :=
    fun b o hb e => (Heap.get?_update_other _ _ (Ne.symm hb)).trans ((Heap.get?_update_other _ _ (Ne.symm hb)).trans e)
  have hG3 : ((G2.update L (Obj.mapSeq (·.push Value.none))).update L (Obj.mapSeq (·.pop))).objs.size = G2.objs.size := ((Heap.SameBut.update ..).1).trans ((Heap.SameBut.update ..).1)
  generalize hGGG : (G2.update L (Obj.mapSeq (·.push Value.none))).update L (Obj.mapSeq (·.pop)) = G3 at *
  have old : ∀ b o, s.heap.get? b = some o → G3.get? b = some o := fun b o e => by
    have hb : b < N := by rw [← hNN]; exact Heap.lt_size e
    have hb' : b ≠ L := Nat.ne_of_lt (Nat.lt_of_lt_of_le hb hNL)
    exact oth2 b o hb' (oth b o hb' (kp b o (hk b o e)))
  have at1 : G3.get? N = some o1 := oth2 _ _ (nL 0 (by omega)) (oth _ _ (nL 0 (by omega)) (kp _ _ e1))
  have at2 : G3.get? (N + 1) = some o2 := oth2 _ _ (nL 1 (by omega)) (oth _ _ (nL 1 (by omega)) (kp _ _ e2))
  have hLn1 : L ∉ N :: fp1 := fun hm => by
    rcases List.mem_cons.mp hm with e | hm
    · exact nL 0 (by omega) e.symm
    · exact Nat.lt_irrefl _ (Nat.lt_of_lt_of_le (hf1 _ hm) hNL)
  have hLn2 : L ∉ (N + 1) :: fp2 := fun hm => by
    rcases List.mem_cons.mp hm with e | hm
    · exact nL 1 (by omega) e.symm
    · exact Nat.lt_irrefl _ (Nat.lt_of_lt_of_le (hf2 _ hm) hNL)
  refine wpAny_pure ⟨plainId_quiet F.plain_extend_loop _, loop_zip (A := A.in1) (N := N) (L := L) SS (D1 _ (show A.in1.in1.in1.handled = none from hA)) (D2 _ (show A.in1.in1.in1.handled = none from hA)) hn hz .none hLn1 hLn2 (nL 4 (by omega)).symm (nL 2 (by omega)).symm (nL 3 (by omega)).symm (Nat.le_add_right _ _) (Nat.le_add_right _ _) (Nat.le_refl _) (Nat.le_add_right _ _) (by omega)
    n _ [] _ (by simp) (Nat.zero_le _) (.inl ⟨oth2 _ _ (nL 4 (by omega)) hz2, _, _, oth2 _ _ (nL 3 (by omega)) hO2⟩) (oth2 _ _ (nL 2 (by omega)) hT2) ?_ (b1 G3 old at1) (b2 G3 old at2) ?_ hS₄ .nil fun h' tk Ts c hl hk' hL' hld => ?_⟩
  · show (N + 3 : Nat) < G3.objs.size
    rw [hG3, hG2, hGz]; omega
  · show N ≤ G3.objs.size
    rw [hG3, hG2, hGz]; omega
  · refine ⟨rfl, hQ h' tk Ts c L hl (fun b o e => hk' b o (by rw [← hNN]; exact Heap.lt_size e) (old b o e)) (by omega) hL' hld.nd fun j T e => ?_⟩
    obtain ⟨a, _, b, _, c⟩ := hld.at_ j T e
    exact ⟨a, b, c⟩
end
end XL
namespace XL
open PySem PySem.Spec PyProof.Rows L2
/-- a list or a tuple -/
def Sq2 (K : PySem.W.Frag) (H : Hp) (a : Addr) (xs : List V) : Prop := SqL K H a xs ∨ SqT K H a xs
theorem Same.tup {K : PySem.W.Frag} {H H' : Hp} {a : Addr} {xs : List V} (e : Same H H') (h : SqT K H a xs) : SqT K H' a xs := by
  rcases h with (h | ⟨o, h⟩) | h
  · exact .inl (.inl (e _ _ h))
  · exact .inl (.inr ⟨o, e _ _ h⟩)
  · exact .inr h
theorem Same.sq2 {K : PySem.W.Frag} {H H' : Hp} {a : Addr} {xs : List V} (e : Same H H') (h : Sq2 K H a xs) : Sq2 K H' a xs := h.imp (fun q => e.seq q) (fun q => Same.tup e q)
theorem same_new {H : Hp} {p : Addr} {o : HO} (h : H p = none) : Same H (upd H p o) := fun b x e => by
  rw [upd_ne (ne_of_none e h)]
  exact e
section
variable {X : Cx} {pins : List (Addr × Obj)} {σ : L2.St} {H : Hp} {s : Shared} {a : Addr} {xs : List V}
theorem seq_draws (I : Inv X pins σ H s) (h : Sq2 X.K H a xs) : ∃ (its : List Value) (o : Obj) (B : Heap → Prop) (fp : List Addr), Vals xs its ∧ xs.length ≤ sizeLine ∧ Begins (.ref a) o B ∧ B s.heap ∧
    (∀ b ∈ fp, b < s.heap.objs.size) ∧ ∀ it, s.heap.objs.size ≤ it → ∃ St : Nat → Heap → Prop, (∀ A' : Around, A'.handled = none → Draws X.prog X.w A' it (it :: fp) its.length (fun i v => its[i]? = some v) St) ∧
      ∀ h' : Heap, (∀ b o, s.heap.get? b = some o → h'.get? b = some o) → h'.get? it = some o → St 0 h' := by
  rcases h with h | h
  · obtain ⟨its, rv, p, hz⟩ := I.list h
    have la : a < s.heap.objs.size := p.lt
    refine ⟨its, _, _, [a], rv, hz, begins_list a its.toArray, p.isList, fun b hb => by rw [List.mem_singleton.mp hb]; exact la, fun it hit => ?_⟩
    have hne : a ≠ it := Nat.ne_of_lt (Nat.lt_of_lt_of_le la hit)
    refine ⟨fun i h => h.IsListIter it a i ∧ h.IsList a its.toArray, fun A' hA => ?_, fun h' hk e => ?_⟩
    · have D := Draws.list (prog := X.prog) (w := X.w) hA it a hne its.toArray
      simpa using D
    · exact ⟨⟨_, e, rfl, rfl⟩, p.isList.at fun o q => hk a o q⟩
  · obtain ⟨its, rv, p, hz⟩ := I.tuple h
    have la : a < s.heap.objs.size := by
      obtain ⟨o, e, _⟩ := p
      exact Heap.lt_size e
    have p' : s.heap.IsTuple a its.toArray := p
    refine ⟨its, _, _, [a], rv, hz, begins_tuple a its.toArray, p', fun b hb => by rw [List.mem_singleton.mp hb]; exact la, fun it hit => ?_⟩
    have hne : a ≠ it := Nat.ne_of_lt (Nat.lt_of_lt_of_le la hit)
    refine ⟨fun i h => h.IsTupleIter it a i ∧ h.IsTuple a its.toArray, fun A' hA => ?_, fun h' hk e => ?_⟩
    · have D := Draws.tuple (prog := X.prog) (w := X.w) hA it a hne its.toArray
      simpa using D
    · exact ⟨⟨_, e, rfl, rfl⟩, p'.at fun o q => hk a o q⟩
end
/-- pairs laid at Ts -/
def layP (H : Hp) : List Addr → List V → List V → Hp
  | T :: Ts, x :: xs, y :: ys => upd (layP H Ts xs ys) T (.tup [x, y])
  | _, _, _ => H
theorem layP_off (H : Hp) {c : Addr} : ∀ (Ts : List Addr) (xs ys : List V), c ∉ Ts → layP H Ts xs ys c = H c
  | [], xs, ys, _ => by cases xs <;> cases ys <;> rfl
  | T :: Ts, [], ys, _ => rfl
  | T :: Ts, _ :: _, [], _ => rfl
  | T :: Ts, x :: xs, y :: ys, h => by
    have h1 : c ≠ T := fun e => h (by rw [e]; exact List.mem_cons_self ..)
    show upd (layP H Ts xs ys) T _ c = H c
    rw [upd_ne h1]
    exact layP_off H Ts xs ys fun q => h (List.mem_cons_of_mem _ q)
theorem layP_at (H : Hp) : ∀ (Ts : List Addr) (xs ys : List V) (j : Nat) (T : Addr) (x y : V), Ts.Nodup → Ts[j]? = some T → xs[j]? = some x → ys[j]? = some y → layP H Ts xs ys T = some (.tup [x, y])
  | [], _, _, _, _, _, _, _, h, _, _ => by simp at h
  | T :: Ts, [], _, _, _, _, _, _, _, h, _ => by simp at h
  | T :: Ts, _ :: _, [], _, _, _, _, _, _, _, h => by simp at h
  | T :: Ts, x :: xs, y :: ys, 0, T', x', y', _, h, hx, hy => by
    have e1 : T = T' := Option.some.inj h
    have e2 : x = x' := Option.some.inj hx
    have e3 : y = y' := Option.some.inj hy
    subst e1 e2 e3
    exact upd_same
  | T :: Ts, x :: xs, y :: ys, j + 1, T', x', y', nd, h, hx, hy => by
    have h' : Ts[j]? = some T' := h
    have hne : T' ≠ T := fun e => (List.nodup_cons.mp nd).1 (by rw [← e]; exact List.mem_of_getElem? h')
    show upd (layP H Ts xs ys) T _ T' = _
    rw [upd_ne hne]
    exact layP_at H Ts xs ys j T' x' y' (List.nodup_cons.mp nd).2 h' hx hy
/-- list(zip(e, e2)) -/
def tLZ (K : PySem.W.Frag) (ta : TA) : TE := fun σ H Q => ta σ H fun vs H1 => ∃ a b xs ys, vs = [.ref a, .ref b] ∧ Sq2 K H1 a xs ∧ Sq2 K H1 b ys ∧
  ∀ (L : Addr) (Ts : List Addr) (H2 : Hp), Same H1 H2 → H1 L = none → H2 L = some (.lst (Ts.map V.ref)) → Ts.length = min xs.length ys.length →
    (∀ (j : Nat) (T : Addr), Ts[j]? = some T → ∃ x y, xs[j]? = some x ∧ ys[j]? = some y ∧ H2 T = some (.tup [x, y])) → Q (.ref L) H2
theorem pe_listZip {X : Cx} {e e2 : Expr} {ta : TA} {p p2 pos pos2 : Pos} (hc : X.calm = true) (hg : Gl X "list") (hm : X.mg "list" = none) (hg2 : Gl X "zip") (hm2 : X.mg "zip" = none) (ha : PA X [e, e2] ta)
    (hs : starEach [e, e2] X.env = (false, eval e X.env) :: starEach [e2] X.env := by rfl) (hpl : (backTo pos2 (starEach [e2] X.env)).any (·.1) = false := by rfl)
    (na : starEach [(Expr.Call (.Name "zip" p2) [e, e2] [] pos2)] X.env = (false, eval (.Call (.Name "zip" p2) [e, e2] [] pos2) X.env) :: starEach [] X.env := by rfl) :
    PE X (.Call (.Name "list" p) [.Call (.Name "zip" p2) [e, e2] [] pos2] [] pos) (tLZ X.K ta) := by
  refine ⟨fun pins s σ H Q I h => ?_⟩
  refine Call_ (ld_blt I hg hm boot_list (PyProof.Rows.callWith_type1 (args_cons ?_ na) na))
  obtain ⟨tk0, I0⟩ : ∃ t : Nat, Inv X pins σ H s := ⟨0, I⟩
  refine Call_ (ld_blt I hg2 hm2 PyProof.Rows.boot_zip (PyProof.Rows.callWith_type1 (thn (ha.run pos2 pins s σ H _ I h) fun us s1 ⟨vs, H1, I1, r1, q1⟩ => ?_) hs hpl))
  obtain ⟨a, b, xs, ys, ex, hx, hy, q⟩ := q1
  subst ex
  obtain ⟨u1, u2, rfl, r1, r2⟩ := vals2 r1
  cases (show u1 = Value.ref a from r1)
  cases (show u2 = Value.ref b from r2)
  obtain ⟨its, o1, B1, fp1, rv1, z1, b1, hb1, f1, d1⟩ := seq_draws I1 hx
  obtain ⟨its2, o2, B2, fp2, rv2, z2, b2, hb2, f2, d2⟩ := seq_draws I1 hy
  obtain ⟨St1, D1, s1'⟩ := d1 s1.heap.objs.size (Nat.le_refl _)
  obtain ⟨St2, D2, s2'⟩ := d2 (s1.heap.objs.size + 1) (Nat.le_succ _)
  have l1 := rv1.length
  have l2 := rv2.length
  refine thn (call_list_zip (n := min its.length its2.length) (Q := fun v s2 => ∃ v' H', Inv X pins σ H' s2 ∧ RelV v' v ∧ Q v' H') (E := X.xe) b1 b2 hb1 hb2 f1 f2 D1 D2 s1' s2' (I1.ok.hd hc) rfl (by omega) fun h' tk Ts c L hl hk hLn hL nd hT => ?_) fun v s2 hq => args_nil hq
  have hT' : ∀ (j : Nat) (T : Addr), Ts[j]? = some T → ∃ x y u v, xs[j]? = some x ∧ ys[j]? = some y ∧ RelV x u ∧ RelV y v ∧ s1.heap.objs.size ≤ T ∧ T ≠ L ∧ IsTupOf2 h' T u v := fun j T e => by
    obtain ⟨g1, g2, u, v, pu, pv, t⟩ := hT j T e
    have hj1 : j < xs.length := by
      rw [l1]; exact (List.getElem?_eq_some_iff.mp pu).1
    have hj2 : j < ys.length := by
      rw [l2]; exact (List.getElem?_eq_some_iff.mp pv).1
    obtain ⟨u', eu, ru⟩ := rv1.get (List.getElem?_eq_getElem hj1)
    obtain ⟨v', ev, rv⟩ := rv2.get (List.getElem?_eq_getElem hj2)
    rw [eu] at pu
    rw [ev] at pv
    cases pu
    cases pv
    exact ⟨_, _, _, _, List.getElem?_eq_getElem hj1, List.getElem?_eq_getElem hj2, ru, rv, g1, g2, t⟩
  have hLT : L ∉ Ts := fun hm => by
    obtain ⟨j, e⟩ := List.getElem?_of_mem hm
    obtain ⟨_, _, _, _, _, _, _, _, _, ne, _⟩ := hT' j L e
    exact ne rfl
  have nTs : ∀ c, c < s1.heap.objs.size → c ∉ Ts := fun c hc hm => by
    obtain ⟨j, e⟩ := List.getElem?_of_mem hm
    obtain ⟨_, _, _, _, _, _, _, _, g, _⟩ := hT' j c e
    exact Nat.lt_irrefl _ (Nat.lt_of_lt_of_le hc g)
  have fr : ∀ c, s1.heap.objs.size ≤ c → H1 c = none := fun c hc => I1.hok.fresh hc
  have old : ∀ c o, H1 c = some o → upd (layP H1 Ts xs ys) L (.lst (Ts.map V.ref)) c = some o := fun c o e => by
    have h1 : c ≠ L := fun z => by rw [z, fr L hLn] at e; cases e
    have h2 : c ∉ Ts := fun hm => by
      obtain ⟨j, e'⟩ := List.getElem?_of_mem hm
      obtain ⟨_, _, _, _, _, _, _, _, g, _⟩ := hT' j c e'
      rw [fr c g] at e; cases e
    rw [upd_ne h1, layP_off H1 Ts xs ys h2]; exact e
  have U : Un X.fs [] H1 (upd (layP H1 Ts xs ys) L (.lst (Ts.map V.ref))) s1.heap h' := {
    keep := fun b o e _ _ _ => hk b o e
    slot := fun b o e _ _ _ => ⟨o.slots, hk b o e⟩
    free := fun b o e n _ => by
      have lb := Heap.lt_size e
      rw [upd_ne (Nat.ne_of_lt (Nat.lt_of_lt_of_le lb hLn)), layP_off H1 Ts xs ys (nTs b lb)]; exact n
    there := fun b o e _ => ⟨o, hk b o e⟩
    tups := fun b xs e => old b _ e
    frzs := fun b o u e => old b _ e
    tbls := fun b ps e => ⟨#[], by rw [old b _ e]; simp⟩ }
  have OK : HOk X.prog X.w (upd (layP H1 Ts xs ys) L (.lst (Ts.map V.ref))) h' := fun b o e => by
    by_cases hb : b = L
    · subst hb
      rw [upd_same] at e
      cases e
      refine ⟨by rw [List.length_map, hl]; omega, Ts.map Value.ref, c, ?_, hL⟩
      clear hT hT' hLT nTs old U hL nd hl q
      induction Ts with
      | nil => exact .nil
      | cons T r ih => exact .cons rfl ih
    · rw [upd_ne hb] at e
      by_cases hbT : b ∈ Ts
      · obtain ⟨j, ej⟩ := List.getElem?_of_mem hbT
        obtain ⟨x, y, u, v, ex, ey, ru, rv, g1, g2, t⟩ := hT' j b ej
        rw [layP_at H1 Ts xs ys j b x y nd ej ex ey] at e
        cases e
        exact ⟨by show 2 ≤ sizeLine; decide, [u, v], .cons ru (.cons rv .nil), ⟨_, t, rfl, _, rfl⟩⟩
      · rw [layP_off H1 Ts xs ys hbT] at e
        exact (I1.hok b o e).stay (fun c v _ q => hk c v q) (fun c q => old c _ q) fun c xs q => old c _ q
  refine ⟨.ref L, _, I1.un (t' := tk) U OK, rfl, q L Ts _ (fun c o e => old c o e) (fr L hLn) upd_same (by rw [hl]; omega) fun j T e => ?_⟩
  obtain ⟨x, y, u, v, ex, ey, ru, rv, g1, g2, t⟩ := hT' j T e
  exact ⟨x, y, ex, ey, by rw [upd_ne g2, layP_at H1 Ts xs ys j T x y nd e ex ey]⟩
end XL
namespace XL
open PySem PySem.Spec PyProof.Rows L2
/-- a def that keeps its promise where no repr is under way -/
structure FnG (P : Program) (w : World) (K : PySem.W.Frag) (mg : Str → Option Value) (base : Heap) (k : Nat) (f : Addr) (fd : FuncData) (ps : List Str) (sp : Sp) : Prop where
  len : ∀ vs H Q E, sp vs H Q E → vs.length = ps.length
  run : ∀ (A : Around) (outer : List Env) (s : Shared) (H : Hp) (args : Args) (us : List Value) (vs : List V) (Q : VK) (E : XK),
    A.guards = some [] → Room k A → Env0 P w K mg base A outer s H → BindsTo s fd args (ps.zip us) → Vals vs us → sp vs H Q E →
    codeAny (model P w) A (.call (.ref f) args) (CR CX0 outer P w H s Q E) s
section
variable {P : Program} {w : World} {K : PySem.W.Frag} {mg : Str → Option Value} {base : Heap}
theorem okG {x qual : Str} {st : Stmt} {f : Addr} {fd : FuncData} {N ps : List Str} {k : Nat} {sp : Sp} (F : Fun K x qual st f fd) (S : FnScope N ps (defScope st)) (len : ∀ vs H Q E, sp vs H Q E → vs.length = ps.length)
    (hbody : ∀ (cdv : Value) (A : Around) (outer : List Env) (s : Shared) (H : Hp) (vs : List V) (Q : VK) (E : XK),
      (A.deeper (envOfC qual (defScope st) s.heap.objs.size f cdv)).guards = some [] → Room k (A.deeper (envOfC qual (defScope st) s.heap.objs.size f cdv)) → sp vs H Q E →
      ∃ t, PSs (cxOf CX0 P w K mg base N qual (defScope st) f cdv A outer s H E).nox (defBody st) t ∧ t { nx := fun _ H' => Q .non H', rt := Q } (start N vs) H) : FnG P w K mg base (k + 1) f fd ps sp := by
  obtain ⟨oc, od, kV, doc, pm, an, cdv, ct, osl, rfl, lk, hcd⟩ := F.ex
  refine ⟨len, fun A outer s H args us vs Q E hgd hr e0 hb r hsp => ?_⟩
  have hl := len _ _ _ _ hsp; have KX : K.In s.heap := e0.mod.kin.keeps fun b o e => (e0.bs b o e).1
  have lim : s.heap.NoLimit := e0.mod.nolimit.keeps fun b o e => (e0.bs b o e).1
  have hkind : ∀ y ∈ ps.zip us, (defScope st).names.lookup y.1 = some .local ∨ ((defScope st).names.lookup y.1 = some .cell ∧ ((cellsFrom (s.heap.objs.size + 1) (defScope st).names []).lookup y.1).isSome = true) := fun ⟨n, v⟩ hy => by
    rcases S.par n (List.of_mem_zip hy).1 with q | q
    · exact .inl q
    · exact .inr ⟨q, PySem.W.cellsFrom_some _ _ _ (.inl q)⟩
  refine codeAny_call_function hr.depth (KX _ _ lk) rfl S.co S.gen rfl (PySem.W.codeRec_of KX hcd) (hb _ _ _ _ (wpAny_newFunctionEnv_cells S.kind hkind fun env he s1 x => ?_))
  subst he
  refine ⟨lim.keeps x.toInCall.keep, codeAny_func ?_⟩
  obtain ⟨t, ht, hq⟩ := hbody cdv A outer s H vs Q E hgd (hr.deeper _) hsp
  have I : Inv (cxOf CX0 P w K mg base N qual (defScope st) f cdv A outer s H E) [] (start N vs) H s1 := inv_start S hr.hd e0 hl r x
  refine wpAny_mono (ht.nox.run [] s1 (start N vs) H _ I hq) (fun fl s' hs => ?_) fun e s' hs => hs
  have fin : ∀ {σ' : L2.St} {H' : Hp} {v : V} {u : Value}, Inv (cxOf CX0 P w K mg base N qual (defScope st) f cdv A outer s H E) [] σ' H' s' → RelV v u → Q v H' → CE outer P w H s Q u s' := fun {σ' H' v u} J rv q =>
    ⟨v, H', J.os, J.bare, J.base, J.hok, rv, q⟩
  cases fl with
  | ret u => obtain ⟨v, σ', H', J, rv, q⟩ := hs; exact fin J rv q
  | next => obtain ⟨σ', H', J, q⟩ := hs; exact fin (v := V.non) (u := Value.none) J rfl q
  | brk => obtain ⟨_, _, _, q⟩ := hs; exact False.elim q
  | cont => obtain ⟨_, _, _, q⟩ := hs; exact False.elim q
theorem FnG.of {k : Nat} {f : Addr} {fd : FuncData} {ps : List Str} {sp : Sp} (F : FnOk P w K mg base CX0 k f fd ps sp) : FnG P w K mg base k f fd ps sp :=
  ⟨F.len, fun A outer s H args us vs Q E _ hr e0 hb r h => F.run A outer s H args us vs Q E hr e0 hb r h⟩
end
section
variable {X : Cx} {k : Nat} {f C : Addr} {fd : FuncData} {ps ks : List Str} {sp : Sp} {x m : Str} {p pos apos : Pos} {e o : Expr} {es : List Expr} {ta : TE} {t tk : TA} {kws : List Keyword}
/-- f(e, ..) of such a def -/
theorem pe_callG (hG : X.A.guards = some []) (F : FnG X.prog X.w X.K X.mg X.base k f fd ps sp) (hr : Room k X.A) (hg : Gl X x) (hm : X.mg x = some (.ref f)) (hk : PySem.W.keepIn X.K (.ref f) = true) (hb : Binds X.K fd ps [])
    (ha : PA X (e :: es) t) (hdb : (x == ("__debug__" : Str)) = false := by decide) (he : starEach (e :: es) X.env = (false, eval e X.env) :: starEach es X.env := by rfl)
    (hpl : (backTo pos (starEach es X.env)).any (·.1) = false := by rfl) : PE X (.Call (.Name x p) (e :: es) [] pos) (tCall sp [] E0 t) := by
  refine ⟨fun pins s σ H Q I h => wpAny_Call_Name_kw (ld_glob I hg hm ?_ hdb)⟩
  refine PySem.W.callWith_K (h₀ := X.base) I.ok.mod.kin hk (thn (ha.run pos pins s σ H _ I h) fun us s1 ⟨vs, H1, I1, r, q⟩ => ⟨I1.kIn, ?_⟩) he hpl
  have q' : sp vs H1 Q E0 := by have q2 : sp (vs ++ []) H1 Q E0 := q; rwa [List.append_nil] at q2
  have hl : us.length = ps.length := by rw [← r.length]; exact F.len _ _ _ _ q'
  have hb' : BindsTo s1 fd ⟨us, []⟩ (ps.zip us) := by have b2 := hb s1 us I1.kIn (by rw [List.append_nil]; exact hl); rwa [List.append_nil] at b2
  refine wpAny_call (codeAny_mono (F.run X.A X.stack s1 H1 ⟨us, []⟩ us vs Q E0 hG hr I1.env0 hb' r q') fun r s' hq => ?_)
  cases r with
  | error e => exact False.elim hq
  | ok fl =>
    cases fl with
    | ret u => exact I1.after hq
    | next => exact False.elim hq
    | brk => exact False.elim hq
    | cont => exact False.elim hq
variable {CX : CXT} {E : XK} {g : List Value → List Value → List Value} {gV : List V → List V → List V}
/-- f(k = v, ..), no argument by place -/
theorem pe_callK0 (F : FnOk X.prog X.w X.K X.mg X.base CX k f fd ps sp) (hr : Room k X.A) (hg : Gl X x) (hm : X.mg x = some (.ref f)) (hk : PySem.W.keepIn X.K (.ref f) = true) (hb : KBinds X.K fd ps ks g gV) (hx : Passes CX X E)
    (hkw : PK X kws tk) (hall : (backToKw pos (keywordEach kws X.env)).all (·.1.isSome) = true := by rfl) (hks : (backToKw pos (keywordEach kws X.env)).filterMap (·.1) = ks := by rfl)
    (hdb : (x == ("__debug__" : Str)) = false := by decide)
    (hpl : ((backTo pos (starEach [] X.env)).any (·.1) || (backToKw pos (keywordEach kws X.env)).any (·.1.isNone)) = false := by rfl) :
    PE X (.Call (.Name x p) [] kws pos) (fun σ H Q => tk σ H fun zs H2 => sp (gV [] zs) H2 Q E) := by
  refine ⟨fun pins s σ H Q I h => wpAny_Call_Name_kw (ld_glob I hg hm ?_ hdb)⟩
  refine PySem.W.callWith_KW0 (h₀ := X.base) I.ok.mod.kin hk hall (thn (hkw.run pos pins s σ H _ I h) fun ws s2 ⟨zs, H2, I2, rz, q2⟩ => ⟨I2.kIn, ?_⟩) hpl
  rw [hks]
  exact run_fnk F hr hb hx I2 .nil rz q2
end
/-! ### the head -/
theorem law_callG {P : Program} {w : World} {K : PySem.W.Frag} {mg mb : Str → Option Value} {k : Nat} {fa a : Addr} {fd : FuncData} {x : Str} {sp : Sp} {s₁ : Shared} {vs : List Value} {ns : List Int}
    (KX : K.In s₁.heap) (hns : s₁.heap.Ns mainGlobals mg) (hb : s₁.heap.Ns builtinsNs mb) (hbb : ∀ x : Str, x ≠ "__name__" → mb x = bootBuiltins x) (hlim : s₁.heap.NoLimit) (hg : s₁.gens = #[])
    (ha : s₁.heap.get? a = some { cls := .type "list", data := .seq vs.toArray }) (hi : IntsAre vs ns) (hl : ns.length ≤ sizeLine) (hr : Room k callerA)
    (F : ∀ base : Heap, K.In base → base.Ns mainGlobals mg → FnG P w K mg base k fa fd [x] sp) (hbind : ∀ (s : Shared) (u : Value), BindsTo s fd ⟨[u], []⟩ [(x, u)])
    (hsp : ∀ H : Hp, Only H → SqL K H a (ns.map V.int) → sp [.ref a] H (fun v _ => v = .bl true) fun _ _ _ => False) :
    codeAny (model P w) callerA (.call (.ref fa) ⟨[.ref a], []⟩) (fun r s' => r = .ok (.ret (.bool true)) ∧ OldK s₁.heap s'.heap ∧ s'.os = s₁.os ∧ AllBare s'.gens) s₁ := by
  have rv := vals_ints hi; have lenV := hi.length
  have core : ∀ H : Hp, Only H → SqL K H a (ns.map V.int) → HOk P w H s₁.heap → (∀ b, H b ≠ none → b = a) → (H a ≠ none → K.lookup a = none) → codeAny (model P w) callerA (.call (.ref fa) ⟨[.ref a], []⟩)
      (fun r s' => r = .ok (.ret (.bool true)) ∧ OldK s₁.heap s'.heap ∧ s'.os = s₁.os ∧ AllBare s'.gens) s₁ := by
    intro H hO hS hok hA hK
    have noA : ∀ {b : Addr} {o : Obj} {es : Array DictEntry} {ep : Nat}, s₁.heap.get? b = some o → o.data = .dict es ep → H b = none := by
      intro b o es ep e d
      cases q : H b with
      | none => rfl
      | some u =>
        have e' : b = a := hA b (by rw [q]; simp)
        subst e'; rw [ha] at e; cases e
        exact absurd (show Data.seq vs.toArray _ = Data.dict es ep from d) (by simp)
    have nsK : ∀ {b : Addr} {m : Str → Option Value}, s₁.heap.Ns b m → (hidT s₁.heap H).Ns b m := by
      intro b m hm
      obtain ⟨o, es, ep, e, d, r⟩ := hm
      exact ⟨o, es, ep, hidT_get e (noA e d), d, r⟩
    have hKb : K.In (hidT s₁.heap H) := by
      intro b o e
      refine hidT_get (KX b o e) ?_
      cases q : H b with
      | none => rfl
      | some u =>
        have e' : b = a := hA b (by rw [q]; simp)
        subst e'; rw [hK (by rw [q]; simp)] at e; cases e
    have hM : Mod K mg (hidT s₁.heap H) := by
      obtain ⟨mc, c1, c2⟩ := hlim
      exact ⟨hKb, nsK hns, ⟨mb, nsK hb, hbb⟩, ⟨mc, nsK c1, c2⟩⟩
    have e0 : Env0 P w K mg (hidT s₁.heap H) callerA [] s₁ H := by
      refine ⟨rfl, hM, fun b o e => of_hidT e, Nat.le_of_eq (hidT_size _ _), trivial, fun b hb => ?_, hok, .of_eq hg⟩
      exact absurd (show b ∈ ([] : List Addr) from hb) (by simp)
    refine codeAny_mono ((F _ hKb (nsK hns)).run callerA [] s₁ H ⟨[.ref a], []⟩ [.ref a] [.ref a] _ _ rfl hr e0 (hbind s₁ (.ref a)) (.cons rfl .nil) (hsp H hO hS)) fun r s' h => ?_
    cases r with
    | error e => exact False.elim h
    | ok fl =>
      cases fl with
      | next => exact False.elim h
      | brk => exact False.elim h
      | cont => exact False.elim h
      | ret u =>
        obtain ⟨v, H', os, bare, un, hok', r', q⟩ := h
        have q' : v = .bl true := q
        subst q'
        obtain rfl : u = Value.bool true := r'
        refine ⟨rfl, OldK.of_keep fun b o e => ?_, os, bare⟩
        cases q : H b with
        | none => exact un.keep b o e q (by intro z; exact absurd (show b ∈ ([] : List Addr) from z) (by simp)) (by simp)
        | some u =>
          rcases hO b with z | ⟨ob, xs, z⟩
          · rw [q] at z; cases z
          · have z2 := un.frzs b ob _ z
            obtain ⟨e1, _⟩ := hok b _ z; obtain ⟨e2, _⟩ := hok' b _ z2
            rw [e] at e1; cases e1; exact e2
  cases hk : K.lookup a with
  | some o =>
    have e := KX a o hk
    rw [ha] at e; cases e
    refine core (fun _ => none) (fun _ => .inl rfl) ?_ (fun b u z => nomatch z) (fun b z => absurd rfl z) fun z => absurd rfl z
    exact .inr ⟨_, vs.toArray, _, hk, rfl, rfl, rfl, by rw [List.size_toArray, lenV]; exact hl, by simpa using rv⟩
  | none =>
    refine core (fun b => if b = a then some (.frz { cls := .type "list", data := .seq vs.toArray } (.lst (ns.map V.int))) else none) (fun b => ?_) (.inl (.inr ⟨_, if_pos rfl⟩)) (fun b u z => ?_) (fun b z => ?_) fun _ => hk
    · by_cases hb : b = a
      · exact .inr ⟨_, _, if_pos hb⟩
      · exact .inl (if_neg hb)
    · by_cases hb : b = a
      · have z' := (if_pos hb).symm.trans z
        cases z'; subst hb
        exact ⟨ha, by rw [List.length_map]; exact hl, vs, _, rv, ha⟩
      · have z' := (if_neg hb).symm.trans z
        cases z'
    · by_cases hb : b = a
      · exact hb
      · exact absurd (if_neg hb) z
theorem walkG {l : PySem.W.OpenLaw} {n k : Nat} {q : Program} {loose : List Str} {XP : (Str → Option Value) → Heap → Prop} {YP : World → Heap → Prop} {d : DefRec} {K : Params → PySem.W.Frag} {sp : PySem.W.Frag → Sp} {x : Str}
    (hn : l.most = some n) (hn2 : n ≤ sizeLine) (hdf : d.params.defaults = []) (hr : Room k callerA) (hY : ∀ (w : World) (h : Heap), YP w h → (K w.params).In h)
    (F : ∀ (w : World) (mg : Str → Option Value) (fa : Addr) (h : Heap), (K w.params).In h → h.Ns mainGlobals mg → mg d.name = some (.ref fa) →
      ∃ fd : FuncData, (∀ (s : Shared) (u : Value), BindsTo s fd ⟨[u], []⟩ [(x, u)]) ∧ ∀ base : Heap, (K w.params).In base → base.Ns mainGlobals mg → FnG l.prog w (K w.params) mg base k fa fd [x] (sp (K w.params)))
    (hsp : ∀ (K : PySem.W.Frag) (H : Hp) (a : Addr) (ns : List Int), ns.length ≤ n → Only H → SqL K H a (ns.map V.int) → sp K [.ref a] H (fun v _ => v = .bl true) fun _ _ _ => False) :
    PySem.W.WalkO q loose XP YP l.row.toRowW d [] (fun f vs => PySem.call f vs) := by
  refine Att.attach_call hn hdf fun w s₀ s₁ mg mb fa o pm cd doc a vs ns G Y ho hd hcd hmg hobj hints hlen hg => ?_
  have KX := hY w _ Y
  obtain ⟨fd, hb, hF⟩ := F w mg fa _ KX G.T.g hmg
  exact law_callG KX G.T.g G.T.b G.T.builtins G.T.nolimit hg hobj hints (Nat.le_trans hlen hn2) hr hF hb fun H hO hS => hsp (K w.params) H a ns hlen hO hS
/-! ### repr of data -/
def tRep (K : PySem.W.Frag) (te : TE) : TE := fun σ H Q => te σ H fun x H1 => ∃ a d, x = .ref a ∧ Dp K H1 x d ∧ d.showable = true ∧ d.hasDict = false ∧ d.depth ≤ 50 ∧ d.shown.length ≤ sizeLine ∧ Q (.str d.shown) H1
theorem pe_rep {X : Cx} {k : Nat} {e : Expr} {te : TE} {p pos : Pos} (hG : X.A.guards = some []) (hr : Room k X.A) (hg : Gl X "repr") (hm : X.mg "repr" = none) (hb : bootBuiltins "repr" = some (.builtin "repr")) (ha : PE X e te)
    (he : starEach [e] X.env = (false, eval e X.env) :: starEach [] X.env := by rfl) : PE X (.Call (.Name "repr" p) [e] [] pos) (tRep X.K te) := by
  refine ⟨fun pins s σ H Q I h => wpAny_Call_Name_kw (ld_blt I hg hm hb ?_)⟩
  refine PyProof.Rows.callWith_builtin1 (args_cons (thn (ha.run pins s σ H _ I h) fun u s1 ⟨v, H1, I1, r1, q1⟩ => args_nil ?_) he) he rfl
  obtain ⟨a, d, ex, hd, hs, hno, hdp, hz, q⟩ := q1
  subst ex
  obtain ⟨as, rd⟩ := Dp.reads I1 d _ u hd r1
  cases (show u = Value.ref a from r1)
  have hu := hr.un
  refine repr_of_reads' rd hs (fun z => absurd z (by rw [hno]; decide)) hG (by omega) (fun b o e => e) (fun h' u tk hk => ?_) hz
  exact ⟨.str d.shown, H1, I1.kept hk, ⟨_, rfl⟩, q⟩
end XL
namespace XL
open PySem PySem.Spec PyProof.Rows L2
def topS (i : Nat) : Stmt := PySem.Challenge.pw_crosslocks_k49_maps_or_not.main.body.getD i (.Pass ⟨0, 0, 0, 0⟩)
abbrev sTake : Stmt := topS 19
abbrev sOf : Stmt := topS 21
theorem atI_int {α : Type} {xs : List α} {i : Int} {v : α} (h0 : 0 ≤ i) (h : xs[i.toNat]? = some v) : atI xs i = some v := by
  have q := atI_nat h
  rwa [show ((i.toNat : Nat) : Int) = i by omega] at q
/-! ### the box: a list of three numbers -/
def Bx (H : Hp) (b : Addr) : Prop := ∃ x y z : Int, H b = some (.lst [.int x, .int y, .int z])
/-- all that was tracked but the box is as it was, the box is a box -/
structure Dr (b : Addr) (H H' : Hp) : Prop where
  box : Bx H' b
  same : ∀ a o, a ≠ b → H a = some o → H' a = some o
theorem Dr.refl {b : Addr} {H : Hp} (h : Bx H b) : Dr b H H := ⟨h, fun _ _ _ e => e⟩
theorem Dr.trans {b : Addr} {H H1 H2 : Hp} (p : Dr b H H1) (q : Dr b H1 H2) : Dr b H H2 := ⟨q.box, fun a o n e => q.same a o n (p.same a o n e)⟩
theorem Dr.new {b p : Addr} {H : Hp} {o : HO} (h : Bx H b) (n : H p = none) : Dr b H (upd H p o) := by
  obtain ⟨x, y, z, e⟩ := h
  exact ⟨⟨x, y, z, same_new n b _ e⟩, fun a o _ e => same_new n a o e⟩
theorem Dr.put {b : Addr} {H : Hp} {x y z : Int} : Dr b H (upd H b (.lst [.int x, .int y, .int z])) := ⟨⟨x, y, z, upd_same⟩, fun a o n e => by rw [upd_ne n]; exact e⟩
theorem Dr.of {b : Addr} {H H' : Hp} (h : Bx H b) (s : Same H H') : Dr b H H' := by
  obtain ⟨x, y, z, e⟩ := h
  exact ⟨⟨x, y, z, s _ _ e⟩, fun a o _ e => s a o e⟩
section
variable {P : Program} {w : World} {K : PySem.W.Frag} {mg : Str → Option Value} {base : Heap}
/-! ### _law_take -/
theorem scTake : FnScope ["_law_box_here", "_law_size", "_law_found", "_law_blend"] ["_law_box_here", "_law_size"] (defScope sTake) := ⟨rfl, rfl, rfl, by decide +kernel, rfl, by decide +kernel, by decide +kernel⟩
def spTake : Sp := fun vs H Q _ => ∃ (b : Addr) (n : Int), vs = [.ref b, .int n] ∧ Bx H b ∧ 0 < n ∧ n < 10000000000000 ∧ ∀ (v : Int) (H' : Hp), 0 ≤ v → v < n → Dr b H H' → Q (.int v) H'
theorem fmod_lt {a n : Int} (h : 0 < n) : 0 ≤ a.fmod n ∧ a.fmod n < n := by
  rw [Int.fmod_eq_emod_of_nonneg _ (Int.le_of_lt h)]
  exact ⟨Int.emod_nonneg _ (by omega), Int.emod_lt_of_pos _ h⟩
theorem div_log {n : Int} (h0 : 0 < n) (h1 : n < 10000000000000) : n.natAbs.log2 < 9000 := by
  have : n.natAbs.log2 < 44 := (Nat.log2_lt (by omega)).mpr (Nat.lt_trans (m := 10000000000000) (by omega) (by decide))
  omega
theorem ok_take {f : Addr} {fd : FuncData} {k : Nat} (F : Fun K "_law_take" "_law_take" sTake f fd) : FnOk P w K mg base CX0 (k + 1) f fd ["_law_box_here", "_law_size"] spTake := by
  refine F.ok scTake (fun vs H Q E h => ?_) (fun cdv A outer s H vs Q E hr h => ?_)
  · obtain ⟨b, n, rfl, _⟩ := h
    rfl
  obtain ⟨b, n, rfl, ⟨x, y, z, eb⟩, h0, h1, q⟩ := h
  refine ⟨_, pss_cons (ps_if (pt_cmpR op_gt (pe_ix ix_list (pv 0) pe_int (fun _ _ => rfl)) pe_int (nomark _))
      (pss_cons (ps_set (i := 2) scTake.nd rfl (.inl rfl) (pe_op op_modN (pe_ix ix_list (pv 0) pe_int (fun _ _ => rfl)) (pv 1)))
      (pss_cons (ps_asg (pe_op op_fdivW (pe_ix ix_list (pv 0) pe_int (fun _ _ => rfl)) (pv 1)) (pg_sub (pv 0) pe_int set_list))
      (pss_one (ps_ret (pv 2))))) pss_nil)
    (pss_cons (ps_asg (pe_op op_add (pe_ix ix_list (pv 0) pe_int (fun _ _ => rfl)) pe_int) (pg_sub (pv 0) pe_int set_list))
    (pss_cons (ps_set (i := 3) scTake.nd rfl (.inl rfl) (pe_op op_modN (pe_op op_add (pe_ix ix_list (pv 0) pe_int (fun _ _ => rfl)) (pe_op op_mul pe_int (pe_ix ix_list (pv 0) pe_int (fun _ _ => rfl)))) pe_int))
    (pss_cons (ps_set (i := 3) scTake.nd rfl (.inl rfl) (pe_op op_modN (pe_op op_add (pe_op op_add (pe_op op_mul (pv 3) (pv 3)) (pe_op op_mul pe_int (pe_ix ix_list (pv 0) pe_int (fun _ _ => rfl)))) pe_int) pe_int))
    (pss_cons (ps_set (i := 3) scTake.nd rfl (.inl rfl) (pe_op op_modN (pe_op op_add (pe_op op_mul (pv 3) (pe_op op_add (pe_op op_fdivN (pv 3) pe_int) pe_int)) (pe_ix ix_list (pv 0) pe_int (fun _ _ => rfl))) pe_int))
    (pss_one (ps_ret (pe_op op_modN (pe_op op_fdivN (pv 3) pe_int) (pv 1)))))))), ?_⟩
  have sq : SqL K H b [.int x, .int y, .int z] := SqL.of eb
  -- box[0] > 0
  refine ⟨_, rfl, b, _, _, _, rfl, rfl, sq, rfl, _, _, rfl, rfl, _, rfl, ite2 (fun c => ?_) (fun c => ?_)⟩
  · refine ⟨_, rfl, b, _, _, _, rfl, rfl, sq, rfl, _, rfl, _, _, rfl, rfl, by omega, ?_⟩
    refine ⟨_, rfl, b, _, _, _, rfl, rfl, sq, rfl, _, rfl, _, _, rfl, rfl, ⟨h0, div_log h0 h1⟩, ?_⟩
    refine ⟨_, rfl, b, _, _, 0, rfl, rfl, eb, rfl, ?_⟩
    refine ⟨_, rfl, ?_⟩
    exact q _ _ (fmod_lt h0).1 (fmod_lt h0).2 Dr.put
  · refine ⟨_, rfl, b, _, _, _, rfl, rfl, sq, rfl, _, _, rfl, rfl, ?_⟩
    refine ⟨_, rfl, b, _, _, 2, rfl, rfl, eb, rfl, ?_⟩
    have sq2 : SqL K (upd H b (.lst [.int x, .int y, .int (z + 1)])) b [.int x, .int y, .int (z + 1)] := SqL.of upd_same
    refine ⟨_, rfl, b, _, _, _, rfl, rfl, sq2, rfl, _, rfl, b, _, _, _, rfl, rfl, sq2, rfl, _, _, rfl, rfl, .inl ⟨by decide, by decide⟩, _, _, rfl, rfl, _, _, rfl, rfl, (by show (2305843009213693951 : Int) ≠ 0; decide), ?_⟩
    have m1 := fmod_lt (a := y + 1442695040888963407 * (z + 1)) (n := 2305843009213693951) (by decide)
    refine ⟨_, rfl, _, rfl, _, _, rfl, rfl, .inl ⟨by omega, by omega⟩, _, rfl, b, _, _, _, rfl, rfl, sq2, rfl, _, _, rfl, rfl, .inl ⟨by decide, by decide⟩, _, _, rfl, rfl, _, _, rfl, rfl, _, _, rfl, rfl, (by show (2305843009213693921 : Int) ≠ 0; decide), ?_⟩
    have m2 := fmod_lt (a := (y + 1442695040888963407 * (z + 1)).fmod 2305843009213693951 * (y + 1442695040888963407 * (z + 1)).fmod 2305843009213693951 + 39373 * (z + 1) + 7) (n := 2305843009213693921) (by decide)
    refine ⟨_, rfl, _, rfl, _, _, rfl, rfl, ⟨by decide, by decide⟩, _, _, rfl, rfl, _, _, rfl, rfl, .inl ⟨by omega, by omega⟩, _, rfl, b, _, _, _, rfl, rfl, sq2, rfl, _, _, rfl, rfl, _, _, rfl, rfl, (by show (2305843009213693907 : Int) ≠ 0; decide), ?_⟩
    refine ⟨_, rfl, _, _, rfl, rfl, ⟨by decide, by decide⟩, _, rfl, _, _, rfl, rfl, by omega, ?_⟩
    exact q _ _ (fmod_lt h0).1 (fmod_lt h0).2 Dr.put
/-! ### _law_of -/
theorem scOf : FnScope ["_law_box_here", "_law_some"] ["_law_box_here", "_law_some"] (defScope sOf) := ⟨rfl, rfl, rfl, by decide +kernel, rfl, by decide +kernel, by decide +kernel⟩
def spOf (K : PySem.W.Frag) : Sp := fun vs H Q _ => ∃ (b l : Addr) (xs : List V), vs = [.ref b, .ref l] ∧ Bx H b ∧ l ≠ b ∧ SqL K H l xs ∧ xs ≠ [] ∧ xs.length < 1000 ∧ ∀ (j : Nat) (v : V) (H' : Hp), xs[j]? = some v → Dr b H H' → Q v H'
theorem Dr.sqL {b a : Addr} {H H' : Hp} {xs : List V} (d : Dr b H H') (n : a ≠ b) (h : SqL K H a xs) : SqL K H' a xs := by
  rcases h with (h | ⟨o, h⟩) | h
  · exact .inl (.inl (d.same _ _ n h))
  · exact .inl (.inr ⟨o, d.same _ _ n h⟩)
  · exact .inr h
theorem Dr.sqT {b a : Addr} {H H' : Hp} {xs : List V} (d : Dr b H H') (n : a ≠ b) (h : SqT K H a xs) : SqT K H' a xs := by
  rcases h with (h | ⟨o, h⟩) | h
  · exact .inl (.inl (d.same _ _ n h))
  · exact .inl (.inr ⟨o, d.same _ _ n h⟩)
  · exact .inr h
theorem ok_of {f ft : Addr} {fd fdt : FuncData} {k : Nat} (F : Fun K "_law_of" "_law_of" sOf f fd) (FT : Fun K "_law_take" "_law_take" sTake ft fdt) (bT : Binds K fdt ["_law_box_here", "_law_size"] []) (gT : mg "_law_take" = some (.ref ft)) (ml : mg "len" = none) :
    FnOk P w K mg base CX0 (k + 1 + 1) f fd ["_law_box_here", "_law_some"] (spOf K) := by
  refine F.ok scOf (fun vs H Q E h => ?_) (fun cdv A outer s H vs Q E hr h => ?_)
  · obtain ⟨b, l, xs, rfl, _⟩ := h
    rfl
  obtain ⟨b, l, xs, rfl, hb, hlb, hl, hne, hz, q⟩ := h
  refine ⟨_, pss_one (ps_ret (pe_ix ix_list (pv 1) (pe_call (ok_take (k := k) FT) hr rfl gT FT.kp bT .nil pass0 (pa_cons (pv 0) (pa_cons (pe_callB call_len_seq rfl ml PySem.boot_len (pa_cons (pv 1) pa_nil)) pa_nil))) (fun _ _ => rfl))), ?_⟩
  have hpos : 0 < xs.length := List.length_pos_iff.mpr hne
  refine ⟨_, rfl, _, rfl, _, rfl, l, xs, rfl, .inl hl, b, _, rfl, hb, by omega, by omega, fun v H' v0 v1 d => ?_⟩
  have hj : v.toNat < xs.length := by omega
  have ha : atI xs v = some xs[v.toNat] := atI_int v0 (List.getElem?_eq_getElem hj)
  refine ⟨l, xs, v, _, rfl, rfl, d.sqL hlb hl, ha, ?_⟩
  exact q v.toNat _ _ (List.getElem?_eq_getElem hj) d
end
end XL
namespace XL
open PySem PySem.Spec PyProof.Rows L2
section
variable {K : PySem.W.Frag} {H H' : Hp}
/-! ### data stays -/
mutual
theorem Dp.same (s : Same H H') : ∀ {v : V} (d : PyData), Dp K H v d → Dp K H' v d
  | _, .none, h => by cases h; exact .non
  | _, .bool b, h => by cases h; exact .bl b
  | _, .int i, h => by cases h; exact .int i
  | _, .str x, h => by cases h; exact .str x
  | _, .list ds, h => by
    cases h with
    | lst hs ha => exact .lst (s.seq hs) (DpAll.same s ds ha)
  | _, .tuple ds, h => by
    cases h with
    | tup hs ha => exact .tup (Same.tup s hs) (DpAll.same s ds ha)
  | _, .dict _, h => by cases h
theorem DpAll.same (s : Same H H') : ∀ {vs : List V} (ds : List PyData), DpAll K H vs ds → DpAll K H' vs ds
  | _, [], h => by cases h; exact .nil
  | _, d :: ds, h => by
    cases h with
    | cons h1 h2 => exact .cons (Dp.same s d h1) (DpAll.same s ds h2)
end
theorem DpAll.length : ∀ {vs : List V} {ds : List PyData}, DpAll K H vs ds → vs.length = ds.length
  | _, _, .nil => rfl
  | _, _, .cons _ h => by rw [List.length_cons, List.length_cons, DpAll.length h]
theorem DpAll.get : ∀ {vs : List V} {ds : List PyData} {i : Nat} {v : V}, DpAll K H vs ds → vs[i]? = some v → ∃ d, ds[i]? = some d ∧ Dp K H v d
  | _, _, i, v, .nil, h => by simp at h
  | _, _, 0, v, .cons a _, h => by cases h; exact ⟨_, rfl, a⟩
  | _, _, i + 1, v, .cons _ r, h => DpAll.get r (i := i) h
theorem DpAll.get' : ∀ {vs : List V} {ds : List PyData} {i : Nat} {d : PyData}, DpAll K H vs ds → ds[i]? = some d → ∃ v, vs[i]? = some v ∧ Dp K H v d
  | _, _, i, v, .nil, h => by simp at h
  | _, _, 0, v, .cons a _, h => by cases h; exact ⟨_, rfl, a⟩
  | _, _, i + 1, v, .cons _ r, h => DpAll.get' r (i := i) h
theorem DpAll.app : ∀ {vs ws : List V} {ds es : List PyData}, DpAll K H vs ds → DpAll K H ws es → DpAll K H (vs ++ ws) (ds ++ es)
  | _, _, _, _, .nil, h => h
  | _, _, _, _, .cons a r, h => .cons a (DpAll.app r h)
theorem DpAll.snoc {vs : List V} {v : V} {ds : List PyData} {d : PyData} (a : DpAll K H vs ds) (h : Dp K H v d) : DpAll K H (vs ++ [v]) (ds ++ [d]) := DpAll.app a (.cons h .nil)
/-! ### kinds -/
def isSeq : PyData → Bool
  | .list _ => true
  | .tuple _ => true
  | _ => false
def tyD : PyData → Value
  | .none => .type "NoneType"
  | .bool _ => .type "bool"
  | .int _ => .type "int"
  | .str _ => .type "str"
  | .list _ => .type "list"
  | .tuple _ => .type "tuple"
  | .dict _ => .type "dict"
theorem tyx_of {v : V} {d : PyData} (h : Dp K H v d) : TyX K H v (tyD d) := by
  cases h with
  | non => exact .base .non
  | bl b => exact .base (.bl b)
  | int i => exact .base (.int i)
  | str x => exact .base (.str x)
  | lst hs _ =>
    rcases hs with (hs | ⟨o, hs⟩) | ⟨o, its, n, hk, hc, _⟩
    · exact .base (.lst hs)
    · exact .base (.frz hs)
    · exact .kList hk hc
  | tup hs _ =>
    rcases hs with (hs | ⟨o, hs⟩) | ⟨o, its, n, hk, hc, _⟩
    · exact .base (.tup hs)
    · exact .fTuple hs
    · exact .kTuple hk hc
theorem kit1 {t : String} {u : String} {b : Bool} (h : kitB t u = some b) : PySem.W.kitOne K (.type t) (.type u) = some b := kit_ty h
theorem kit2 {t u v : String} {a b : Bool} (h : kitB t u = some a) (h2 : kitB t v = some b) : PySem.W.kitAny K (.type t) [.type u, .type v] = some (a || b) := by
  refine kitAny_cons (kit_ty h) (fun e => ?_) (fun e => ?_)
  · subst e
    refine kitAny_cons (kit_ty h2) (fun e => ?_) (fun e => ?_)
    · subst e; rfl
    · subst e; rfl
  · subst e; rfl
theorem seq_kit (d : PyData) (h : ∀ kvs, d ≠ .dict kvs) : PySem.W.kitAny K (tyD d) [.type "list", .type "tuple"] = some (isSeq d) := by
  cases d with
  | none => exact kit2 (a := false) (b := false) (by decide +kernel) (by decide +kernel)
  | bool b => exact kit2 (a := false) (b := false) (by decide +kernel) (by decide +kernel)
  | int i => exact kit2 (a := false) (b := false) (by decide +kernel) (by decide +kernel)
  | str x => exact kit2 (a := false) (b := false) (by decide +kernel) (by decide +kernel)
  | list ds => exact kit2 (a := true) (b := false) (by decide +kernel) (by decide +kernel)
  | tuple ds => exact kit2 (a := false) (b := true) (by decide +kernel) (by decide +kernel)
  | dict kvs => exact absurd rfl (h kvs)
theorem Dp.nodict {v : V} {d : PyData} (h : Dp K H v d) : ∀ kvs, d ≠ .dict kvs := fun kvs e => by subst e; cases h
end
/-! ### data of bounded depth and width -/
def okD : Nat → PyData → Prop
  | 0, _ => False
  | n + 1, .list ds => ds.length ≤ 1000 ∧ ∀ d ∈ ds, okD n d
  | n + 1, .tuple ds => ds.length ≤ 1000 ∧ ∀ d ∈ ds, okD n d
  | _ + 1, _ => True
mutual
/-- lists as tuples -/
def tupD : PyData → PyData
  | .list ds => .tuple (tupDs ds)
  | .tuple ds => .tuple (tupDs ds)
  | .none => .none
  | .bool b => .bool b
  | .int i => .int i
  | .str x => .str x
  | .dict k => .dict k
def tupDs : List PyData → List PyData
  | [] => []
  | d :: ds => tupD d :: tupDs ds
end
mutual
/-- tuples as lists -/
def lstD : PyData → PyData
  | .list ds => .list (lstDs ds)
  | .tuple ds => .list (lstDs ds)
  | .none => .none
  | .bool b => .bool b
  | .int i => .int i
  | .str x => .str x
  | .dict k => .dict k
def lstDs : List PyData → List PyData
  | [] => []
  | d :: ds => lstD d :: lstDs ds
end
theorem tupDs_eq : ∀ ds : List PyData, tupDs ds = ds.map tupD
  | [] => rfl
  | d :: ds => by rw [tupDs, tupDs_eq ds]; rfl
theorem lstDs_eq : ∀ ds : List PyData, lstDs ds = ds.map lstD
  | [] => rfl
  | d :: ds => by rw [lstDs, lstDs_eq ds]; rfl
def itemsD : PyData → List PyData
  | .list ds => ds
  | .tuple ds => ds
  | _ => []
theorem seq_of {K : PySem.W.Frag} {H : Hp} {v : V} {d : PyData} (h : Dp K H v d) (hs : isSeq d = true) : ∃ a xs, v = .ref a ∧ Sq2 K H a xs ∧ DpAll K H xs (itemsD d) := by
  cases h with
  | lst h1 h2 => exact ⟨_, _, rfl, .inl h1, h2⟩
  | tup h1 h2 => exact ⟨_, _, rfl, .inr h1, h2⟩
  | _ => simp [isSeq] at hs
theorem okD_items {n : Nat} {d : PyData} (h : okD (n + 1) d) (hs : isSeq d = true) : (∀ e ∈ itemsD d, okD n e) ∧ (itemsD d).length ≤ 1000 := by
  cases d with
  | list ds => exact ⟨h.2, h.1⟩
  | tuple ds => exact ⟨h.2, h.1⟩
  | _ => simp [isSeq] at hs
theorem small {n : Nat} (h : n ≤ 1000) : n ≤ sizeLine := Nat.le_of_lt (small1000 h)
end XL
namespace XL
open PySem PySem.Spec PyProof.Rows L2
/-! ### a list that is hidden while an expression is evaluated -/
theorem same_delH {H : Hp} {D : Addr} {o : HO} : Same (delH H D) (upd H D o) := fun b x e => by
  by_cases hb : b = D
  · rw [hb, delH_same] at e; cases e
  · rw [delH_ne hb] at e; rw [upd_ne hb]; exact e
theorem delH_none {H : Hp} {D : Addr} (h : H D = none) : delH H D = H := by
  funext b
  by_cases hb : b = D
  · rw [hb, delH_same, h]
  · rw [delH_ne hb]
theorem delH_upd {H : Hp} {D : Addr} {o : HO} (h : H D = none) : delH (upd H D o) D = H := delH_new h
theorem upd_upd {H : Hp} {D : Addr} {o o' : HO} : upd (upd H D o) D o' = upd H D o' := by
  funext b
  by_cases hb : b = D
  · rw [hb, upd_same, upd_same]
  · rw [upd_ne hb, upd_ne hb, upd_ne hb]
theorem upd_comm {H : Hp} {D T : Addr} {o o' : HO} (h : T ≠ D) : upd (upd H D o) T o' = upd (upd H T o') D o := by
  funext b
  by_cases hb : b = D
  · rw [hb, upd_same, upd_ne (fun e => h e.symm), upd_same]
  · by_cases hT : b = T
    · rw [hT, upd_same, upd_ne h, upd_same]
    · rw [upd_ne hT, upd_ne hb, upd_ne hb, upd_ne hT]
section
variable {X : Cx} {pins : List (Addr × Obj)} {σ : L2.St} {H : Hp} {s s' : Shared} {D : Addr} {xs : List V}
theorem Inv.hide (I : Inv X pins σ H s) (hD : H D = some (.lst xs)) : ∃ (its : List Value) (n : Nat), Vals xs its ∧ xs.length ≤ sizeLine ∧
    Inv X ((D, { cls := .type "list", dict := none, data := .seq its.toArray n, slots := #[] }) :: pins) σ (delH H D) s := by
  obtain ⟨hz, its, n, rv, ho⟩ := (show ObjOk X.prog X.w H s.heap D (.lst xs) from I.hok D _ hD)
  have ne : ∀ {b : Addr}, H b = none → b ≠ D := fun {b} h e => by rw [e, hD] at h; cases h
  have hN : ∀ {b : Addr}, H b = none → delH H D b = none := fun {b} h => by rw [delH_ne (ne h)]; exact h
  refine ⟨its, n, rv, hz, ⟨I.ok, I.os, I.bare, ⟨I.base.keep, I.base.slot, fun b o e n hx => hN (I.base.free b o e n hx), I.base.there, fun b ys e => ?_, fun b o u e => ?_, fun b ps e => ?_⟩, I.loc, I.cell, hN I.free, fun x c e => hN (I.freeC x c e), fun p hp => ?_, fun b o e => ?_, I.len⟩⟩
  · have q := I.base.tups b ys e
    rw [delH_ne (fun z => by rw [z, hD] at q; cases q)]; exact q
  · have q := I.base.frzs b o u e
    rw [delH_ne (fun z => by rw [z, hD] at q; cases q)]; exact q
  · obtain ⟨m, q⟩ := I.base.tbls b ps e
    exact ⟨m, by rw [delH_ne (fun z => by rw [z, hD] at q; cases q)]; exact q⟩
  · rcases List.mem_append.mp hp with hp | hp
    · obtain ⟨a1, a2, a3⟩ := I.pin p (List.mem_append_left _ hp)
      exact ⟨a1, hN a2, a3⟩
    · rcases List.mem_cons.mp hp with e | hp
      · subst e
        refine ⟨ho, delH_same, fun e => ?_, fun hf => ?_, fun v e => nomatch e⟩
        · have := I.free; rw [show X.env.locals = D from e.symm, hD] at this; cases this
        · obtain ⟨_, o, q, _⟩ := I.ok.funs.mem hf
          have := I.base.free D o q (I.ok.frf D hf) fun z => I.ok.exfs D z hf
          rw [hD] at this; cases this
      · obtain ⟨a1, a2, a3⟩ := I.pin p (List.mem_append_right _ hp)
        exact ⟨a1, hN a2, a3⟩
  · have hb : b ≠ D := fun z => by rw [z, delH_same] at e; cases e
    rw [delH_ne hb] at e
    refine (I.hok b o e).stay (fun c v _ q => q) (fun c q => ?_) fun c ys q => ?_
    · rw [delH_ne (fun z => by rw [z, hD] at q; cases q)]; exact q
    · rw [delH_ne (fun z => by rw [z, hD] at q; cases q)]; exact q
theorem Inv.unhide {H' : Hp} {its : List Value} {n : Nat} (I : Inv X pins σ H s) (hD : H D = some (.lst xs)) (rv : Vals xs its) (hz : xs.length ≤ sizeLine)
    (J : Inv X ((D, { cls := .type "list", dict := none, data := .seq its.toArray n, slots := #[] }) :: pins) σ H' s') : H' D = none ∧ Inv X pins σ (upd H' D (.lst xs)) s' := by
  obtain ⟨ho, hn, _, _, _⟩ := J.pin (D, _) (List.mem_append_right _ (List.mem_cons_self ..))
  have hn' : H' D = none := hn
  have ne : ∀ {b : Addr}, H b = none → b ≠ D := fun {b} h e => by rw [e, hD] at h; cases h
  refine ⟨hn', ⟨J.ok, J.os, J.bare, ⟨J.base.keep, J.base.slot, fun b o e n hx => ?_, J.base.there, fun b ys e => ?_, fun b o u e => ?_, fun b ps e => ?_⟩, J.loc, J.cell, ?_, fun x c e => ?_, fun p hp => ?_, fun b o e => ?_, J.len⟩⟩
  · rw [upd_ne (ne (I.base.free b o e n hx))]; exact J.base.free b o e n hx
  · have q := J.base.tups b ys e
    rw [upd_ne (fun z => by rw [z, hn'] at q; cases q)]; exact q
  · have q := J.base.frzs b o u e
    rw [upd_ne (fun z => by rw [z, hn'] at q; cases q)]; exact q
  · obtain ⟨m, q⟩ := J.base.tbls b ps e
    exact ⟨m, by rw [upd_ne (fun z => by rw [z, hn'] at q; cases q)]; exact q⟩
  · rw [upd_ne (ne I.free)]; exact J.free
  · rw [upd_ne (ne (I.freeC x c e))]; exact J.freeC x c e
  · obtain ⟨_, a0, _⟩ := I.pin p hp
    have hp' : p ∈ X.pn ++ ((D, ({ cls := .type "list", dict := none, data := .seq its.toArray n, slots := #[] } : Obj)) :: pins) := by
      rcases List.mem_append.mp hp with h | h
      · exact List.mem_append_left _ h
      · exact List.mem_append_right _ (List.mem_cons_of_mem _ h)
    obtain ⟨a1, a2, a3⟩ := J.pin p hp'
    exact ⟨a1, by rw [upd_ne (ne a0)]; exact a2, a3⟩
  · by_cases hb : b = D
    · subst hb
      rw [upd_same] at e
      cases e
      exact ⟨hz, its, n, rv, ho⟩
    · rw [upd_ne hb] at e
      refine (J.hok b o e).stay (fun c v _ q => q) (fun c q => ?_) fun c ys q => ?_
      · rw [upd_ne (fun z => by rw [z, hn'] at q; cases q)]; exact q
      · rw [upd_ne (fun z => by rw [z, hn'] at q; cases q)]; exact q
end
/-- e, evaluated while the list at D is hidden -/
def tHide (t : TE) : TE := fun σ H Q => ∃ D xs, H D = some (.lst xs) ∧ t σ (delH H D) fun v H' => H' D = none → Q v (upd H' D (.lst xs))
theorem pe_hide {X : Cx} {e : Expr} {t : TE} (h : PE X e t) : PE X e (tHide t) := by
  refine ⟨fun pins s σ H Q I q => ?_⟩
  obtain ⟨D, xs, hD, q⟩ := q
  obtain ⟨its, n, rv, hz, J⟩ := Inv.hide I hD
  refine thn (h.run _ s σ _ _ J q) fun u s' hu => ?_
  obtain ⟨v, H', J', r, q'⟩ := hu
  obtain ⟨hn, I'⟩ := Inv.unhide I hD rv hz J'
  exact ⟨v, _, I', r, q' hn⟩
theorem wipe_none {σ : L2.St} {i : Nat} : ∀ {vs : List Nat}, i ∈ vs → (wipe σ vs).set i none = wipe σ vs
  | [], h => by simp at h
  | v :: vs, h => by
    show ((wipe σ vs).set v none).set i none = (wipe σ vs).set v none
    by_cases e : i = v
    · rw [e, List.set_set]
    · have h' : i ∈ vs := by rcases List.mem_cons.mp h with q | q; exact absurd q e; exact q
      rw [List.set_comm _ _ (fun q => e q.symm), wipe_none h']
theorem wipe_put {σ : L2.St} {i : Nat} {x : Option V} : ∀ {vs : List Nat}, i ∉ vs → wipe (σ.set i x) vs = (wipe σ vs).set i x
  | [], _ => rfl
  | v :: vs, h => by
    show (wipe (σ.set i x) vs).set v none = ((wipe σ vs).set v none).set i x
    rw [wipe_put (fun q => h (List.mem_cons_of_mem _ q)), List.set_comm _ _ (fun q => h (by rw [q]; exact List.mem_cons_self ..))]
theorem w1 {σ σ' : L2.St} {i : Nat} {x : Option V} {vs : List Nat} (h : i ∈ vs) (e : wipe σ' vs = wipe σ vs) : wipe (σ'.set i x) vs = wipe σ vs := by
  have key : ∀ {vs : List Nat}, i ∈ vs → wipe (σ'.set i x) vs = wipe σ' vs := by
    intro vs h
    induction vs with
    | nil => simp at h
    | cons v vs ih =>
      show (wipe (σ'.set i x) vs).set v none = (wipe σ' vs).set v none
      by_cases hm : i ∈ vs
      · rw [ih hm]
      · have ev : i = v := by rcases List.mem_cons.mp h with q | q; exact q; exact absurd q hm
        rw [wipe_put hm, ← ev, List.set_set]
  rw [key h, e]
theorem w0 {σ : L2.St} {vs : List Nat} : wipe (wipe σ vs) vs = wipe σ vs := by
  have key : ∀ ws : List Nat, (∀ i ∈ ws, i ∈ vs) → wipe (wipe σ vs) ws = wipe σ vs := by
    intro ws
    induction ws with
    | nil => intro _; rfl
    | cons w ws ih =>
      intro h
      show (wipe (wipe σ vs) ws).set w none = wipe σ vs
      rw [ih (fun i hi => h i (List.mem_cons_of_mem _ hi)), wipe_none (h w (List.mem_cons_self ..))]
  exact key vs fun i h => h
/-- a comprehension that makes one value a turn -/
theorem lc_map {J : It} {n : Nat} {G : Hp → Prop} {Y : Nat → Hp → V → Hp → Prop} (w : Walk J n G Y) (Rl : Hp → Hp → Prop) (tr : ∀ {A B C}, Rl A B → Rl B C → Rl A C)
    (R : Nat → V → Hp → Prop) (st : ∀ i y A B, Rl A B → R i y A → R i y B) {g : TG} {t : TE} {vs : List Nat} {σ : L2.St} {H1 : Hp} {Qd : Addr → Hp → Prop} (hz : n < sizeLine)
    (rf : Rl H1 H1) (hG : ∀ F D acc, Rl H1 F → F D = none → G (upd F D (.lst acc)))
    (hs : ∀ i x D acc F H', i < n → H1 D = none → Rl H1 F → F D = none → Y i (upd F D (.lst acc)) x H' → ∀ B : L2.St → Hp → Prop, (∀ σ2 Fm, wipe σ2 vs = wipe σ vs → Fm D = none →
      (∀ Qt : VK, (∀ y F', Rl F F' → R i y F' → Qt y F') → t σ2 Fm Qt) → B σ2 (upd Fm D (.lst acc))) → g x (wipe σ vs) H' B)
    (hd : ∀ D ys F, H1 D = none → Rl H1 F → F D = none → ys.length = n → (∀ (i : Nat) y, ys[i]? = some y → R i y F) → Qd D (upd F D (.lst ys))) :
    ∀ D, H1 D = none → ∃ W : Nat → Nat → Hp → Prop, (∃ m, W 0 m (upd H1 D (.lst []))) ∧ ∀ i m H, W i m H →
      (J.stop i H ∧ Qd D H) ∨ (J.go i H ∧ ∃ Nx : Hp → Prop, (∀ H', Nx H' → ∃ m', m' < m ∧ W (i + 1) m' H') ∧ ∀ x H', J.yld i H x H' → g x (wipe σ vs) H' fun σ2 H2 => wipe σ2 vs = wipe σ vs ∧ tYes σ2 H2 fun b H3 =>
        if b = true then tHide t σ2 H3 fun y H4 => ∃ acc, H4 D = some (.lst acc) ∧ acc.length < sizeLine ∧ Nx (upd H4 D (.lst (acc ++ [y]))) else Nx H3) := by
  intro D nD
  refine lc_it w (fun i H => ∃ ys F, H = upd F D (.lst ys) ∧ F D = none ∧ Rl H1 F ∧ ys.length = i ∧ ∀ (j : Nat) y, ys[j]? = some y → R j y F) ⟨[], H1, rfl, nD, rf, rfl, fun j y e => by simp at e⟩ ?_ ?_ ?_
  · rintro i H _ ⟨ys, F, rfl, nF, rl, _, _⟩
    exact hG F D ys rl nF
  · rintro i x H H' hi ⟨ys, F, rfl, nF, rl, hl, hR⟩ hy
    refine hs i x D ys F H' hi nD rl nF hy _ fun σ2 Fm hw nm ht => ⟨hw, ?_⟩
    unfold tYes; dsimp only
    rw [if_pos rfl]
    refine ⟨D, ys, upd_same, ?_⟩
    rw [delH_upd nm]
    refine ht _ fun y F' rl' r nF' => ⟨ys, upd_same, by omega, ys ++ [y], F', upd_upd, nF', tr rl rl', by rw [List.length_append, hl]; rfl, fun j z e => ?_⟩
    by_cases hj : j < ys.length
    · rw [List.getElem?_append_left hj] at e
      exact st j z F F' rl' (hR j z e)
    · rw [List.getElem?_append_right (by omega)] at e
      have hj0 : j - ys.length = 0 := by
        rcases Nat.eq_zero_or_pos (j - ys.length) with q | q
        · exact q
        · rw [List.getElem?_eq_none (by simp; omega)] at e; cases e
      rw [hj0] at e
      have e' : y = z := by simpa using e
      have ej : j = i := by omega
      rw [← e', ej]; exact r
  · rintro H ⟨ys, F, rfl, nF, rl, hl, hR⟩
    exact hd D ys F nD rl nF hl hR
/-! ### what is walked: a list or a tuple -/
def iSeq (K : PySem.W.Frag) (tl : TE) : TI := fun σ H R => tl σ H fun x H1 => ∃ a xs, x = .ref a ∧ Sq2 K H1 a xs ∧ ∀ J, Walk J xs.length (fun H => (¬ SqT K H1 a xs → SqL K H1 a xs → SqL K H a xs) ∧ (SqT K H1 a xs → SqT K H a xs)) (YAt xs) → R J H1
theorem pi_seq {X : Cx} {tg l : Expr} {tl : TE} (hl : PE X l tl) : PI X tg l (iSeq X.K tl) := by
  refine ⟨fun pins s σ H R I h => ?_⟩
  refine thn (hl.run pins s σ H _ I h) fun v s1 ⟨x, H1, I1, r1, q1⟩ => ?_
  obtain ⟨a, xs, e, hq, q⟩ := q1
  subst e
  cases r1
  have fp : ∀ b ∈ [s1.heap.objs.size], FpOk X pins H1 b := fun b hb => by
    have e : b = s1.heap.objs.size := by simpa using hb
    subst e
    exact I1.fpOk (Nat.le_refl _) (I1.hok.fresh (Nat.le_refl _))
  by_cases hT : SqT X.K H1 a xs
  rotate_left
  · have hq : SqL X.K H1 a xs := hq.resolve_right hT
    obtain ⟨its, rv, p, hz⟩ := I1.list hq
    refine wpAny_pyIter_list p.isList ⟨s1.heap.objs.size, [s1.heap.objs.size], _, _, H1, rfl, I1.kept (t' := s1.toks) fun b o e => Heap.get?_push_of_some _ e, turn_list a _, ⟨_, Heap.get?_push_size _ rfl, rfl, rfl⟩, fp, q (Itl X.K a) ?_⟩
    exact (walk_list (K := X.K) (a := a) (xs := xs)).mono (fun H g => g.1 hT hq) fun i H x H' _ _ y => y
  · obtain ⟨its, rv, p, hz⟩ := I1.tuple hT
    refine wpAny_pyIter_tuple (show s1.heap.IsTuple a its.toArray from p) ⟨s1.heap.objs.size, [s1.heap.objs.size], _, _, H1, rfl, I1.kept (t' := s1.toks) fun b o e => Heap.get?_push_of_some _ e, turn_tuple a _, ⟨_, Heap.get?_push_size _ rfl, rfl, rfl⟩, fp, q (Itt X.K a) ?_⟩
    exact (walk_tup (K := X.K) (a := a) (xs := xs)).mono (fun H g => g.2 hT) fun i H x H' _ _ y => y
/-- a, b, .. = a list or a tuple -/
def gAny (K : PySem.W.Frag) (n : Nat) (t : TGs) : TG := fun v σ H Q => ∃ a xs, v = .ref a ∧ Sq2 K H a xs ∧ xs.length = n ∧ t xs σ H Q
theorem pg_any {X : Cx} {es : List Expr} {k : Nat} {pos : Pos} {t : TGs} {n : Nat} (hc : X.calm = true) (h : PGs X es t)
    (hn : (assignEach es X.env).length = n := by rfl) (hst : (assignEach es X.env).findIdx? (·.1) = none := by rfl) : PG X (.Tuple es k pos) (gAny X.K n t) := by
  refine ⟨fun pins s σ H v u Q I r hw => ?_⟩
  obtain ⟨a, xs, e, hq, hl, hw⟩ := hw
  rcases hq with hq | hq
  · exact (pg_unl hc h hn hst).run pins s σ H v u Q I r ⟨a, xs, e, hq, hl, hw⟩
  · exact (pg_tup hc h hn hst).run pins s σ H v u Q I r ⟨a, xs, e, hq, hl, hw⟩
end XL
namespace XL
open PySem PySem.Spec PyProof.Rows L2
/-! ### data without lists: it stands while tuples stand -/
structure Tp (H H' : Hp) : Prop where
  t : ∀ a xs, H a = some (.tup xs) → H' a = some (.tup xs)
  f : ∀ a o xs, H a = some (.frz o (.tup xs)) → H' a = some (.frz o (.tup xs))
theorem Tp.of {H H' : Hp} (s : Same H H') : Tp H H' := ⟨fun a xs e => s _ _ e, fun a o xs e => s _ _ e⟩
theorem Tp.trans {A B C : Hp} (p : Tp A B) (q : Tp B C) : Tp A C := ⟨fun a xs e => q.t _ _ (p.t _ _ e), fun a o xs e => q.f _ _ _ (p.f _ _ _ e)⟩
theorem Tp.upd {H : Hp} {a : Addr} {xs : List V} {o : HO} (h : H a = some (.lst xs)) : Tp H (upd H a o) :=
  ⟨fun b ys e => by rw [upd_ne (fun z => by rw [z, h] at e; cases e)]; exact e, fun b o' ys e => by rw [upd_ne (fun z => by rw [z, h] at e; cases e)]; exact e⟩
theorem Tp.sqT {K : PySem.W.Frag} {H H' : Hp} {a : Addr} {xs : List V} (p : Tp H H') (h : SqT K H a xs) : SqT K H' a xs := by
  rcases h with (h | ⟨o, h⟩) | h
  · exact .inl (.inl (p.t _ _ h))
  · exact .inl (.inr ⟨o, p.f _ _ _ h⟩)
  · exact .inr h
mutual
def noL : PyData → Bool
  | .list _ => false
  | .tuple ds => noLs ds
  | _ => true
def noLs : List PyData → Bool
  | [] => true
  | d :: ds => noL d && noLs ds
end
section
variable {K : PySem.W.Frag} {H H' : Hp}
mutual
theorem Dp.tp (p : Tp H H') : ∀ {v : V} (d : PyData), noL d = true → Dp K H v d → Dp K H' v d
  | _, .none, _, h => by cases h; exact .non
  | _, .bool b, _, h => by cases h; exact .bl b
  | _, .int i, _, h => by cases h; exact .int i
  | _, .str x, _, h => by cases h; exact .str x
  | _, .list ds, n, h => by simp [noL] at n
  | _, .tuple ds, n, h => by
    cases h with
    | tup hs ha => exact .tup (p.sqT hs) (DpAll.tp p ds (by simpa [noL] using n) ha)
  | _, .dict _, _, h => by cases h
theorem DpAll.tp (p : Tp H H') : ∀ {vs : List V} (ds : List PyData), noLs ds = true → DpAll K H vs ds → DpAll K H' vs ds
  | _, [], _, h => by cases h; exact .nil
  | _, d :: ds, n, h => by
    cases h with
    | cons h1 h2 =>
      rw [noLs, Bool.and_eq_true] at n
      exact .cons (Dp.tp p d n.1 h1) (DpAll.tp p ds n.2 h2)
end
end
/-! ### canals as data -/
abbrev Lk := Int × Int × Int × Int
def lkD (l : Lk) : PyData := .tuple [.int l.1, .int l.2.1, .int l.2.2.1, .int l.2.2.2]
structure Cn where
  r : Int
  b : Int
  ls : List Lk
def cnD (c : Cn) : PyData := .tuple [.int c.r, .int c.b, .tuple (c.ls.map lkD)]
structure okLk (r b : Int) (l : Lk) : Prop where
  a0 : 0 ≤ l.1
  a1 : l.1 < r
  c0 : 0 ≤ l.2.1
  c1 : l.2.1 < r
  x0 : 0 ≤ l.2.2.1
  x1 : l.2.2.1 < b
  y0 : 0 ≤ l.2.2.2
  y1 : l.2.2.2 < b
structure okCn (wide utmost : Nat) (c : Cn) : Prop where
  r1 : 1 ≤ c.r
  r2 : c.r ≤ wide
  b1 : 1 ≤ c.b
  b2 : c.b ≤ wide
  n : c.ls.length ≤ utmost
  l : ∀ l ∈ c.ls, okLk c.r c.b l
theorem noLs_lk : ∀ ls : List Lk, noLs (ls.map lkD) = true
  | [] => rfl
  | l :: ls => by rw [List.map_cons, noLs, noLs_lk ls]; rfl
theorem noL_cn (c : Cn) : noL (cnD c) = true := by
  show noLs [.int c.r, .int c.b, .tuple (c.ls.map lkD)] = true
  simp [noLs, noL, noLs_lk]
theorem lk_lay (l : Lk) : (lkD l).canLay0 = true := by simp [lkD, PyData.canLay0, PyData.canLayAll0]
theorem lk_depth (l : Lk) : (lkD l).depth = 1 := by simp [lkD, PyData.depth, PyData.depthAll]
theorem lks_lay : ∀ ls : List Lk, PyData.canLayAll0 (ls.map lkD) = true
  | [] => by simp [PyData.canLayAll0]
  | l :: ls => by simp [PyData.canLayAll0, lk_lay l, lks_lay ls]
theorem lks_depth : ∀ ls : List Lk, PyData.depthAll (ls.map lkD) ≤ 1
  | [] => by simp [PyData.depthAll]
  | l :: ls => by
    have h1 := lks_depth ls; have h2 := lk_depth l
    simp only [List.map_cons, PyData.depthAll]; omega
theorem lks_shaped (ls : List Lk) : SeqAt.shaped (.list (ls.map lkD)) = true := by
  have h1 := lks_depth ls
  have h2 : PyData.depth (.list (ls.map lkD)) ≤ 64 := by simp only [PyData.depth]; omega
  show (PyData.canLay0 (.list (ls.map lkD)) && decide (PyData.depth (.list (ls.map lkD)) ≤ 64)) = true
  rw [Bool.and_eq_true]; exact ⟨by simp only [PyData.canLay0]; exact lks_lay ls, decide_eq_true h2⟩
theorem nil_shaped : SeqAt.shaped (.list []) = true := lks_shaped []
theorem eqv_nil (ls : List Lk) : PyData.eqv (.list (ls.map lkD)) (.list []) = ls.isEmpty := by
  cases ls with
  | nil => simp [PyData.eqv, PyData.eqvAll]
  | cons l ls => simp [PyData.eqv, PyData.eqvAll]
end XL
namespace PySem
namespace XEn
open Sem (wp)
set_option maxHeartbeats 1000000 in
theorem meets_new1 {v : Value} {o : Obj} {H : Heap → Prop} (B : Begins v o H) :
    Meets (Builtin.«enumerate.__new__» ⟨[.type "enumerate", v], []⟩) (fun _ R s => H s.heap ∧
      R (.ok (.ret (.ref (s.heap.push o).objs.size))) { s with heap := (s.heap.push o).push { cls := .type "enumerate", data := .fields #[.none, .bool false, .ref s.heap.objs.size, rawInt 0, .none, .none] } }) :=
  .of_wp fun prog w A R s h => by
    obtain ⟨hp, g, d, tk, os⟩ := s; obtain ⟨h1, h⟩ := h
    have hsub := sub_enumerate
    have q1 : ∀ {A' : Around} {E : Value → Shared → Prop} {Q : Value → Shared → Prop}, Q (.ref hp.objs.size) ⟨hp.push o, g, d, tk, os⟩ → wpAny (model prog w) A' (pyIter v) Q E ⟨hp, g, d, tk, os⟩ :=
      fun q => B.iter prog w _ _ ⟨hp, g, d, tk, os⟩ _ h1 q
    wp_walk using q1
    refine wpAny_stack_any fun st => wpAny_pure ?_
    split
    · rename_i c _ _ _ _ _
      cases (c == Value.type "enumerate")
      · wp_walk using q1
        exact ⟨_, rfl, h⟩
      · wp_walk using q1
        exact ⟨_, rfl, h⟩
    · wp_walk using q1
      exact ⟨_, rfl, h⟩
section
variable {prog : Program} {w : World} {A : Around} {E : Value → Shared → Prop} {s : Shared}
theorem begins1 {v : Value} {o : Obj} {H : Heap → Prop} {Q : Value → Shared → Prop} (B : Begins v o H) (h1 : H s.heap)
    (h : ∀ h', IsEnum h' (s.heap.objs.size + 1) s.heap.objs.size 0 .none → h'.get? s.heap.objs.size = some o → h'.objs.size = s.heap.objs.size + 2 →
      (∀ b o, s.heap.get? b = some o → h'.get? b = some o) → Q (.ref (s.heap.objs.size + 1)) { s with heap := h' }) :
    wpAny (model prog w) A (call (.type "enumerate") [v]) Q E s := by
  refine callType_new F.called_enumerate (by decide) (F.typeCall_enumerate_1 _) (F.newCall_enumerate_1 _) (fun obj => F.args_object_init_2 obj _) F.entry_enumerate_new
    (meets_new1 B) ⟨h1, ?_⟩
  have hz : (s.heap.push o).objs.size = s.heap.objs.size + 1 := Heap.size_push ..
  show _ ∧ _
  rw [hz]
  have he : IsEnum ((s.heap.push o).push { cls := .type "enumerate", data := .fields #[.none, .bool false, .ref s.heap.objs.size, rawInt 0, .none, .none] }) (s.heap.objs.size + 1) s.heap.objs.size 0 .none := by
    have := Heap.get?_push_size (s.heap.push o) (o := { cls := .type "enumerate", data := .fields #[.none, .bool false, .ref s.heap.objs.size, rawInt 0, .none, .none] }) rfl
    rw [hz] at this; exact this
  refine ⟨⟨_, he, rfl⟩, h _ he (Heap.get?_push_of_some _ (Heap.get?_push_size _ B.free)) (by rw [Heap.size_push, hz]) fun b o x => Heap.get?_push_of_some _ (Heap.get?_push_of_some _ x)⟩
end
end XEn
end PySem
namespace XL
open PySem PySem.Spec PyProof.Rows L2
/-! ### enumerate(tuple) -/
def IteT (K : PySem.W.Frag) (a : Addr) : It :=
  ⟨fun i H => ∃ (xs : List V) (x : V), SqT K H a xs ∧ xs[i]? = some x, fun i H v H' => ∃ T x, v = .ref T ∧ H T = none ∧ H' = upd H T (.tup [.int (i : Nat), x]) ∧ ∀ xs, SqT K H a xs → xs[i]? = some x, fun i H => ∃ xs : List V, SqT K H a xs ∧ xs.length = i⟩
theorem tup_ne {h : Heap} {it a : Addr} {i : Nat} {its : Array Value} (h1 : h.IsTupleIter it a i) (h2 : h.IsTuple a its) : a ≠ it := fun z => by
  obtain ⟨o, e, c, d⟩ := h1
  obtain ⟨o', e', c', _⟩ := h2
  rw [z, e] at e'
  cases e'
  rw [c] at c'
  exact absurd c' (by decide)
theorem turn_enumT {P : Program} {w : World} {K : PySem.W.Frag} {elts : List Expr} {kk : Nat} {tpos : Pos} (a e it : Addr) :
    Turn P w K (.Tuple elts kk tpos) (IteT K a) [e, it] e (fun i h => (∃ old, IsEnum h e it ((i : Nat) : Int) old) ∧ h.IsTupleIter it a i ∧ e ≠ it) where
  mem := by simp
  obj := fun i h st b hb => by
    obtain ⟨⟨old, he⟩, ⟨o, ho, hc, hd⟩, _⟩ := st
    have e' : b = e ∨ b = it := by simpa using hb
    rcases e' with z | z
    · rw [z]; exact ⟨_, he, fun v q => nomatch q⟩
    · rw [z]; exact ⟨o, ho, fun v q => by rw [hd] at q; cases q⟩
  keep := fun i h h' st k => let ⟨⟨old, he⟩, hi, hne⟩ := st; ⟨⟨old, k e (by simp) _ he⟩, hi.at fun o q => k it (by simp) o q, hne⟩
  item := by
    intro X hP hw hK hc i pins s σ H E I hf st hg
    subst hP hw hK
    obtain ⟨⟨old, he⟩, hit, hne⟩ := st
    obtain ⟨xs, x, hq, hx⟩ := hg
    obtain ⟨its, rv, p, hz⟩ := I.tuple hq
    have p' : s.heap.IsTuple a its.toArray := p
    obtain ⟨u, hu, ru⟩ := rv.get hx
    have hel : e < s.heap.objs.size := Heap.lt_size he
    have hil : it < s.heap.objs.size := by obtain ⟨_, q, _⟩ := hit; exact Heap.lt_size q
    have hai := tup_ne hit p'
    have hae : e ∉ [it, a] := by
      intro z
      have z' : e = it ∨ e = a := by simpa using z
      rcases z' with z | z
      · exact hne z
      · obtain ⟨o', e', c', _⟩ := p'
        rw [← z, he] at e'
        cases e'
        exact absurd (show Value.type "enumerate" = Value.type "tuple" from c') (by decide)
    have hi : i < its.toArray.size := by
      rw [List.size_toArray]
      rcases Nat.lt_or_ge i its.length with q | q
      · exact q
      · rw [List.getElem?_eq_none q] at hu; cases hu
    refine wpAny_pyNext_enum_itemD (Draws.tuple (A := X.A.in1) (I.ok.hd hc) it a hai its.toArray) he ⟨hit, p'⟩ hi hne hae fun u' h' tk hu' ho hit' hT hsz hk => ?_
    have eu : u' = u := by
      have h1 : its.toArray[i]? = some u' := hu'
      rw [List.getElem?_toArray, hu] at h1
      exact (Option.some.inj h1).symm
    subst eu
    refine ⟨_, rfl, wpAny_letOwnedTupleGo_enum (s := { s with heap := h', toks := tk + 1 }) ho fun h'' he' sb => ?_⟩
    have hT2 : h''.get? s.heap.objs.size = some { cls := .type "tuple", data := .seq #[.int i tk, u'] } := (sb.2 _ (Nat.ne_of_gt hel)).trans hT
    have new : ObjOk X.prog X.w (upd H s.heap.objs.size (.tup [.int (i : Nat), x])) h'' s.heap.objs.size (.tup [.int (i : Nat), x]) :=
      ⟨by show 2 ≤ sizeLine; decide, [.int i tk, u'], .cons ⟨_, rfl⟩ (.cons ru .nil), ⟨_, hT2, rfl, _, rfl⟩⟩
    have I1 : Inv X pins σ (upd H s.heap.objs.size (.tup [.int (i : Nat), x])) { s with heap := h'', toks := tk + 1 } :=
      I.turnedNew (ch := [e, it]) (fun b ob hb q => (sb.2 b (fun z => hb (by simp [z]))).trans (hk b ob (fun z => hb (by simp [z])) (fun z => hb (by simp [z])) q)) hf (Nat.le_refl _) new
    refine ⟨.ref s.heap.objs.size, _, I1, rfl, ⟨_, x, rfl, I.hok.fresh (Nat.le_refl _), rfl, fun ys hy => by rw [I.tuple_inj hy hq]; exact hx⟩, ⟨⟨u', ?_⟩, hit'.1.at fun o q => (sb.2 it (Ne.symm hne)).trans q, hne⟩, fun b hb => ?_⟩
    · have e1 : ((i + 1 : Nat) : Int) = (i : Int) + 1 := by omega
      rw [e1]; exact he'
    · have hb' : b < s.heap.objs.size := by
        have e' : b = e ∨ b = it := by simpa using hb
        rcases e' with z | z
        · rw [z]; exact hel
        · rw [z]; exact hil
      rw [upd_ne (Nat.ne_of_lt hb')]
      exact (hf b hb).1
  done := by
    intro X hP hw hK hc i pins s σ H E I hf st hg
    subst hP hw hK
    obtain ⟨⟨old, he⟩, hit, hne⟩ := st
    obtain ⟨xs, hq, hx⟩ := hg
    obtain ⟨its, rv, p, hz⟩ := I.tuple hq
    have p' : s.heap.IsTuple a its.toArray := p
    obtain ⟨f0, f1, f2, f3, f4, f5⟩ := hf it (by simp)
    have hl := rv.length
    have hn : i = its.toArray.size := by rw [List.size_toArray]; omega
    subst hn
    exact wpAny_pyNext_enum_endD (Draws.tuple (A := X.A.in1) (I.ok.hd hc) it a (tup_ne hit p') its.toArray) he ⟨hit, p'⟩ fun h' eb => ⟨rfl, I.turned (t' := s.toks) (fun b o hb q => eb b o hb q) f0 f1 f3 f4 f5⟩
  self := fun A i s Q E st h => let ⟨⟨_, he⟩, _⟩ := st; wpAny_pyIter_enum he h
theorem walk_enumT {K : PySem.W.Frag} {a : Addr} {xs : List V} : Walk (IteT K a) xs.length (fun H => SqT K H a xs) (YPair (fun i => some (.int (i : Nat))) (fun i => xs[i]?)) := by
  refine ⟨fun i _ hi q => ⟨xs, xs[i], q, by simp [hi]⟩, fun _ q => ⟨xs, q, rfl⟩, fun i H v H' _ q y => ?_⟩
  obtain ⟨T, x, h1, h2, h3, h4⟩ := y
  exact ⟨T, .int (i : Nat), x, h1, h2, h3, rfl, h4 xs q⟩
def iEnumT (K : PySem.W.Frag) (ta : TA) : TI := fun σ H R => ta σ H fun vs H1 => ∃ a xs, vs = [.ref a] ∧ SqT K H1 a xs ∧ R (IteT K a) H1
theorem pi_enumT {X : Cx} {e : Expr} {ta : TA} {p pos tpos : Pos} {elts : List Expr} {kk : Nat} (hg : Gl X "enumerate") (hm : X.mg "enumerate" = none) (ha : PA X [e] ta) (hs : starEach [e] X.env = [(false, eval e X.env)] := by rfl) :
    PI X (.Tuple elts kk tpos) (.Call (.Name "enumerate" p) [e] [] pos) (iEnumT X.K ta) := by
  refine ⟨fun pins s σ H R I h => ?_⟩
  refine Call_ (ld_blt I hg hm boot_enumerate (PyProof.Rows.callWith_type1 (thn (ha.run pos pins s σ H _ I h) fun us s1 ⟨vs, H1, I1, r1, q1⟩ => ?_) hs rfl))
  obtain ⟨a, xs, ex, hq, q⟩ := q1
  subst ex
  cases r1 with
  | cons r rr =>
    cases rr
    cases r
    obtain ⟨its, rv, p', hz⟩ := I1.tuple hq
    refine PySem.XEn.begins1 (begins_tuple a its.toArray) (show s1.heap.IsTuple a its.toArray from p') fun h' he hit hsz hk => wpAny_pyIter_enum he ?_
    have I2 : Inv X pins σ H1 { s1 with heap := h' } := I1.kept (t' := s1.toks) hk
    refine ⟨s1.heap.objs.size + 1, [s1.heap.objs.size + 1, s1.heap.objs.size], _, _, H1, rfl, I2, turn_enumT a (s1.heap.objs.size + 1) s1.heap.objs.size, ⟨⟨.none, he⟩, ⟨_, hit, rfl, rfl⟩, Nat.succ_ne_self _⟩, fun b hb => ?_, q⟩
    have e' : b = s1.heap.objs.size + 1 ∨ b = s1.heap.objs.size := by simpa using hb
    have hle : s1.heap.objs.size ≤ b := by
      rcases e' with z | z
      · rw [z]; exact Nat.le_add_right _ _
      · rw [z]; exact Nat.le_refl _
    exact I1.fpOk hle (I1.hok.fresh hle)
end XL
namespace XL
open PySem PySem.Spec PyProof.Rows L2
/-! ### small words that all laws want -/
theorem at_s {T : L2.St → Hp → Prop} {σ σ' : L2.St} {H : Hp} (e : σ = σ') (h : T σ' H) : T σ H := e ▸ h
theorem at_g {i : Nat} {x : V} {σ σ' : L2.St} {H : Hp} {N : L2.St → Hp → Prop} (e : σ.set i (some x) = σ') (h : N σ' H) : gName i x σ H N := by
  subst e; exact h
/-- a heap by what is known of it -/
theorem at_h {T : L2.St → Hp → Prop} {σ : L2.St} {H : Hp} (Pf : Hp → Prop) (hp : Pf H) (h : ∀ G, Pf G → T σ G) : T σ H := h H hp
structure Fns (P : Program) (w : World) (K : PySem.W.Frag) (mg : Str → Option Value) (base : Heap) (n : Nat) (name : Str) (ps : List Str) (sp : Sp) (f : Addr) (fd : FuncData) : Prop where
  ok : FnOk P w K mg base CX0 n f fd ps sp
  g : mg name = some (.ref f)
  k : PySem.W.keepIn K (.ref f) = true
  b : Binds K fd ps []
theorem pe_fn {X : Cx} {n : Nat} {name : Str} {ps : List Str} {sp : Sp} {f : Addr} {fd : FuncData} {p pos : Pos} {e : Expr} {es : List Expr} {t : TA} (F : Fns X.prog X.w X.K X.mg X.base n name ps sp f fd) (hr : Room n X.A) (hg : Gl X name) (ha : PA X (e :: es) t)
    (hdb : (name == ("__debug__" : Str)) = false := by decide) (he : starEach (e :: es) X.env = (false, eval e X.env) :: starEach es X.env := by rfl) (hpl : (backTo pos (starEach es X.env)).any (·.1) = false := by rfl) (hx : Passes CX0 X E0 := by exact pass0) :
    PE X (.Call (.Name name p) (e :: es) [] pos) (tCall sp [] E0 t) := pe_call F.ok hr hg F.g F.k F.b .nil hx ha hdb he hpl
theorem room65 {k : Nat} {A : Around} (r : Room k A) : A.units + 65 < cLine := by have := r.un; omega
/-- an item of a list or a tuple -/
def rIxA (K : PySem.W.Frag) : R2 := fun x y H Q => ∃ p xs i v, x = .ref p ∧ y = .int i ∧ Sq2 K H p xs ∧ atI xs i = some v ∧ Q v H
theorem ix_any {X : Cx} : IxR X (rIxA X.K) := by
  intro value slice pins s σ H x y v u Q I rx ry h hs
  obtain ⟨p, xs, i, z, e1, e2, hq, he, q⟩ := h
  rcases hq with hq | hq
  · exact ix_list value slice pins s σ H x y v u Q I rx ry ⟨p, xs, i, z, e1, e2, hq, he, q⟩ hs
  · exact ix_tup value slice pins s σ H x y v u Q I rx ry ⟨p, xs, i, z, e1, e2, hq, he, q⟩ hs
/-! ### built-ins over lists and tuples, their relations by name (within comprehensions they are given by hand) -/
def rLenA (K : PySem.W.Frag) : List V → Hp → VK → Prop := fun xs H Q => ∃ p ys, xs = [.ref p] ∧ (SqL K H p ys ∨ SqT K H p ys) ∧ Q (.int ys.length) H
theorem call_lenA {X : Cx} : CallR X (.builtin "len") (rLenA X.K) := call_len_seq
def rLstA (K : PySem.W.Frag) : List V → Hp → VK → Prop := fun xs H Q => ∃ p ys, xs = [.ref p] ∧ (SqL K H p ys ∨ SqT K H p ys) ∧ ∀ l, H l = none → Q (.ref l) (upd H l (.lst ys))
theorem call_listA {X : Cx} : CallR X (.type "list") (rLstA X.K) := call_list_of
def rTupA (K : PySem.W.Frag) : List V → Hp → VK → Prop := fun xs H Q => ∃ p ys, xs = [.ref p] ∧ ((SqL K H p ys ∧ ∀ l, H l = none → Q (.ref l) (upd H l (.tup ys))) ∨ SqT K H p ys ∧ Q (.ref p) H)
theorem call_tupleA {X : Cx} : CallR X (.type "tuple") (rTupA X.K) := call_tuple_of
/-- a comprehension, by an invariant over all that was made so far -/
theorem lc_acc {J : It} {n : Nat} {G : Hp → Prop} {Y : Nat → Hp → V → Hp → Prop} (w : Walk J n G Y) (Iv : Nat → List V → Hp → Prop) {g : TG} {t : TE} {vs : List Nat} {σ : L2.St} {H1 : Hp} {Qd : Addr → Hp → Prop} (hz : n < sizeLine)
    (h0 : Iv 0 [] H1) (hG : ∀ i F D acc, Iv i acc F → F D = none → G (upd F D (.lst acc)))
    (hs : ∀ i x D acc F H', i < n → H1 D = none → Iv i acc F → F D = none → Y i (upd F D (.lst acc)) x H' → ∀ B : L2.St → Hp → Prop, (∀ σ2 Fm, wipe σ2 vs = wipe σ vs → Fm D = none →
      (∀ Qt : VK, (∀ y F', Iv (i + 1) (acc ++ [y]) F' → Qt y F') → t σ2 Fm Qt) → B σ2 (upd Fm D (.lst acc))) → g x (wipe σ vs) H' B)
    (hd : ∀ D ys F, H1 D = none → Iv n ys F → F D = none → ys.length = n → Qd D (upd F D (.lst ys))) :
    ∀ D, H1 D = none → ∃ W : Nat → Nat → Hp → Prop, (∃ m, W 0 m (upd H1 D (.lst []))) ∧ ∀ i m H, W i m H →
      (J.stop i H ∧ Qd D H) ∨ (J.go i H ∧ ∃ Nx : Hp → Prop, (∀ H', Nx H' → ∃ m', m' < m ∧ W (i + 1) m' H') ∧ ∀ x H', J.yld i H x H' → g x (wipe σ vs) H' fun σ2 H2 => wipe σ2 vs = wipe σ vs ∧ tYes σ2 H2 fun b H3 =>
        if b = true then tHide t σ2 H3 fun y H4 => ∃ acc, H4 D = some (.lst acc) ∧ acc.length < sizeLine ∧ Nx (upd H4 D (.lst (acc ++ [y]))) else Nx H3) := by
  intro D nD
  refine lc_it w (fun i H => ∃ ys F, H = upd F D (.lst ys) ∧ F D = none ∧ Iv i ys F ∧ ys.length = i) ⟨[], H1, rfl, nD, h0, rfl⟩ ?_ ?_ ?_
  · rintro i H _ ⟨ys, F, rfl, nF, iv, _⟩
    exact hG i F D ys iv nF
  · rintro i x H H' hi ⟨ys, F, rfl, nF, iv, hl⟩ hy
    refine hs i x D ys F H' hi nD iv nF hy _ fun σ2 Fm hw nm ht => ⟨hw, ?_⟩
    unfold tYes; dsimp only
    rw [if_pos rfl]
    refine ⟨D, ys, upd_same, ?_⟩
    rw [delH_upd nm]
    exact ht _ fun y F' iv' nF' => ⟨ys, upd_same, by omega, ys ++ [y], F', upd_upd, nF', iv', by rw [List.length_append, hl]; rfl⟩
  · rintro H ⟨ys, F, rfl, nF, iv, hl⟩
    exact hd D ys F nD iv nF hl
/-! ### calls by keywords alone: one, two in their order or turned -/
def g1 : List α → List α → List α
  | [], [x] => [x]
  | _, _ => []
def g2 : List α → List α → List α
  | [], [x, y] => [y, x]
  | _, _ => []
section
variable {K : PySem.W.Frag}
theorem kb1 {x qual p : Str} {st : Stmt} {f : Addr} {fd : FuncData} (F : Fun K x qual st f fd)
    (h : ∀ (kV doc pm : Value) (an : Option Addr) (cdv ct v : Value), bindArgs (PySem.W.fnOf x qual (defArgs st) (defBody st) (defScope st) .none kV doc pm an cdv ct) ⟨[], [(p, v)]⟩ = pure [(p, v)]) : KBinds K fd [p] [p] g1 g1 := by
  obtain ⟨oc, od, kV, doc, pm, an, cdv, ct, osl, rfl, lk, hcd⟩ := F.ex
  refine ⟨fun s us ws _ hl => ?_, fun {vs us zs ws} r1 r2 => ?_⟩
  · match us, ws, hl with
    | [], [v], _ => exact .of_eq (h kV doc pm an cdv ct v)
  · cases r1 with
    | nil =>
      cases r2 with
      | nil => exact .nil
      | cons a r =>
        cases r with
        | nil => exact .cons a .nil
        | cons _ _ => exact .nil
    | cons _ _ => exact .nil
theorem kb2 {x qual p q : Str} {st : Stmt} {f : Addr} {fd : FuncData} (F : Fun K x qual st f fd)
    (h : ∀ (kV doc pm : Value) (an : Option Addr) (cdv ct v u : Value), bindArgs (PySem.W.fnOf x qual (defArgs st) (defBody st) (defScope st) .none kV doc pm an cdv ct) ⟨[], [(q, v), (p, u)]⟩ = pure [(p, u), (q, v)]) : KBinds K fd [p, q] [q, p] g2 g2 := by
  obtain ⟨oc, od, kV, doc, pm, an, cdv, ct, osl, rfl, lk, hcd⟩ := F.ex
  refine ⟨fun s us ws _ hl => ?_, fun {vs us zs ws} r1 r2 => ?_⟩
  · match us, ws, hl with
    | [], [v, u], _ => exact .of_eq (h kV doc pm an cdv ct v u)
  · cases r1 with
    | nil =>
      cases r2 with
      | nil => exact .nil
      | cons a r =>
        cases r with
        | nil => exact .nil
        | cons a2 r =>
          cases r with
          | nil => exact .cons a2 (.cons a .nil)
          | cons _ _ => exact .nil
    | cons _ _ => exact .nil
/-- three, turned -/
def g3r {α : Type} : List α → List α → List α
  | [], [x, y, z] => [z, y, x]
  | _, _ => []
theorem kb3r {x qual p q r : Str} {st : Stmt} {f : Addr} {fd : FuncData} (F : Fun K x qual st f fd)
    (h : ∀ (kV doc pm : Value) (an : Option Addr) (cdv ct v u z : Value), bindArgs (PySem.W.fnOf x qual (defArgs st) (defBody st) (defScope st) .none kV doc pm an cdv ct) ⟨[], [(r, v), (q, u), (p, z)]⟩ = pure [(p, z), (q, u), (r, v)]) : KBinds K fd [p, q, r] [r, q, p] g3r g3r := by
  obtain ⟨oc, od, kV, doc, pm, an, cdv, ct, osl, rfl, lk, hcd⟩ := F.ex
  refine ⟨fun s us ws _ hl => ?_, fun {vs us zs ws} r1 r2 => ?_⟩
  · match us, ws, hl with
    | [], [v, u, z], _ => exact .of_eq (h kV doc pm an cdv ct v u z)
  · cases r1 with
    | nil =>
      cases r2 with
      | nil => exact .nil
      | cons a r =>
        cases r with
        | nil => exact .nil
        | cons a2 r =>
          cases r with
          | nil => exact .nil
          | cons a3 r =>
            cases r with
            | nil => exact .cons a3 (.cons a2 (.cons a .nil))
            | cons _ _ => exact .nil
    | cons _ _ => exact .nil
end
end XL
namespace XL
open PySem PySem.Spec PyProof.Rows L2
/-! ### a comprehension over zip of two: both lists, or both tuples -/
theorem walk_zipT {K : PySem.W.Frag} {a b : Addr} {xs ys : List V} {n : Nat} (hn : n = min xs.length ys.length) : Walk (RZ.ItzT K a b) n (fun H => SqT K H a xs ∧ SqT K H b ys) (YPair (fun i => xs[i]?) (fun i => ys[i]?)) := by
  subst hn
  refine ⟨fun i _ hi q => ?_, fun _ q => ⟨xs, ys, q.1, q.2, by omega⟩, fun i H v H' _ q y => ?_⟩
  · have h1 : i < xs.length := by omega
    have h2 : i < ys.length := by omega
    exact ⟨xs, ys, xs[i], ys[i], q.1, q.2, by simp [h1], by simp [h2]⟩
  · obtain ⟨T, x, z, h1, h2, h3, h4, h5⟩ := y
    exact ⟨T, x, z, h1, h2, h3, h4 xs q.1, h5 ys q.2⟩
def iZ2 (K : PySem.W.Frag) (ta : TA) : TI := fun σ H R => ta σ H fun vs H1 => ∃ a b xs ys, vs = [.ref a, .ref b] ∧ ((SqL K H1 a xs ∧ SqL K H1 b ys) ∨ (SqT K H1 a xs ∧ SqT K H1 b ys)) ∧
  ∀ J, Walk J (min xs.length ys.length) (fun H => Same H1 H) (YPair (fun i => xs[i]?) (fun i => ys[i]?)) → R J H1
theorem pi_z2 {X : Cx} {e e2 : Expr} {ta : TA} {p pos tpos : Pos} {elts : List Expr} {kk : Nat} (hg : Gl X "zip") (hm : X.mg "zip" = none) (ha : PA X [e, e2] ta)
    (hs : starEach [e, e2] X.env = (false, eval e X.env) :: starEach [e2] X.env := by rfl) (hpl : (backTo pos (starEach [e2] X.env)).any (·.1) = false := by rfl) :
    PI X (.Tuple elts kk tpos) (.Call (.Name "zip" p) [e, e2] [] pos) (iZ2 X.K ta) := by
  refine ⟨fun pins s σ H R I h => ?_⟩
  refine Call_ (ld_blt I hg hm PyProof.Rows.boot_zip (PyProof.Rows.callWith_type1 (thn (ha.run pos pins s σ H _ I h) fun us s1 ⟨vs, H1, I1, r1, q1⟩ => ?_) hs hpl))
  obtain ⟨a, b, xs, ys, ex, q1, q⟩ := q1
  subst ex
  cases r1 with
  | cons r rr =>
    cases rr with
    | cons r' rr =>
      cases rr
      cases r
      cases r'
      have fresh5 : ∀ c, c ∈ [s1.heap.objs.size + 4, s1.heap.objs.size + 2, s1.heap.objs.size + 3, s1.heap.objs.size, s1.heap.objs.size + 1] → FpOk X pins H1 c := fun c hcm => by
        have e' : c = s1.heap.objs.size + 4 ∨ c = s1.heap.objs.size + 2 ∨ c = s1.heap.objs.size + 3 ∨ c = s1.heap.objs.size ∨ c = s1.heap.objs.size + 1 := by simpa using hcm
        have hle : s1.heap.objs.size ≤ c := by
          rcases e' with z | z | z | z | z
          · rw [z]; exact Nat.le_add_right _ _
          · rw [z]; exact Nat.le_add_right _ _
          · rw [z]; exact Nat.le_add_right _ _
          · rw [z]; exact Nat.le_refl _
          · rw [z]; exact Nat.le_add_right _ _
        exact I1.fpOk hle (I1.hok.fresh hle)
      rcases q1 with ⟨hqx, hqy⟩ | ⟨hqx, hqy⟩
      · obtain ⟨its, rv, p1, _⟩ := I1.list hqx
        obtain ⟨its2, rv2, p2, _⟩ := I1.list hqy
        refine call_zip_2 p1.isList p2.isList fun h' hz hTI hTO h1 h2 hsz hk => wpAny_pyIter_zip hz ?_
        have I2 : Inv X pins σ H1 { s1 with heap := h' } := I1.kept (t' := s1.toks) hk
        exact ⟨s1.heap.objs.size + 4, [s1.heap.objs.size + 4, s1.heap.objs.size + 2, s1.heap.objs.size + 3, s1.heap.objs.size, s1.heap.objs.size + 1], _, _, H1, rfl, I2, turn_zip (PySem.W.ktu_apart s1.heap.objs.size a b p1.lt p2.lt), ⟨hz, hTI, ⟨_, _, hTO⟩, h1, h2⟩, fresh5, q _ ((walk_zip rfl).mono (fun H s => ⟨s.seq hqx, s.seq hqy⟩) fun _ _ _ _ _ _ y => y)⟩
      · obtain ⟨its, rv, p1, _⟩ := I1.tuple hqx
        obtain ⟨its2, rv2, p2, _⟩ := I1.tuple hqy
        obtain ⟨o1, ho1, _⟩ := id p1
        obtain ⟨o2, ho2, _⟩ := id p2
        refine RZ.call_zipT (show s1.heap.IsTuple a its.toArray from p1) (show s1.heap.IsTuple b its2.toArray from p2) fun h' hz hTI hTO h1 h2 hsz hk => wpAny_pyIter_zip hz ?_
        have I2 : Inv X pins σ H1 { s1 with heap := h' } := I1.kept (t' := s1.toks) hk
        exact ⟨s1.heap.objs.size + 4, [s1.heap.objs.size + 4, s1.heap.objs.size + 2, s1.heap.objs.size + 3, s1.heap.objs.size, s1.heap.objs.size + 1], _, _, H1, rfl, I2, RZ.turn_zipT (PySem.W.ktu_apart s1.heap.objs.size a b (Heap.lt_size ho1) (Heap.lt_size ho2)), ⟨hz, hTI, ⟨_, _, hTO⟩, h1, h2⟩, fresh5, q _ ((walk_zipT rfl).mono (fun H s => ⟨Same.tup s hqx, Same.tup s hqy⟩) fun _ _ _ _ _ _ y => y)⟩
/-! ### zip of three lists -/
def YTrip (xs ys zs : Nat → Option V) : Nat → Hp → V → Hp → Prop := fun i H v H' => ∃ T x y z, v = .ref T ∧ H T = none ∧ H' = upd H T (.tup [x, y, z]) ∧ xs i = some x ∧ ys i = some y ∧ zs i = some z
def Itz3 (K : PySem.W.Frag) (a b c : Addr) : It :=
  ⟨fun i H => ∃ (xs ys zs : List V) (x y z : V), SqL K H a xs ∧ SqL K H b ys ∧ SqL K H c zs ∧ xs[i]? = some x ∧ ys[i]? = some y ∧ zs[i]? = some z,
    fun i H v H' => ∃ T x y z, v = .ref T ∧ H T = none ∧ H' = upd H T (.tup [x, y, z]) ∧ (∀ xs, SqL K H a xs → xs[i]? = some x) ∧ (∀ ys, SqL K H b ys → ys[i]? = some y) ∧ ∀ zs, SqL K H c zs → zs[i]? = some z,
    fun i H => ∃ xs ys zs : List V, SqL K H a xs ∧ SqL K H b ys ∧ SqL K H c zs ∧ i ≤ xs.length ∧ i ≤ ys.length ∧ i ≤ zs.length ∧ (i = xs.length ∨ i = ys.length ∨ i = zs.length)⟩
theorem turn_zip3 {P : Program} {w : World} {K : PySem.W.Frag} {elts : List Expr} {kk : Nat} {tpos : Pos} {a b c z TI TO i1 i2 i3 : Addr} (S : ZipSep3 z TI TO i1 i2 i3 [i1, a] [i2, b] [i3, c]) (na : a ≠ i1) (nb : b ≠ i2) (nc : c ≠ i3) :
    Turn P w K (.Tuple elts kk tpos) (Itz3 K a b c) [z, TI, TO, i1, i2, i3] z (fun i h => IsZip h z TI TO .none ∧ IsTupOf3 h TI (.ref i1) (.ref i2) (.ref i3) ∧ (∃ x y u, IsTupOf3 h TO x y u) ∧ h.IsListIter i1 a i ∧ h.IsListIter i2 b i ∧ h.IsListIter i3 c i) where
  mem := by simp
  obj := fun i h st c hc => by
    obtain ⟨hz, hTI, ⟨x, y, u, hTO⟩, ⟨o1, e1, _, d1⟩, ⟨o2, e2, _, d2⟩, ⟨o3, e3, _, d3⟩⟩ := st
    have e' : c = z ∨ c = TI ∨ c = TO ∨ c = i1 ∨ c = i2 ∨ c = i3 := by simpa using hc
    rcases e' with q | q | q | q | q | q
    · rw [q]; exact ⟨_, hz, fun v q => nomatch q⟩
    · rw [q]; exact ⟨_, hTI, fun v q => nomatch q⟩
    · rw [q]; exact ⟨_, hTO, fun v q => nomatch q⟩
    · rw [q]; exact ⟨o1, e1, fun v q => by rw [d1] at q; cases q⟩
    · rw [q]; exact ⟨o2, e2, fun v q => by rw [d2] at q; cases q⟩
    · rw [q]; exact ⟨o3, e3, fun v q => by rw [d3] at q; cases q⟩
  keep := fun i h h' st k => by
    obtain ⟨hz, hTI, ⟨x, y, u, hTO⟩, h1, h2, h3⟩ := st
    exact ⟨k z (by simp) _ hz, k TI (by simp) _ hTI, ⟨x, y, u, k TO (by simp) _ hTO⟩, h1.at fun o q => k i1 (by simp) o q, h2.at fun o q => k i2 (by simp) o q, h3.at fun o q => k i3 (by simp) o q⟩
  item := by
    intro X hP hw hK hc i pins s σ H E I hf st hg
    subst hP hw hK
    obtain ⟨hz, hTI, ⟨x0, y0, u0, hTO⟩, h1, h2, h3⟩ := st
    obtain ⟨xs, ys, zs, x, y, z', hqx, hqy, hqz, hx, hy, hzz⟩ := hg
    obtain ⟨its, rv, p, _⟩ := I.list hqx
    obtain ⟨its2, rv2, p2, _⟩ := I.list hqy
    obtain ⟨its3, rv3, p3, _⟩ := I.list hqz
    obtain ⟨u, hu, ru⟩ := rv.get hx
    obtain ⟨u2, hu2, ru2⟩ := rv2.get hy
    obtain ⟨u3, hu3, ru3⟩ := rv3.get hzz
    have hzl : z < s.heap.objs.size := Heap.lt_size hz
    have lt : ∀ {l : List Value} {v : Value}, l[i]? = some v → i < l.toArray.size := fun {l v} e => by rw [List.size_toArray]; exact (List.getElem?_eq_some_iff.mp e).1
    refine wpAny_pyNext_zipD3_item S (Draws.list (A := X.A.in1) (I.ok.hd hc) i1 a na its.toArray) (Draws.list (A := X.A.in1) (I.ok.hd hc) i2 b nb its2.toArray) (Draws.list (A := X.A.in1) (I.ok.hd hc) i3 c nc its3.toArray) hz hTI hTO ⟨h1, p.isList⟩ ⟨h2, p2.isList⟩ ⟨h3, p3.isList⟩ (lt hu) (lt hu2) (lt hu3) fun v1 v2 v3 h' tk y1 y2 y3 zh TO' d1 d2 d3 hT hsz hk => ?_
    have ev : ∀ {l : List Value} {v v' : Value}, l.toArray[i]? = some v' → l[i]? = some v → v' = v := fun {l v v'} e1 e2 => by
      rw [List.getElem?_toArray, e2] at e1; exact (Option.some.inj e1).symm
    obtain rfl := ev y1 hu
    obtain rfl := ev y2 hu2
    obtain rfl := ev y3 hu3
    refine ⟨_, rfl, wpAny_letOwnedTupleGo_zip (s := { s with heap := h', toks := tk }) zh fun h'' z'' sb => ?_⟩
    have hT2 : h''.get? s.heap.objs.size = some { cls := .type "tuple", data := .seq #[v1, v2, v3] } := (sb.2 _ (Nat.ne_of_gt hzl)).trans hT
    have new : ObjOk X.prog X.w (upd H s.heap.objs.size (.tup [x, y, z'])) h'' s.heap.objs.size (.tup [x, y, z']) :=
      ⟨by show 3 ≤ sizeLine; decide, [v1, v2, v3], .cons ru (.cons ru2 (.cons ru3 .nil)), ⟨_, hT2, rfl, _, rfl⟩⟩
    have I1 : Inv X pins σ (upd H s.heap.objs.size (.tup [x, y, z'])) { s with heap := h'', toks := tk } :=
      I.turnedNew (ch := [z, TI, TO, i1, i2, i3]) (fun c o hb q => (sb.2 c (fun q' => hb (by simp [q']))).trans (hk c o (fun q' => hb (by simp [q'])) (fun q' => hb (by simp [q'])) (fun q' => hb (by simp [q'])) (fun q' => hb (by simp [q'])) (fun q' => hb (by simp [q'])) q)) hf (Nat.le_refl _) new
    refine ⟨.ref s.heap.objs.size, _, I1, rfl, ⟨_, x, y, z', rfl, I.hok.fresh (Nat.le_refl _), rfl, fun l hl => by rw [I.list_inj hl hqx]; exact hx, fun l hl => by rw [I.list_inj hl hqy]; exact hy, fun l hl => by rw [I.list_inj hl hqz]; exact hzz⟩, ⟨z'', ?_, ⟨v1, v2, v3, ?_⟩, ?_, ?_, ?_⟩, fun c hcm => ?_⟩
    · exact (sb.2 _ S.TIz).trans (hk _ _ S.TIz S.TITO S.TIi1 S.TIi2 S.TIi3 hTI)
    · exact (sb.2 _ S.TOz).trans TO'
    · exact d1.1.at fun o q => (sb.2 _ (Ne.symm S.zi1)).trans q
    · exact d2.1.at fun o q => (sb.2 _ (Ne.symm S.zi2)).trans q
    · exact d3.1.at fun o q => (sb.2 _ (Ne.symm S.zi3)).trans q
    · have hlt : c < s.heap.objs.size := by
        have e' : c = z ∨ c = TI ∨ c = TO ∨ c = i1 ∨ c = i2 ∨ c = i3 := by simpa using hcm
        rcases e' with q | q | q | q | q | q
        · rw [q]; exact hzl
        · rw [q]; exact Heap.lt_size hTI
        · rw [q]; exact Heap.lt_size hTO
        · rw [q]; obtain ⟨_, e1, _⟩ := h1; exact Heap.lt_size e1
        · rw [q]; obtain ⟨_, e2, _⟩ := h2; exact Heap.lt_size e2
        · rw [q]; obtain ⟨_, e3, _⟩ := h3; exact Heap.lt_size e3
      rw [upd_ne (Nat.ne_of_lt hlt)]
      exact (hf c hcm).1
  done := by
    intro X hP hw hK hc i pins s σ H E I hf st hg
    subst hP hw hK
    obtain ⟨hz, hTI, ⟨x0, y0, u0, hTO⟩, h1, h2, h3⟩ := st
    obtain ⟨xs, ys, zs, hqx, hqy, hqz, e1, e2, e3, hend⟩ := hg
    obtain ⟨its, rv, p, _⟩ := I.list hqx
    obtain ⟨its2, rv2, p2, _⟩ := I.list hqy
    obtain ⟨its3, rv3, p3, _⟩ := I.list hqz
    have l1 := rv.length
    have l2 := rv2.length
    have l3 := rv3.length
    exact wpAny_pyNext_zipD3_end S (Draws.list (A := X.A.in1) (I.ok.hd hc) i1 a na its.toArray) (Draws.list (A := X.A.in1) (I.ok.hd hc) i2 b nb its2.toArray) (Draws.list (A := X.A.in1) (I.ok.hd hc) i3 c nc its3.toArray) hz hTI hTO ⟨h1, p.isList⟩ ⟨h2, p2.isList⟩ ⟨h3, p3.isList⟩ (by rw [List.size_toArray]; omega) (by rw [List.size_toArray]; omega) (by rw [List.size_toArray]; omega) (by rw [List.size_toArray, List.size_toArray, List.size_toArray]; omega)
      fun h' tk hk => ⟨rfl, I.turnedL (t' := tk) (ch := [z, TI, TO, i1, i2, i3]) (fun c o hb q =>
      hk c o (fun q' => hb (by simp [q'])) (fun q' => hb (by simp [q'])) (fun q' => hb (by simp [q'])) (fun q' => hb (by simp [q'])) (fun q' => hb (by simp [q'])) q) hf⟩
  self := fun A i s Q E st h => wpAny_pyIter_zip st.1 h
theorem walk_zip3 {K : PySem.W.Frag} {a b c : Addr} {xs ys zs : List V} {n : Nat} (hn : n = min (min xs.length ys.length) zs.length) : Walk (Itz3 K a b c) n (fun H => SqL K H a xs ∧ SqL K H b ys ∧ SqL K H c zs) (YTrip (fun i => xs[i]?) (fun i => ys[i]?) (fun i => zs[i]?)) := by
  subst hn
  refine ⟨fun i _ hi q => ?_, fun _ q => ⟨xs, ys, zs, q.1, q.2.1, q.2.2, by omega, by omega, by omega, by omega⟩, fun i H v H' _ q y => ?_⟩
  · have h1 : i < xs.length := by omega
    have h2 : i < ys.length := by omega
    have h3 : i < zs.length := by omega
    exact ⟨xs, ys, zs, xs[i], ys[i], zs[i], q.1, q.2.1, q.2.2, by simp [h1], by simp [h2], by simp [h3]⟩
  · obtain ⟨T, x, y, z, h1, h2, h3, h4, h5, h6⟩ := y
    exact ⟨T, x, y, z, h1, h2, h3, h4 xs q.1, h5 ys q.2.1, h6 zs q.2.2⟩
def iZ3 (K : PySem.W.Frag) (ta : TA) : TI := fun σ H R => ta σ H fun vs H1 => ∃ a b c xs ys zs, vs = [.ref a, .ref b, .ref c] ∧ SqL K H1 a xs ∧ SqL K H1 b ys ∧ SqL K H1 c zs ∧
  ∀ J, Walk J (min (min xs.length ys.length) zs.length) (fun H => Same H1 H) (YTrip (fun i => xs[i]?) (fun i => ys[i]?) (fun i => zs[i]?)) → R J H1
theorem pi_z3 {X : Cx} {e e2 e3 : Expr} {ta : TA} {p pos tpos : Pos} {elts : List Expr} {kk : Nat} (hg : Gl X "zip") (hm : X.mg "zip" = none) (ha : PA X [e, e2, e3] ta)
    (hs : starEach [e, e2, e3] X.env = (false, eval e X.env) :: starEach [e2, e3] X.env := by rfl) (hpl : (backTo pos (starEach [e2, e3] X.env)).any (·.1) = false := by rfl) :
    PI X (.Tuple elts kk tpos) (.Call (.Name "zip" p) [e, e2, e3] [] pos) (iZ3 X.K ta) := by
  refine ⟨fun pins s σ H R I h => ?_⟩
  refine Call_ (ld_blt I hg hm PyProof.Rows.boot_zip (PyProof.Rows.callWith_type1 (thn (ha.run pos pins s σ H _ I h) fun us s1 ⟨vs, H1, I1, r1, q1⟩ => ?_) hs hpl))
  obtain ⟨a, b, c, xs, ys, zs, ex, hqx, hqy, hqz, q⟩ := q1
  subst ex
  cases r1 with
  | cons r rr =>
    cases rr with
    | cons r' rr =>
      cases rr with
      | cons r'' rr =>
        cases rr
        cases r
        cases r'
        cases r''
        obtain ⟨its, rv, p1, _⟩ := I1.list hqx
        obtain ⟨its2, rv2, p2, _⟩ := I1.list hqy
        obtain ⟨its3, rv3, p3, _⟩ := I1.list hqz
        have la : a < s1.heap.objs.size := p1.lt
        have lb : b < s1.heap.objs.size := p2.lt
        have lc : c < s1.heap.objs.size := p3.lt
        have S := zip_sep3 (N := s1.heap.objs.size) (fp1 := [a]) (fp2 := [b]) (fp3 := [c]) (fun x hx => by rw [List.mem_singleton.mp hx]; exact la) (fun x hx => by rw [List.mem_singleton.mp hx]; exact lb) (fun x hx => by rw [List.mem_singleton.mp hx]; exact lc)
        refine zip_begins3 (begins_list a its.toArray) (begins_list b its2.toArray) (begins_list c its3.toArray) p1.isList p2.isList p3.isList fun h' hz hTI hTO h1 h2 h3 hsz hk => wpAny_pyIter_zip hz ?_
        have I2 : Inv X pins σ H1 { s1 with heap := h' } := I1.kept (t' := s1.toks) hk
        refine ⟨s1.heap.objs.size + 5, [s1.heap.objs.size + 5, s1.heap.objs.size + 3, s1.heap.objs.size + 4, s1.heap.objs.size, s1.heap.objs.size + 1, s1.heap.objs.size + 2], _, _, H1, rfl, I2, turn_zip3 S (Nat.ne_of_lt la) (Nat.ne_of_lt (Nat.lt_succ_of_lt lb)) (Nat.ne_of_lt (Nat.lt_succ_of_lt (Nat.lt_succ_of_lt lc))), ⟨hz, hTI, ⟨_, _, _, hTO⟩, ⟨_, h1, rfl, rfl⟩, ⟨_, h2, rfl, rfl⟩, ⟨_, h3, rfl, rfl⟩⟩, fun x hcm => ?_, q _ ((walk_zip3 rfl).mono (fun H s => ⟨s.seq hqx, s.seq hqy, s.seq hqz⟩) fun _ _ _ _ _ _ y => y)⟩
        have e' : x = s1.heap.objs.size + 5 ∨ x = s1.heap.objs.size + 3 ∨ x = s1.heap.objs.size + 4 ∨ x = s1.heap.objs.size ∨ x = s1.heap.objs.size + 1 ∨ x = s1.heap.objs.size + 2 := by simpa using hcm
        have hle : s1.heap.objs.size ≤ x := by
          rcases e' with z | z | z | z | z | z
          · rw [z]; exact Nat.le_add_right _ _
          · rw [z]; exact Nat.le_add_right _ _
          · rw [z]; exact Nat.le_add_right _ _
          · rw [z]; exact Nat.le_refl _
          · rw [z]; exact Nat.le_add_right _ _
          · rw [z]; exact Nat.le_add_right _ _
        exact I1.fpOk hle (I1.hok.fresh hle)
end XL
namespace XL
open PySem PySem.Spec PyProof.Rows L2
section
variable {P : Program} {w : World} {K : PySem.W.Frag} {mg : Str → Option Value} {base : Heap}
theorem no_fn {f : Addr} {fd : FuncData} {ps : List Str} {sp : Sp} (no : ∀ vs H Q E, ¬ sp vs H Q E) : FnOk P w K mg base CX0 0 f fd ps sp :=
  ⟨fun vs H Q E h => absurd h (no vs H Q E), fun A outer s H args us vs Q E _ _ _ _ h => absurd h (no vs H Q E)⟩
end
theorem boot_all : bootBuiltins "all" = some (.builtin "all") := by decide +kernel
theorem boot_bool' : bootBuiltins "bool" = some (.type "bool") := by decide +kernel
theorem boot_str' : bootBuiltins "str" = some (.type "str") := by decide +kernel
theorem boot_int' : bootBuiltins "int" = some (.type "int") := by decide +kernel
section
variable {P : Program} {w : World} {K : PySem.W.Frag} {mg : Str → Option Value} {base : Heap}
def isBS : PyData → Bool
  | .bool _ => true
  | .str _ => true
  | _ => false
def isB : PyData → Bool
  | .bool _ => true
  | _ => false
theorem kitf {a b : String} (h : kitB a b = some false) : PySem.W.kitOne K (.type a) (.type b) = some false := kit_ty h
theorem kitt {a b : String} (h : kitB a b = some true) : PySem.W.kitOne K (.type a) (.type b) = some true := kit_ty h
theorem kit_list (d : PyData) : ∃ b, PySem.W.kitOne K (tyD d) (.type "list") = some b := by cases d <;> first | exact ⟨false, kitf (by decide +kernel)⟩ | exact ⟨true, kitt (by decide +kernel)⟩
theorem kit_tuple (d : PyData) : ∃ b, PySem.W.kitOne K (tyD d) (.type "tuple") = some b := by cases d <;> first | exact ⟨false, kitf (by decide +kernel)⟩ | exact ⟨true, kitt (by decide +kernel)⟩
theorem kit_bool (d : PyData) : PySem.W.kitOne K (tyD d) (.type "bool") = some (isB d) := by cases d <;> first | exact kitf (by decide +kernel) | exact kitt (by decide +kernel)
theorem kit_int (i : Int) : PySem.W.kitOne K (tyD (.int i)) (.type "int") = some true := kitt (by decide +kernel)
theorem bs_kit (d : PyData) : PySem.W.kitAny K (tyD d) [.type "bool", .type "str"] = some (isBS d) := by
  cases d with
  | none => exact kit2 (a := false) (b := false) (by decide +kernel) (by decide +kernel)
  | bool b => exact kit2 (a := true) (b := false) (by decide +kernel) (by decide +kernel)
  | int i => exact kit2 (a := false) (b := false) (by decide +kernel) (by decide +kernel)
  | str x => exact kit2 (a := false) (b := true) (by decide +kernel) (by decide +kernel)
  | list ds => exact kit2 (a := false) (b := false) (by decide +kernel) (by decide +kernel)
  | tuple ds => exact kit2 (a := false) (b := false) (by decide +kernel) (by decide +kernel)
  | dict kvs => exact kit2 (a := false) (b := false) (by decide +kernel) (by decide +kernel)
theorem all_true : ∀ n : Nat, (List.replicate n true).all id = true
  | 0 => rfl
  | n + 1 => by rw [List.replicate_succ, List.all_cons, all_true n]; rfl
theorem eq_true_map : ∀ (ys : List V), (∀ (i : Nat) y, ys[i]? = some y → y = .bl true) → ys = (List.replicate ys.length true).map V.bl
  | [], _ => rfl
  | y :: ys, h => by
    have h0 := h 0 y rfl
    have r := eq_true_map ys fun i z e => h (i + 1) z (by simpa using e)
    rw [List.length_cons, List.replicate_succ, List.map_cons, ← r, h0]
theorem seq2_of {H : Hp} {v u : V} {d : PyData} (hv : Dp K H v d) (hu : Dp K H u d) (h : isSeq d = true) : ∃ a xs a2 xs2, v = .ref a ∧ u = .ref a2 ∧ ((SqL K H a xs ∧ SqL K H a2 xs2) ∨ (SqT K H a xs ∧ SqT K H a2 xs2)) ∧ DpAll K H xs (itemsD d) ∧ DpAll K H xs2 (itemsD d) := by
  cases d with
  | list ds => cases hv with
    | lst h1 h2 => cases hu with
      | lst h3 h4 => exact ⟨_, _, _, _, rfl, rfl, .inl ⟨h1, h3⟩, h2, h4⟩
  | tuple ds => cases hv with
    | tup h1 h2 => cases hu with
      | tup h3 h4 => exact ⟨_, _, _, _, rfl, rfl, .inr ⟨h1, h3⟩, h2, h4⟩
  | none => simp [isSeq] at h
  | bool b => simp [isSeq] at h
  | int b => simp [isSeq] at h
  | str b => simp [isSeq] at h
  | dict b => simp [isSeq] at h
end
end XL
namespace XL
open PySem PySem.Spec PyProof.Rows L2
abbrev sSame : Stmt := topS 22
section
variable {P : Program} {w : World} {K : PySem.W.Frag} {mg : Str → Option Value} {base : Heap}
theorem scSame : FnScope ["_law_found", "_law_due", "_law_mine", "_law_its"] ["_law_found", "_law_due"] (defScope sSame) := ⟨rfl, rfl, rfl, by decide +kernel, rfl, by decide +kernel, by decide +kernel⟩
def spSame (K : PySem.W.Frag) (n : Nat) : Sp := fun vs H Q _ => ∃ (v u : V) (d : PyData), vs = [v, u] ∧ Dp K H v d ∧ Dp K H u d ∧ okD n d ∧ ∀ H' : Hp, Same H H' → Q (.bl true) H'
theorem ok_same {f : Addr} {fd : FuncData} (F : Fun K "_law_same" "_law_same" sSame f fd) (b : Binds K fd ["_law_found", "_law_due"] []) (gF : mg "_law_same" = some (.ref f)) (mi : mg "isinstance" = none) (ml : mg "list" = none) (mt : mg "tuple" = none)
    (mz : mg "zip" = none) (me : mg "len" = none) (ma : mg "all" = none) (mb : mg "bool" = none) (ms : mg "str" = none) (mn : mg "int" = none) :
    ∀ n : Nat, FnOk P w K mg base CX0 n f fd ["_law_found", "_law_due"] (spSame K n)
  | 0 => no_fn fun vs H Q E ⟨v, u, d, _, _, _, h, _⟩ => h
  | n + 1 => by
    have G := ok_same F b gF mi ml mt mz me ma mb ms mn n
    refine F.ok scSame (fun vs H Q E h => ?_) (fun cdv A outer s H vs Q E hr h => ?_)
    · obtain ⟨v, u, d, rfl, _⟩ := h
      rfl
    obtain ⟨v, u, d, rfl, hv, hu, ok, q⟩ := h
    refine ⟨_, pss_cons (ps_if (pt_val (pe_callB call_isiT rfl mi boot_isinstance (pa_cons (pv 1) (pa_cons (pe_tup (pa_cons (pe_bltn (v := .ty "list") rfl ml boot_list rfl) (pa_cons (pe_bltn (v := .ty "tuple") rfl mt boot_tuple rfl) pa_nil))) pa_nil))))
        (pss_cons (ps_if (PW.pt (pw_or (pt_cmpR op_ne (pe_callB call_isi rfl mi boot_isinstance (pa_cons (pv 0) (pa_cons (pe_bltn (v := .ty "list") rfl ml boot_list rfl) pa_nil))) (pe_callB call_isi rfl mi boot_isinstance (pa_cons (pv 1) (pa_cons (pe_bltn (v := .ty "list") rfl ml boot_list rfl) pa_nil))) (nomark _))
              (pw_or1 (pt_cmpR op_ne (pe_callB call_isi rfl mi boot_isinstance (pa_cons (pv 0) (pa_cons (pe_bltn (v := .ty "tuple") rfl mt boot_tuple rfl) pa_nil))) (pe_callB call_isi rfl mi boot_isinstance (pa_cons (pv 1) (pa_cons (pe_bltn (v := .ty "tuple") rfl mt boot_tuple rfl) pa_nil))) (nomark _)))))
            (pss_one (ps_ret pe_bl)) pss_nil)
        (pss_one (ps_ret (pe_and (pe_cmpR op_eq (pe_callB call_len_seq rfl me PySem.boot_len (pa_cons (pv 0) pa_nil)) (pe_callB call_len_seq rfl me PySem.boot_len (pa_cons (pv 1) pa_nil)) (nomark _))
          (pe_one (pe_callB (cr_all rfl) rfl ma boot_all (pa_cons (pe_lc (own := [("_law_mine", 2), ("_law_its", 3)]) (g := gAny K 2 (gCons (gName 2) (gCons (gName 3) gNil))) (tt := tYes) rfl scSame.nd (pi_z2 rfl mz (pa_cons (pv 0) (pa_cons (pv 1) pa_nil)))
            (blkOk_by (own := [("_law_mine", 2), ("_law_its", 3)]) (N := ["_law_found", "_law_due", "_law_mine", "_law_its"]) (sc := defScope sSame) (by decide +kernel))
            (fun _ _ _ _ _ => pg_any rfl (pgs_cons (pg_name (i := 2) scSame.nd rfl (Or.inl rfl)) (pgs_cons (pg_name (i := 3) scSame.nd rfl (Or.inl rfl)) pgs_nil))) (fun _ _ _ _ _ => pts_nil)
            (fun _ _ _ _ _ => pe_hide (pe_call G hr rfl gF F.kp b .nil pass0 (pa_cons (pv 2) (pa_cons (pv 3) pa_nil))))) pa_nil))))))) pss_nil)
      (pss_cons (ps_if (PW.pt (pw_or (pt_cmpR op_isN (pv 1) pe_non (nomark _)) (pw_or1 (pt_val (pe_callB call_isiT rfl mi boot_isinstance (pa_cons (pv 1) (pa_cons (pe_tup (pa_cons (pe_bltn (v := .ty "bool") rfl mb boot_bool' rfl) (pa_cons (pe_bltn (v := .ty "str") rfl ms boot_str' rfl) pa_nil))) pa_nil)))))))
          (pss_one (ps_ret (pe_and (pe_cmpR op_eq (pe_callB call_isi rfl mi boot_isinstance (pa_cons (pv 0) (pa_cons (pe_bltn (v := .ty "bool") rfl mb boot_bool' rfl) pa_nil))) (pe_callB call_isi rfl mi boot_isinstance (pa_cons (pv 1) (pa_cons (pe_bltn (v := .ty "bool") rfl mb boot_bool' rfl) pa_nil))) (nomark _))
            (pe_and (pe_cmpR op_eq (pe_cmpR op_isN (pv 0) pe_non (nomark _)) (pe_cmpR op_isN (pv 1) pe_non (nomark _)) (nomark _)) (pe_one (pe_cmpR op_eq (pv 0) (pv 1) (nomark _))))))) pss_nil)
      (pss_one (ps_ret (pe_and (pe_callB call_isi rfl mi boot_isinstance (pa_cons (pv 0) (pa_cons (pe_bltn (v := .ty "int") rfl mn boot_int' rfl) pa_nil)))
        (pe_and (pe_not (pe_callB call_isi rfl mi boot_isinstance (pa_cons (pv 0) (pa_cons (pe_bltn (v := .ty "bool") rfl mb boot_bool' rfl) pa_nil)))) (pe_one (pe_cmpR op_eq (pv 0) (pv 1) (nomark _)))))))), ?_⟩
    refine ⟨_, rfl, (by show 2 ≤ sizeLine; decide), fun tp np => ?_⟩
    have s1 : Same H (upd H tp (.tup [.ty "list", .ty "tuple"])) := same_new np
    have hv1 := Dp.same s1 d hv
    have hu1 := Dp.same s1 d hu
    refine ⟨u, tp, _, tyD d, _, isSeq d, rfl, upd_same, .cons (.ty _) (.cons (.ty _) .nil), tyx_of hu1, seq_kit d (Dp.nodict hu), isSeq d, rfl, ?_⟩
    obtain ⟨kl, ekl⟩ := kit_list (K := K) d
    obtain ⟨kt, ekt⟩ := kit_tuple (K := K) d
    cases hsq : isSeq d with
    | true =>
      refine iteT ?_
      obtain ⟨a, xs, a2, xs2, rfl, rfl, hss, hall, hall2⟩ := seq2_of hv hu hsq
      have hs : Sq2 K H a xs := hss.imp (fun z => z.1) (fun z => z.1)
      have hs2 : Sq2 K H a2 xs2 := hss.imp (fun z => z.2) (fun z => z.2)
      obtain ⟨hok, hlen⟩ := okD_items ok hsq
      have hx1 : xs.length = (itemsD d).length := DpAll.length hall
      have hx2 : xs2.length = (itemsD d).length := DpAll.length hall2
      -- the kinds are alike
      refine ⟨_, rfl, _, _, _, _, kl, rfl, .ty _, tyx_of hv1, ekl, _, rfl, _, _, _, _, kl, rfl, .ty _, tyx_of hu1, ekl, rfl, _, rfl, iteNS rfl ?_⟩
      refine ⟨_, rfl, _, _, _, _, kt, rfl, .ty _, tyx_of hv1, ekt, _, rfl, _, _, _, _, kt, rfl, .ty _, tyx_of hu1, ekt, rfl, _, rfl, iteNS rfl ?_⟩
      refine ⟨_, rfl, a, xs, rfl, Same.sq2 s1 hs, _, rfl, a2, xs2, rfl, Same.sq2 s1 hs2, rfl, _, rfl, ?_⟩
      rw [decide_eq_true (show V.int ((xs.length : Nat) : Int) = V.int ((xs2.length : Nat) : Int) by rw [hx1, hx2])]
      have hn : min xs.length xs2.length = (itemsD d).length := by rw [hx1, hx2, Nat.min_self]
      refine iteT ⟨_, rfl, _, rfl, a, a2, xs, xs2, rfl, hss.imp (fun z => ⟨s1.seq z.1, s1.seq z.2⟩) (fun z => ⟨Same.tup s1 z.1, Same.tup s1 z.2⟩), fun J wk => lc_map wk Same (fun a b => a.trans b) (fun i y F => y = .bl true) (fun i y A B s p => p) (by rw [hn]; exact small1000 hlen) (Same.refl _) (fun F D acc sF nF => sF.trans (same_new nF)) (fun i x D acc F H' hi nD sF nF hy B hB => ?_) (fun D ys F nD sF nF hl hR => ?_)⟩
      · obtain ⟨T, x1, y1, rfl, nT, rfl, e1, e2⟩ := hy
        have hTD : T ≠ D := fun z => by rw [z, upd_same] at nT; cases nT
        rw [upd_ne hTD] at nT
        obtain ⟨d1, ed1, p1⟩ := DpAll.get hall e1
        obtain ⟨d2, ed2, p2⟩ := DpAll.get hall2 e2
        rw [ed1] at ed2
        cases ed2
        rw [upd_comm hTD]
        have sT : Same F (upd F T (.tup [x1, y1])) := same_new nT
        refine ⟨T, [x1, y1], rfl, .inr (.inl (.inl (by rw [upd_ne hTD, upd_same]))), rfl, x1, [y1], rfl, y1, [], rfl, rfl, ?_⟩
        refine hB _ (upd F T (.tup [x1, y1])) rfl (by rw [upd_ne (Ne.symm hTD)]; exact nF) fun Qt hq => ?_
        exact ⟨x1, rfl, y1, rfl, x1, y1, d1, rfl, Dp.same ((s1.trans sF).trans sT) _ p1, Dp.same ((s1.trans sF).trans sT) _ p2, hok _ (List.mem_of_getElem? ed1), fun H' s' => hq _ _ (sT.trans s') rfl⟩
      · refine ⟨D, List.replicate ys.length true, rfl, ?_, ?_⟩
        · rw [← eq_true_map ys hR]; exact SqL.of upd_same
        · rw [all_true]
          exact q _ (s1.trans (sF.trans (same_new nF)))
    | false =>
      refine iteF ?_
      have fin : ∀ H', Same H H' → Q (.bl true) H' := q
      cases d with
      | list ds => simp [isSeq] at hsq
      | tuple ds => simp [isSeq] at hsq
      | dict kvs => cases hv
      | none =>
        cases hv; cases hu
        refine ⟨_, rfl, rfl, _, rfl, iteT (iteT ?_)⟩
        refine ⟨_, rfl, _, _, _, _, _, rfl, .ty _, tyx_of hv1, kit_bool .none, _, rfl, _, _, _, _, _, rfl, .ty _, tyx_of hu1, kit_bool .none, rfl, _, rfl, iteT ?_⟩
        refine ⟨_, rfl, rfl, _, rfl, rfl, rfl, _, rfl, iteT ?_⟩
        refine ⟨_, rfl, _, rfl, rfl, ?_⟩
        exact fin _ s1
      | bool b0 =>
        cases hv; cases hu
        refine ⟨_, rfl, rfl, _, rfl, iteF ?_⟩
        refine ⟨_, rfl, (by show 2 ≤ sizeLine; decide), fun tq nq => ?_⟩
        have s2 : Same H (upd (upd H tp (.tup [.ty "list", .ty "tuple"])) tq (.tup [.ty "bool", .ty "str"])) := s1.trans (same_new nq)
        refine ⟨_, tq, _, _, _, _, rfl, upd_same, .cons (.ty _) (.cons (.ty _) .nil), tyx_of (Dp.bl b0), bs_kit (.bool b0), _, rfl, iteT ?_⟩
        refine ⟨_, rfl, _, _, _, _, _, rfl, .ty _, tyx_of (Dp.bl b0), kit_bool (.bool b0), _, rfl, _, _, _, _, _, rfl, .ty _, tyx_of (Dp.bl b0), kit_bool (.bool b0), rfl, _, rfl, iteT ?_⟩
        refine ⟨_, rfl, rfl, _, rfl, rfl, rfl, _, rfl, iteT ?_⟩
        refine ⟨_, rfl, _, rfl, rfl, ?_⟩
        have e : decide (V.bl b0 = V.bl b0) = true := decide_eq_true rfl
        have e2 := fin _ s2
        rw [← e] at e2
        exact e2
      | str x0 =>
        cases hv; cases hu
        refine ⟨_, rfl, rfl, _, rfl, iteF ?_⟩
        refine ⟨_, rfl, (by show 2 ≤ sizeLine; decide), fun tq nq => ?_⟩
        have s2 : Same H (upd (upd H tp (.tup [.ty "list", .ty "tuple"])) tq (.tup [.ty "bool", .ty "str"])) := s1.trans (same_new nq)
        refine ⟨_, tq, _, _, _, _, rfl, upd_same, .cons (.ty _) (.cons (.ty _) .nil), tyx_of (Dp.str x0), bs_kit (.str x0), _, rfl, iteT ?_⟩
        refine ⟨_, rfl, _, _, _, _, _, rfl, .ty _, tyx_of (Dp.str x0), kit_bool (.str x0), _, rfl, _, _, _, _, _, rfl, .ty _, tyx_of (Dp.str x0), kit_bool (.str x0), rfl, _, rfl, iteT ?_⟩
        refine ⟨_, rfl, rfl, _, rfl, rfl, rfl, _, rfl, iteT ?_⟩
        refine ⟨_, rfl, _, rfl, rfl, ?_⟩
        have e : decide (V.str x0 = V.str x0) = true := decide_eq_true rfl
        have e2 := fin _ s2
        rw [← e] at e2
        exact e2
      | int i0 =>
        cases hv; cases hu
        refine ⟨_, rfl, rfl, _, rfl, iteF ?_⟩
        refine ⟨_, rfl, (by show 2 ≤ sizeLine; decide), fun tq nq => ?_⟩
        have s2 : Same H (upd (upd H tp (.tup [.ty "list", .ty "tuple"])) tq (.tup [.ty "bool", .ty "str"])) := s1.trans (same_new nq)
        refine ⟨_, tq, _, _, _, _, rfl, upd_same, .cons (.ty _) (.cons (.ty _) .nil), tyx_of (Dp.int i0), bs_kit (.int i0), _, rfl, iteF ?_⟩
        refine ⟨_, rfl, _, _, _, _, _, rfl, .ty _, tyx_of (Dp.int i0), kit_int i0, _, rfl, iteT ?_⟩
        refine ⟨_, rfl, _, _, _, _, _, rfl, .ty _, tyx_of (Dp.int i0), kit_bool (.int i0), _, rfl, _, rfl, iteT ?_⟩
        refine ⟨_, rfl, _, rfl, rfl, ?_⟩
        have e : decide (V.int i0 = V.int i0) = true := decide_eq_true rfl
        have e2 := fin _ s2
        rw [← e] at e2
        exact e2
end
end XL
namespace XL
open PySem PySem.Spec PyProof.Rows L2
abbrev sCells : Stmt := topS 20
abbrev sBox : Stmt := topS 18
theorem boot_enumerate' : bootBuiltins "enumerate" = some (.type "enumerate") := by decide +kernel
theorem boot_abs' : bootBuiltins "abs" = some (.builtin "abs") := by decide +kernel
section
variable {P : Program} {w : World} {K : PySem.W.Frag} {mg : Str → Option Value} {base : Heap}
theorem cut_ints (ns : List Int) (lo hi : Option Int) : cutV (ns.map V.int) lo hi = ((ns.drop (HT.sIx ns.length 0 lo)).take (HT.sIx ns.length ns.length hi - HT.sIx ns.length 0 lo)).map V.int := by
  unfold cutV
  rw [List.length_map, List.map_take, List.map_drop]
theorem set_ints : ∀ (zs : List Int) (j : Nat) (v : Int), (zs.map V.int).set j (.int v) = (zs.set j v).map V.int
  | [], _, _ => rfl
  | z :: zs, 0, v => rfl
  | z :: zs, j + 1, v => by
    show .int z :: (zs.map V.int).set j (.int v) = .int z :: (zs.set j v).map V.int
    rw [set_ints zs j v]
/-! ### _law_cells -/
theorem scCells : FnScope ["_law_script", "_law_utmost", "_law_cells_here", "_law_k", "_law_cell"] ["_law_script", "_law_utmost"] (defScope sCells) := ⟨rfl, rfl, rfl, by decide +kernel, rfl, by decide +kernel, by decide +kernel⟩
def spCells (K : PySem.W.Frag) : Sp := fun vs H Q _ => ∃ (a : Addr) (ns : List Int) (m : Nat), vs = [.ref a, .int m] ∧ SqL K H a (ns.map V.int) ∧ ns.length ≤ 63 ∧ 1 ≤ m ∧ m ≤ 5 ∧
  ∀ (p : Addr) (zs : List Int) (H' : Hp), Same H H' → H p = none → H' p = some (.lst (zs.map V.int)) → 1 ≤ zs.length → zs.length ≤ m → Q (.ref p) H'
theorem ok_cells {f : Addr} {fd : FuncData} {k : Nat} (F : Fun K "_law_cells" "_law_cells" sCells f fd) (ml : mg "list" = none) (me : mg "enumerate" = none) : FnOk P w K mg base CX0 (k + 1) f fd ["_law_script", "_law_utmost"] (spCells K) := by
  refine F.ok scCells (fun vs H Q E h => ?_) (fun cdv A outer s H vs Q E hr h => ?_)
  · obtain ⟨a, ns, m, rfl, _⟩ := h
    rfl
  obtain ⟨a, ns, m, rfl, ha, hn, m1, m2, q⟩ := h
  have tail : ∃ t, PSs (cxOf CX0 P w K mg base ["_law_script", "_law_utmost", "_law_cells_here", "_law_k", "_law_cell"] "_law_cells" (defScope sCells) f cdv A outer s H E).nox ((defBody sCells).drop 1) t ∧
      ∀ (c : Addr) (zs : List Int) (H2 : Hp), Same H H2 → H c = none → H2 c = some (.lst (zs.map V.int)) → 1 ≤ zs.length → zs.length ≤ m → (m < ns.length → zs.length = m) →
        t { nx := fun _ H' => Q .non H', rt := Q } [some (.ref a), some (.int m), some (.ref c), none, none] H2 := by
    refine ⟨_, pss_cons (ps_for PassesOwn.never rfl (pi_enum (by rfl) me (pa_cons (pe_slice sl_list (pv 0) (po_some (pv 1)) (po_some pe_int)) pa_nil)) (pg_tup rfl (pgs_cons (pg_name (i := 3) scCells.nd rfl (.inl rfl)) (pgs_cons (pg_name (i := 4) scCells.nd rfl (.inl rfl)) pgs_nil)))
        (pss_one (ps_asg (pe_op op_add (pe_ix ix_list (pv 2) (pe_op op_modN (pv 3) (pv 1)) (fun _ _ => rfl)) (pe_op op_mul (pv 4) (pe_op op_add (pv 3) pe_int))) (pg_sub (pv 2) (pe_op op_modN (pv 3) (pv 1)) set_list))))
      (pss_one (ps_ret (pv 2))), fun c zs H2 s2 nc ec z1 z2 z3 => ?_⟩
    refine ⟨_, rfl, _, rfl, (m : Int), rfl, 63, rfl, a, _, rfl, s2.seq ha, fun p np => ?_⟩
    rw [cut_ints]
    generalize hes : ((ns.drop (HT.sIx ns.length 0 (some (m : Int)))).take (HT.sIx ns.length ns.length (some 63) - HT.sIx ns.length 0 (some (m : Int)))) = es
    have hel : 0 < es.length → m < ns.length := fun h => by
      rw [← hes, List.length_take, List.length_drop, HT.sIx_nat] at h
      omega
    have hel2 : es.length ≤ 63 := by
      rw [← hes, List.length_take, List.length_drop]
      omega
    have s3 : Same H (upd H2 p (.lst (es.map V.int))) := s2.trans (same_new np)
    have cp : c ≠ p := ne_of_none ec np
    refine ⟨p, es.map V.int, rfl, SqL.of upd_same, for_it (walk_enum (xs := es.map V.int)) (fun i σ H3 => ∃ (ws : List Int) (y3 y4 : Option V), σ = [some (.ref a), some (.int m), some (.ref c), y3, y4] ∧ Same H H3 ∧ H3 p = some (.lst (es.map V.int)) ∧ H3 c = some (.lst (ws.map V.int)) ∧ ws.length = zs.length)
      ⟨zs, none, none, rfl, s3, upd_same, by rw [upd_ne cp]; exact ec, rfl⟩ (fun i σ H3 _ h => ?_) (fun i x σ H3 H4 hi h hy => ?_) (fun σ H3 h => ?_)⟩
    · obtain ⟨_, _, _, _, _, e, _⟩ := h
      exact SqL.of e
    · obtain ⟨ws, y3, y4, rfl, sm, ep, ew, wl⟩ := h
      obtain ⟨T, x1, x2, rfl, nT, rfl, e1, e2⟩ := hy
      have hi' : i < es.length := by rw [List.length_map] at hi; exact hi
      have e1' : x1 = .int (i : Nat) := (Option.some.inj e1).symm
      have e2' : x2 = .int es[i] := by
        have e3 : (es.map V.int)[i]? = some x2 := e2
        rw [List.getElem?_map, List.getElem?_eq_getElem hi'] at e3
        exact (Option.some.inj e3).symm
      subst e1' e2'
      have sT : Same H3 (upd H3 T (.tup [.int (i : Nat), .int es[i]])) := same_new nT
      have wm : ws.length = m := by rw [wl]; exact z3 (hel (by omega))
      have fm := fmod_lt (a := (i : Int)) (n := (m : Int)) (by omega)
      have hj : ((i : Int).fmod (m : Int)).toNat < ws.length := by omega
      refine ⟨T, _, rfl, .inl (.inl upd_same), rfl, _, _, rfl, _, _, rfl, rfl, ?_⟩
      have ewT := sT _ _ ew
      have aw : atI (ws.map V.int) ((i : Int).fmod (m : Int)) = some (.int ws[((i : Int).fmod (m : Int)).toNat]) := atI_int fm.1 (by rw [List.getElem?_map, List.getElem?_eq_getElem hj]; rfl)
      refine ⟨_, rfl, _, rfl, _, rfl, _, _, rfl, rfl, by omega, c, _, _, _, rfl, rfl, SqL.of ewT, aw, _, rfl, _, rfl, _, _, rfl, rfl, _, _, rfl, rfl, .inr ⟨by omega, by omega⟩, _, _, rfl, rfl, ?_⟩
      refine ⟨_, rfl, _, rfl, _, rfl, _, _, rfl, rfl, by omega, c, _, _, ((i : Int).fmod (m : Int)).toNat, rfl, rfl, ewT, ?_, ?_⟩
      · unfold ixN
        rw [if_pos fm.1, if_pos (by rw [List.length_map]; omega)]
      · refine ⟨_, _, _, rfl, fun b o e => ?_, ?_, by rw [set_ints, upd_same], by rw [List.length_set]; exact wl⟩
        · rw [upd_ne (ne_of_none e nc)]; exact sT _ _ (sm _ _ e)
        · rw [upd_ne cp.symm]; exact sT _ _ ep
    · obtain ⟨ws, y3, y4, rfl, sm, ep, ew, wl⟩ := h
      exact ⟨_, rfl, q c ws H3 sm nc ew (by omega) (by omega)⟩
  obtain ⟨t, ht, hgo⟩ := tail
  refine ⟨_, pss_cons (ps_set (i := 2) scCells.nd rfl (.inl rfl) (pe_orT (pe_callTy call_list_of rfl ml boot_list (pa_cons (pe_slice sl_list (pv 0) po_none (po_some (pv 1))) pa_nil)) (pe_one (pe_lst (pa_cons pe_int pa_nil))))) ht, ?_⟩
  -- list(script[:utmost])
  refine ⟨_, rfl, _, rfl, (m : Int), rfl, a, _, rfl, ha, fun p np => ?_⟩
  have s1 : Same H (upd H p (.lst (cutV (ns.map V.int) none (some (m : Int))))) := same_new np
  refine ⟨p, _, rfl, .inl (SqL.of upd_same), fun c nc => ?_⟩
  have e0 : cutV (ns.map V.int) none (some (m : Int)) = (ns.take m).map V.int := by
    rw [cut_ints, HT.sIx_none, HT.sIx_nat, List.drop_zero, Nat.sub_zero]
    congr 1
    rcases Nat.le_total m ns.length with h | h
    · rw [Nat.min_eq_left h]
    · rw [Nat.min_eq_right h, List.take_of_length_le (Nat.le_refl _), List.take_of_length_le h]
  rw [e0] at nc s1 ⊢
  have s2 := s1.trans (same_new nc (o := .lst ((ns.take m).map V.int)))
  refine ⟨!((ns.take m).map V.int).isEmpty, .inl ⟨_, SqL.of upd_same, rfl⟩, ?_⟩
  cases hns : ns with
  | nil =>
    have em : ((([] : List Int).take m).map V.int) = [] := by rw [List.take_nil]; rfl
    rw [em]
    refine iteF ⟨(by show 1 ≤ sizeLine; decide), fun c2 nc2 => ?_⟩
    subst hns
    rw [em] at s2
    exact hgo c2 [0] _ (s2.trans (same_new nc2)) (s2.free nc2) upd_same (Nat.le_refl _) m1 (fun h => by simp at h)
  | cons n0 r =>
    obtain ⟨m', rfl⟩ : ∃ m', m = m' + 1 := ⟨m - 1, by omega⟩
    rw [← hns]
    have e1 : (ns.take (m' + 1)).map V.int ≠ [] := by rw [hns]; simp
    have e2 : (!((ns.take (m' + 1)).map V.int).isEmpty) = true := by
      cases h : (ns.take (m' + 1)).map V.int with
      | nil => exact absurd h e1
      | cons _ _ => rfl
    rw [e2]
    have hl : (ns.take (m' + 1)).length = min (m' + 1) ns.length := List.length_take
    have hn1 : 1 ≤ ns.length := by rw [hns]; simp
    exact iteT (hgo c (ns.take (m' + 1)) _ s2 (s1.free nc) upd_same (by omega) (by omega) (fun h => by omega))
/-! ### _law_box -/
theorem b01 (b : Bool) : -2 ^ 64 < (if b = true then (1 : Int) else 0) ∧ (if b = true then (1 : Int) else 0) < 2 ^ 64 := by cases b <;> decide
theorem scBox : FnScope ["_law_cells_here", "_law_k", "_law_cell"] ["_law_cells_here", "_law_k"] (defScope sBox) := ⟨rfl, rfl, rfl, by decide +kernel, rfl, by decide +kernel, by decide +kernel⟩
def spBox (K : PySem.W.Frag) : Sp := fun vs H Q _ => ∃ (a : Addr) (zs : List Int) (k : Nat), vs = [.ref a, .int k] ∧ SqL K H a (zs.map V.int) ∧ k < zs.length ∧
  ∀ (b : Addr) (x y : Int), H b = none → Q (.ref b) (upd H b (.lst [.int x, .int y, .int 0]))
theorem ok_box {f : Addr} {fd : FuncData} {k : Nat} (F : Fun K "_law_box" "_law_box" sBox f fd) (ma : mg "abs" = none) (mi : mg "int" = none) : FnOk P w K mg base CX0 (k + 1) f fd ["_law_cells_here", "_law_k"] (spBox K) := by
  refine F.ok scBox (fun vs H Q E h => ?_) (fun cdv A outer s H vs Q E hr h => ?_)
  · obtain ⟨a, zs, k, rfl, _⟩ := h
    rfl
  obtain ⟨a, zs, k, rfl, ha, hk, q⟩ := h
  refine ⟨_, pss_cons (ps_set (i := 2) scBox.nd rfl (.inl rfl) (pe_ix ix_list (pv 0) (pv 1) (fun _ _ => rfl)))
    (pss_one (ps_ret (pe_lst (pa_cons (pe_op op_mul (pe_callB call_abs rfl ma boot_abs' (pa_cons (pv 2) pa_nil)) (pe_callTy call_int1 rfl mi boot_int' (pa_cons (pe_cmpR op_ge (pe_callB call_abs rfl ma boot_abs' (pa_cons (pv 2) pa_nil)) (pe_op op_pow pe_int pe_int) (nomark _)) pa_nil)))
      (pa_cons (pe_op op_add (pe_op op_add (pe_op op_modN (pv 2) pe_int) (pe_op op_mul pe_int (pv 1))) pe_int) (pa_cons pe_int pa_nil)))))), ?_⟩
  have hx : atI (zs.map V.int) ((k : Nat) : Int) = some (.int zs[k]) := atI_nat (by rw [List.getElem?_map, List.getElem?_eq_getElem hk]; rfl)
  refine ⟨_, rfl, _, rfl, a, _, _, _, rfl, rfl, ha, hx, ?_⟩
  refine ⟨_, rfl, _, rfl, _, rfl, _, rfl, _, _, rfl, rfl, ⟨by decide, by decide, by decide⟩, _, _, rfl, rfl, .inr ⟨_, rfl, _, _, rfl, rfl, .inr ?_, ?_⟩⟩
  · exact b01 _
  · refine ⟨_, rfl, _, _, rfl, rfl, (by show (2305843009213693951 : Int) ≠ 0; decide), _, rfl, _, _, rfl, rfl, .inl ⟨by decide, by decide⟩, _, _, rfl, rfl, _, _, rfl, rfl, (by show 3 ≤ sizeLine; decide), fun b nb => ?_⟩
    exact q b _ _ nb
end
end XL
namespace XL
open PySem PySem.Spec PyProof.Rows L2
/-! ### what repr may be asked of -/
structure Shw (x : PyData) (n w : Nat) : Prop where
  s : x.showable = true
  h : x.hasDict = false
  d : x.depth ≤ n
  l : x.leavesShort 13 = true
  g : x.weight ≤ w
structure ShwA (ds : List PyData) (n w : Nat) : Prop where
  s : PyData.showableAll ds = true
  h : PyData.hasDictAll ds = false
  d : PyData.depthAll ds ≤ n
  l : PyData.leavesShortAll 13 ds = true
  g : PyData.weightAll ds ≤ w
theorem shw_int {i : Int} (h : i.natAbs < 10 ^ 12) (n : Nat) : Shw (.int i) n 41 := by
  have hl : i.natAbs ≠ 0 → i.natAbs.log2 < 40 := fun h0 => (Nat.log2_lt h0).mpr (by omega)
  refine ⟨?_, rfl, Nat.zero_le _, ?_, ?_⟩
  · show decide (i.natAbs.log2 < 1920) = true
    refine decide_eq_true ?_
    by_cases h0 : i.natAbs = 0
    · rw [h0]; decide
    · have := hl h0; omega
  · show decide ((PyData.shown (.int i)).length ≤ 13) = true
    exact decide_eq_true (PyData.shown_int_le h)
  · show (if i == 0 then 0 else i.natAbs.log2 + 1) ≤ 41
    split
    · omega
    · rename_i h0
      have : i.natAbs ≠ 0 := fun e => h0 (by rw [Int.natAbs_eq_zero.mp e]; rfl)
      have := hl this; omega
theorem ShwA.nil {n w : Nat} : ShwA [] n w := ⟨rfl, rfl, Nat.zero_le _, rfl, Nat.zero_le _⟩
theorem ShwA.cons {d : PyData} {ds : List PyData} {n w w' : Nat} (a : Shw d n w) (b : ShwA ds n w') : ShwA (d :: ds) n (w + 1 + w') := by
  refine ⟨?_, ?_, ?_, ?_, ?_⟩
  · show (d.showable && PyData.showableAll ds) = true
    rw [a.s, b.s]; rfl
  · show (d.hasDict || PyData.hasDictAll ds) = false
    rw [a.h, b.h]; rfl
  · show max d.depth (PyData.depthAll ds) ≤ n
    exact Nat.max_le.mpr ⟨a.d, b.d⟩
  · show (d.leavesShort 13 && PyData.leavesShortAll 13 ds) = true
    rw [a.l, b.l]; rfl
  · show d.weight + 1 + PyData.weightAll ds ≤ _
    have h1 := a.g; have h2 := b.g; omega
theorem ShwA.of {n w : Nat} : ∀ {ds : List PyData}, (∀ d ∈ ds, Shw d n w) → ShwA ds n (ds.length * (w + 1))
  | [], _ => .nil
  | d :: ds, h => by
    have q := ShwA.cons (h d (List.mem_cons_self ..)) (ShwA.of fun e he => h e (List.mem_cons_of_mem _ he))
    rw [List.length_cons, Nat.succ_mul, Nat.add_comm]; exact q
theorem ShwA.mono {ds : List PyData} {n n' w w' : Nat} (a : ShwA ds n w) (hn : n ≤ n') (hw : w ≤ w') : ShwA ds n' w' := ⟨a.s, a.h, Nat.le_trans a.d hn, a.l, Nat.le_trans a.g hw⟩
theorem Shw.mono {d : PyData} {n n' w w' : Nat} (a : Shw d n w) (hn : n ≤ n') (hw : w ≤ w') : Shw d n' w' := ⟨a.s, a.h, Nat.le_trans a.d hn, a.l, Nat.le_trans a.g hw⟩
theorem ShwA.tup {ds : List PyData} {n w : Nat} (a : ShwA ds n w) : Shw (.tuple ds) (n + 1) w := ⟨a.s, a.h, Nat.succ_le_succ a.d, a.l, a.g⟩
theorem ShwA.lst {ds : List PyData} {n w : Nat} (a : ShwA ds n w) : Shw (.list ds) (n + 1) w := ⟨a.s, a.h, Nat.succ_le_succ a.d, a.l, a.g⟩
theorem Shw.fits {d : PyData} {n w : Nat} (a : Shw d n w) (hw : w ≤ 1048576) : d.shown.length ≤ sizeLine := PyData.shown_fits (B := 13) (by decide) (by decide) a.l (Nat.le_trans a.g (by omega))
theorem shw_lk {r b : Int} {l : Lk} (hr : r ≤ 100) (hb : b ≤ 100) (ok : okLk r b l) : Shw (lkD l) 1 168 := by
  have := ok.a0; have := ok.a1; have := ok.c0; have := ok.c1; have := ok.x0; have := ok.x1; have := ok.y0; have := ok.y1
  exact ((ShwA.cons (shw_int (by omega) 0) (.cons (shw_int (by omega) 0) (.cons (shw_int (by omega) 0) (.cons (shw_int (by omega) 0) (ShwA.nil (w := 0)))))).mono (Nat.le_refl _) (by omega)).tup
theorem shw_cn {c : Cn} (ok : okCn 100 100 c) : Shw (cnD c) 3 17100 := by
  have h1 := ok.r1; have h2 := ok.r2; have h3 := ok.b1; have h4 := ok.b2; have h5 := ok.n
  have hl : ShwA (c.ls.map lkD) 1 16900 := (ShwA.of (n := 1) (w := 168) fun d hd => by
    obtain ⟨l, hm, rfl⟩ := List.mem_map.mp hd
    exact shw_lk (by omega) (by omega) (ok.l l hm)).mono (Nat.le_refl _) (by rw [List.length_map]; omega)
  exact ((ShwA.cons (shw_int (by omega) 2) (.cons (shw_int (by omega) 2) (.cons hl.tup (ShwA.nil (w := 0))))).mono (Nat.le_refl _) (by omega)).tup
theorem shw_ints {zs : List Int} {m : Nat} (h : ∀ z ∈ zs, z.natAbs < 10 ^ 12) (hm : zs.length ≤ m) : Shw (.tuple (zs.map PyData.int)) 1 (m * 42) :=
  ((ShwA.of (n := 0) (w := 41) fun d hd => by
    obtain ⟨z, hz, rfl⟩ := List.mem_map.mp hd
    exact shw_int (h z hz) 0).mono (Nat.le_refl _) (by rw [List.length_map]; exact Nat.mul_le_mul_right _ hm)).tup
end XL
namespace XL
open PySem PySem.Spec PyProof.Rows L2
/-! ### repr of any data -/
def tRep2 (K : PySem.W.Frag) (te : TE) : TE := fun σ H Q => te σ H fun x H1 => ∃ d, Dp K H1 x d ∧ d.showable = true ∧ d.hasDict = false ∧ d.depth ≤ 50 ∧ d.shown.length ≤ sizeLine ∧ Q (.str d.shown) H1
theorem pe_rep2 {X : Cx} {k : Nat} {e : Expr} {te : TE} {p pos : Pos} (hG : X.A.guards = some []) (hr : Room k X.A) (hg : Gl X "repr") (hm : X.mg "repr" = none) (hb : bootBuiltins "repr" = some (.builtin "repr")) (ha : PE X e te)
    (he : starEach [e] X.env = (false, eval e X.env) :: starEach [] X.env := by rfl) : PE X (.Call (.Name "repr" p) [e] [] pos) (tRep2 X.K te) := by
  refine ⟨fun pins s σ H Q I h => wpAny_Call_Name_kw (ld_blt I hg hm hb ?_)⟩
  refine PyProof.Rows.callWith_builtin1 (args_cons (thn (ha.run pins s σ H _ I h) fun u s1 ⟨v, H1, I1, r1, q1⟩ => args_nil ?_) he) he rfl
  obtain ⟨d, hd, hs, hno, hdp, hz, q⟩ := q1
  have hu := hr.un
  have go : ∀ a, v = .ref a → wpAny (model X.prog X.w) X.A (call (.builtin "repr") [u]) (EP X pins σ Q) X.xe s1 := fun a ex => by
    subst ex
    obtain ⟨as, rd⟩ := Dp.reads I1 d _ u hd r1
    cases (show u = Value.ref a from r1)
    refine repr_of_reads' rd hs (fun z => absurd z (by rw [hno]; decide)) hG (by omega) (fun b o e => e) (fun h' u tk hk => ?_) hz
    exact ⟨.str d.shown, H1, I1.kept hk, ⟨_, rfl⟩, q⟩
  cases hd with
  | non => cases r1; exact PySem.P.repr_of_none ⟨.str _, H1, I1.tok _, ⟨_, rfl⟩, q⟩
  | bl b => cases r1; exact PySem.P.repr_of_bool ⟨.str _, H1, I1.tok _, ⟨_, rfl⟩, q⟩
  | int i =>
    obtain ⟨t, rfl⟩ := r1
    exact PySem.P.repr_of_int (of_decide_eq_true hs) ⟨.str _, H1, I1.tok _, ⟨_, rfl⟩, q⟩
  | str x =>
    obtain ⟨t, rfl⟩ := r1
    exact PySem.P.repr_of_str ⟨.str _, H1, I1.tok _, ⟨_, rfl⟩, q⟩ hz
  | lst h1 h2 => exact go _ rfl
  | tup h1 h2 => exact go _ rfl
/-! ### data whose leaves are small -/
mutual
def Gd (m : Nat) : PyData → Prop
  | .none => True
  | .bool _ => True
  | .int i => i.natAbs ≤ m
  | .str x => x.cps.toList.all (fun c => decide (c < 16 ^ 8)) = true
  | .list ds => Gds m ds
  | .tuple ds => Gds m ds
  | .dict _ => False
def Gds (m : Nat) : List PyData → Prop
  | [] => True
  | d :: ds => Gd m d ∧ Gds m ds
end
theorem Gds_iff {m : Nat} : ∀ {ds : List PyData}, Gds m ds ↔ ∀ d ∈ ds, Gd m d
  | [] => by simp [Gds]
  | d :: ds => by rw [Gds, Gds_iff]; simp
mutual
theorem Gd.mono {m m' : Nat} (h : m ≤ m') : ∀ d, Gd m d → Gd m' d
  | .none, _ => trivial
  | .bool _, _ => trivial
  | .int i, g => Nat.le_trans g h
  | .str _, g => g
  | .list ds, g => Gds.mono h ds g
  | .tuple ds, g => Gds.mono h ds g
  | .dict _, g => g.elim
theorem Gds.mono {m m' : Nat} (h : m ≤ m') : ∀ ds, Gds m ds → Gds m' ds
  | [], _ => trivial
  | d :: ds, g => ⟨Gd.mono h d g.1, Gds.mono h ds g.2⟩
end
theorem log_lt {n : Nat} (h : n ≤ 10 ^ 32) : n.log2 < 107 := by
  by_cases h0 : n = 0
  · rw [h0]; decide
  · exact (Nat.log2_lt h0).mpr (Nat.lt_of_le_of_lt h (by decide))
theorem short_int {i : Int} (h : i.natAbs ≤ 10 ^ 32) : (PyData.shown (.int i)).length ≤ 40 := by
  have e := int_text_length_le10 (k := 33) (by decide) (a := i) (Nat.lt_of_le_of_lt h (by decide))
  show (Str.ofString (toString i)).length ≤ 40
  rw [PySem.ofString_length]; omega
mutual
theorem Gd.shows {m : Nat} (h : m ≤ 10 ^ 32) : ∀ d, Gd m d → d.showable = true ∧ d.hasDict = false ∧ d.leavesShort 40 = true
  | .none, _ => ⟨rfl, rfl, rfl⟩
  | .bool _, _ => ⟨rfl, rfl, rfl⟩
  | .int i, g => ⟨decide_eq_true (Nat.lt_trans (log_lt (Nat.le_trans g h)) (by decide)), rfl, decide_eq_true (short_int (Nat.le_trans g h))⟩
  | .str _, g => ⟨rfl, rfl, g⟩
  | .list ds, g => Gds.shows h ds g
  | .tuple ds, g => Gds.shows h ds g
  | .dict _, g => g.elim
theorem Gds.shows {m : Nat} (h : m ≤ 10 ^ 32) : ∀ ds, Gds m ds → PyData.showableAll ds = true ∧ PyData.hasDictAll ds = false ∧ PyData.leavesShortAll 40 ds = true
  | [], _ => ⟨rfl, rfl, rfl⟩
  | d :: ds, g => by
    obtain ⟨a1, a2, a3⟩ := Gd.shows h d g.1
    obtain ⟨b1, b2, b3⟩ := Gds.shows h ds g.2
    refine ⟨?_, ?_, ?_⟩
    · show (d.showable && PyData.showableAll ds) = true
      rw [a1, b1]; rfl
    · show (d.hasDict || PyData.hasDictAll ds) = false
      rw [a2, b2]; rfl
    · show (d.leavesShort 40 && PyData.leavesShortAll 40 ds) = true
      rw [a3, b3]; rfl
end
theorem shown_fits40 {d : PyData} (hl : d.leavesShort 40 = true) (hw : d.weight ≤ 300000) : d.shown.length ≤ sizeLine := by
  have h := PyData.shown_le 40 (by decide) d hl
  rw [sizeLine_eq]
  omega
/-- weights and depths by elements -/
theorem weightAll_app : ∀ xs ys : List PyData, PyData.weightAll (xs ++ ys) = PyData.weightAll xs + PyData.weightAll ys
  | [], ys => by simp [PyData.weightAll]
  | x :: xs, ys => by simp only [List.cons_append, PyData.weightAll, weightAll_app xs ys]; omega
theorem depthAll_app : ∀ xs ys : List PyData, PyData.depthAll (xs ++ ys) = max (PyData.depthAll xs) (PyData.depthAll ys)
  | [], ys => by simp [PyData.depthAll]
  | x :: xs, ys => by simp only [List.cons_append, PyData.depthAll, depthAll_app xs ys]; omega
theorem Gds_app {m : Nat} {xs ys : List PyData} : Gds m (xs ++ ys) ↔ Gds m xs ∧ Gds m ys := by
  rw [Gds_iff, Gds_iff, Gds_iff]
  constructor
  · exact fun h => ⟨fun d hd => h d (List.mem_append_left _ hd), fun d hd => h d (List.mem_append_right _ hd)⟩
  · rintro ⟨h1, h2⟩ d hd
    rcases List.mem_append.mp hd with q | q
    · exact h1 d q
    · exact h2 d q
theorem split_at {α : Type} {xs : List α} {j : Nat} {x : α} (h : xs[j]? = some x) : xs = xs.take j ++ x :: xs.drop (j + 1) := by
  have hj : j < xs.length := by
    rcases Nat.lt_or_ge j xs.length with q | q
    · exact q
    · rw [List.getElem?_eq_none q] at h; cases h
  rw [List.getElem?_eq_getElem hj] at h
  have e : xs[j] = x := Option.some.inj h
  rw [← e, List.getElem_cons_drop, List.take_append_drop]
theorem set_at {α : Type} {xs : List α} {j : Nat} {x y : α} (h : xs[j]? = some x) : xs.set j y = xs.take j ++ y :: xs.drop (j + 1) := by
  have hj : j < xs.length := by
    rcases Nat.lt_or_ge j xs.length with q | q
    · exact q
    · rw [List.getElem?_eq_none q] at h; cases h
  exact List.set_eq_take_append_cons_drop.trans (if_pos hj)
end XL
namespace XL
open PySem PySem.Spec PyProof.Rows L2
abbrev sNum : Stmt := topS 1
abbrev sTupOf : Stmt := topS 2
/-! ### helpers -/
theorem PE.imp {X : Cx} {e : Expr} {t t' : TE} (h : PE X e t) (i : ∀ σ H Q, t' σ H Q → t σ H Q) : PE X e t' := ⟨fun pins s σ H Q I q => h.run pins s σ H Q I (i σ H Q q)⟩
def intB : PyData → Bool
  | .int _ => true | .bool _ => true | _ => false
def isL : PyData → Bool
  | .list _ => true | _ => false
def isT : PyData → Bool
  | .tuple _ => true | _ => false
section
variable {K : PySem.W.Frag}
theorem kit_intB (d : PyData) : PySem.W.kitOne K (tyD d) (.type "int") = some (intB d) := by cases d <;> first | exact kitf (by decide +kernel) | exact kitt (by decide +kernel)
theorem kit_isL (d : PyData) : PySem.W.kitOne K (tyD d) (.type "list") = some (isL d) := by cases d <;> first | exact kitf (by decide +kernel) | exact kitt (by decide +kernel)
theorem kit_isT (d : PyData) : PySem.W.kitOne K (tyD d) (.type "tuple") = some (isT d) := by cases d <;> first | exact kitf (by decide +kernel) | exact kitt (by decide +kernel)
end
def rIsD (K : PySem.W.Frag) (T : String) (f : PyData → Bool) : List V → Hp → VK → Prop := fun xs H Q => ∃ v d, xs = [v, .ty T] ∧ Dp K H v d ∧ Q (.bl (f d)) H
theorem call_isD {X : Cx} {T : String} {f : PyData → Bool} (hf : ∀ d, PySem.W.kitOne X.K (tyD d) (.type T) = some (f d)) : CallR X (.builtin "isinstance") (rIsD X.K T f) := by
  intro pins s σ H xs us Q I r h
  obtain ⟨v, d, rfl, hd, q⟩ := h
  exact call_isi pins s σ H _ us Q I r ⟨_, _, _, _, _, rfl, .ty _, tyx_of hd, hf d, q⟩
/-- len of a list or tuple of data -/
theorem call_lenD {X : Cx} : CallR X (.builtin "len") (fun xs H Q => ∃ v d, xs = [v] ∧ Dp X.K H v d ∧ isSeq d = true ∧ Q (.int (itemsD d).length) H) := by
  intro pins s σ H xs us Q I r h
  obtain ⟨v, d, rfl, hd, hs, q⟩ := h
  obtain ⟨a, ys, rfl, hq, ha⟩ := seq_of hd hs
  exact call_len_seq pins s σ H _ us Q I r ⟨a, ys, rfl, hq, by rw [DpAll.length ha]; exact q⟩
/-! ### the look -/
def numB : PyData → Bool
  | .int _ => true | _ => false
def fromB (l : Int) : PyData → Bool
  | .int i => decide (l ≤ i) | _ => false
def placeB (n : Int) : PyData → Bool
  | .int i => if 0 ≤ i then decide (i < n) else false
  | _ => false
def tupB (n : Int) : PyData → Bool
  | .tuple ds => decide ((ds.length : Int) = n) | _ => false
def lockB (r b : Int) : PyData → Bool
  | .tuple [a, c, x, y] => placeB r a && placeB r c && placeB b x && placeB b y
  | _ => false
def canB : PyData → Bool
  | .tuple [.int r, .int b, .tuple ls] => decide (1 ≤ r) && decide (1 ≤ b) && ls.all (lockB r b)
  | _ => false
section
variable {P : Program} {w : World} {K : PySem.W.Frag} {mg : Str → Option Value} {base : Heap}
theorem scNum : FnScope ["thing"] ["thing"] (defScope sNum) := ⟨rfl, rfl, rfl, by decide +kernel, rfl, by decide +kernel, by decide +kernel⟩
def spNum (K : PySem.W.Frag) : Sp := fun vs H Q _ => ∃ (v : V) (d : PyData), vs = [v] ∧ Dp K H v d ∧ Q (.bl (numB d)) H
theorem num_of {A B : Prop} {d : PyData} (hd : ∀ k, d ≠ .dict k) (h1 : numB d = true → intB d = true → isB d = false → A) (h2 : numB d = false → intB d = false → B) (h3 : numB d = false → intB d = true → isB d = true → A) : if intB d = true then A else B := by
  cases d with
  | int i => exact iteT (h1 rfl rfl rfl)
  | bool b => exact iteT (h3 rfl rfl rfl)
  | dict k => exact absurd rfl (hd k)
  | _ => exact iteF (h2 rfl rfl)
theorem ok_num {f : Addr} {fd : FuncData} {k : Nat} (F : Fun K "is_number" "is_number" sNum f fd) (mi : mg "isinstance" = none) (mn : mg "int" = none) (mb : mg "bool" = none) : FnOk P w K mg base CX0 (k + 1) f fd ["thing"] (spNum K) := by
  refine F.ok scNum (fun vs H Q E h => ?_) (fun cdv A outer s H vs Q E hr h => ?_)
  · obtain ⟨v, d, rfl, _⟩ := h
    rfl
  obtain ⟨v, d, rfl, hd, q⟩ := h
  refine ⟨_, pss_one (ps_ret (pe_and (pe_callB (call_isD kit_intB) rfl mi boot_isinstance (pa_cons (pv 0) (pa_cons (pe_bltn (v := .ty "int") rfl mn boot_int' rfl) pa_nil))) (pe_one (pe_not (pe_callB (call_isD kit_bool) rfl mi boot_isinstance (pa_cons (pv 0) (pa_cons (pe_bltn (v := .ty "bool") rfl mb boot_bool' rfl) pa_nil))))))), ?_⟩
  refine ⟨_, rfl, v, d, rfl, hd, _, rfl, num_of (Dp.nodict hd) (fun e _ e2 => ?_) (fun e e1 => ?_) (fun e _ e2 => ?_)⟩
  · refine ⟨_, rfl, v, d, rfl, hd, _, rfl, ?_⟩
    rw [e] at q; rw [e2]; exact q
  · rw [e] at q; exact q
  · refine ⟨_, rfl, v, d, rfl, hd, _, rfl, ?_⟩
    rw [e] at q; rw [e2]; exact q
/-! ### is_number_from -/
theorem scTupOf : FnScope ["thing", "many"] ["thing", "many"] (defScope sTupOf) := ⟨rfl, rfl, rfl, by decide +kernel, rfl, by decide +kernel, by decide +kernel⟩
def spTupOf (K : PySem.W.Frag) : Sp := fun vs H Q _ => ∃ (v : V) (d : PyData) (n : Int), vs = [v, .int n] ∧ Dp K H v d ∧ Q (.bl (tupB n d)) H
theorem ok_tupof {f : Addr} {fd : FuncData} {k : Nat} (F : Fun K "is_tuple_of" "is_tuple_of" sTupOf f fd) (mi : mg "isinstance" = none) (mt : mg "tuple" = none) (me : mg "len" = none) : FnOk P w K mg base CX0 (k + 1) f fd ["thing", "many"] (spTupOf K) := by
  refine F.ok scTupOf (fun vs H Q E h => ?_) (fun cdv A outer s H vs Q E hr h => ?_)
  · obtain ⟨v, d, l, rfl, _⟩ := h
    rfl
  obtain ⟨v, d, l, rfl, hd, q⟩ := h
  refine ⟨_, pss_one (ps_ret (pe_and (pe_callB (call_isD kit_isT) rfl mi boot_isinstance (pa_cons (pv 0) (pa_cons (pe_bltn (v := .ty "tuple") rfl mt boot_tuple rfl) pa_nil))) (pe_one (pe_cmpR op_eq (pe_callB call_lenD rfl me PySem.boot_len (pa_cons (pv 0) pa_nil)) (pv 1) (nomark _))))), ?_⟩
  refine ⟨_, rfl, v, d, rfl, hd, _, rfl, ?_⟩
  have hd' := hd
  cases hd with
  | tup h1 h2 =>
    rename_i a xs ds
    refine iteT ⟨_, rfl, _, _, rfl, hd', rfl, _, rfl, rfl, ?_⟩
    have e : decide (V.int ((itemsD (.tuple ds)).length : Int) = V.int l) = tupB l (.tuple ds) := by
      show decide (V.int (ds.length : Int) = V.int l) = decide ((ds.length : Int) = l)
      by_cases c : (ds.length : Int) = l
      · rw [c, decide_eq_true rfl, decide_eq_true rfl]
      · rw [decide_eq_false c, decide_eq_false (fun z => c (V.int.inj z))]
    have q2 := q
    rw [← e] at q2
    exact q2
  | _ => exact iteF q
/-! ### is_lock -/
theorem tup4 {n : Nat} {d : PyData} (h : tupB n d = true) : ∃ ds, d = .tuple ds ∧ ds.length = n := by
  cases d with
  | tuple ds => exact ⟨ds, rfl, by have := of_decide_eq_true h; omega⟩
  | _ => cases h
end
end XL
namespace PySem
open Sem (wp)
section
variable {prog : Program} {w : World} {K : Type} [DecidableEq K] {knd : KeyKind prog w K} {A : Around} {E : Value → Shared → Prop} {s : Shared}
theorem wpAny_dictPut_pairs {d : Addr} {kvs : List (K × Value)} {k : K} {key v : Value} {Q : Unit → Shared → Prop} (hkey : knd.is k key = true) (hm : s.heap.DictOf knd d kvs)
    (hQ : ∀ h', h'.DictOf knd d (stored kvs k v) → Heap.SameBut d s.heap h' → Q () { s with heap := h' })
    (hsz : kvs.length ≤ sizeLine) :
    wpAny (model prog w) A (dictPut d (knd.hash k) key v) Q E s := by
  obtain ⟨o, es, ep, ho, hc, hd, hk, hp, hn⟩ := hm
  have hes : es.size ≤ sizeLine := by have e1 := hp.length; have e2 : es.toList.length = es.size := by simp
                                      omega
  unfold dictPut
  refine wpAny_bind (wpAny_dictFind_of hkey ho hd hk ?_)
  have hidx : (es.findIdx? fun e => knd.is k e.key) = kvs.findIdx? fun kv => decide (kv.1 = k) := by
    rw [← hp.findIdx k]; obtain ⟨l⟩ := es; simp
  cases hi : es.findIdx? fun e => knd.is k e.key with
  | some i =>
    refine wpAny_updateDict ho hd (hQ _ ⟨_, _, ep, Heap.get?_update_self _ ho (Obj.isFreed_of_dict (Obj.data_mapDict hd _)),
      hc.mapDict _, Obj.data_mapDict hd _, hk.modify _ _, ?_, ?_⟩ (Heap.SameBut.update ..))
    · rw [stored, if_pos (any_of_findIdx_some (hidx ▸ hi))]
      have hl : (es.toList.findIdx? fun e => knd.is k e.key) = some i := by rw [← hi]; obtain ⟨l⟩ := es; simp
      have := hp.modify hn hl v
      obtain ⟨l⟩ := es
      simpa using this
    · rw [stored, if_pos (any_of_findIdx_some (hidx ▸ hi)), keys_map_store]; exact hn
  | none =>
    have hnot : k ∉ kvs.map (·.1) := not_mem_of_findIdx_none (hidx ▸ hi)
    have hany : ¬ (kvs.any fun kv => decide (kv.1 = k)) = true := by
      rw [List.any_eq_true]; rintro ⟨kv, hkv, he⟩
      exact hnot (List.mem_map.mpr ⟨kv, hkv, of_decide_eq_true he⟩)
    refine wpAny_updateDictKeys (hz := hes) ho hd (hQ _ ⟨_, _, ep + 1, Heap.get?_update_self _ ho (Obj.isFreed_of_dict (Obj.data_mapDictKeys hd _)),
      hc.mapDictKeys _, Obj.data_mapDictKeys hd _, hk.push hkey _, ?_, ?_⟩ (Heap.SameBut.update ..))
    · rw [stored, if_neg hany]
      have := hp.append hkey (knd.hash k) v
      obtain ⟨l⟩ := es
      simpa using this
    · rw [stored, if_neg hany, List.map_append, List.nodup_append]
      refine ⟨hn, by simp, ?_⟩
      intro a ha b hb
      simp only [List.map_cons, List.map_nil, List.mem_singleton] at hb
      subst hb
      exact fun e => hnot (e ▸ ha)
theorem wpAny_mergeMapping {d o : Addr} {kvs more : List (K × Value)} {Q : Unit → Shared → Prop} (hdo : d ≠ o) (hoS : (o == sysModules) = false)
    (hd : s.heap.DictOf knd d kvs) (ho : s.heap.DictOf knd o more)
    (hQ : ∀ h', h'.DictOf knd d (merged kvs more) → h'.DictOf knd o more → Heap.SameBut d s.heap h' → Q () { s with heap := h' })
    (hsz : kvs.length + more.length ≤ sizeLine) :
    wpAny (model prog w) A (mergeMapping d (.ref o) false) Q E s := by
  obtain ⟨od, esd, epd, hod, hcd, hdd, hkd, hpd, hnd⟩ := id hd
  obtain ⟨oo, eso, epo, hoo, hco, hdo', hko, hpo, hno⟩ := id ho
  have hlen : more.length = eso.size := by rw [← hpo.length]; simp
  have loop : wpAny (model prog w) A (do
      let l ← dictEntries o
      let epoch ← dictEpoch o
      forIn (List.range l.size) PUnit.unit fun i (_ : PUnit) => (do
          let l' ← dictEntries o
          match l'[i]? with
            | some e => do
              holding [e.key, e.val] (dictPut d e.hash e.key e.val)
              let ep' ← dictEpoch o
              if (ep' != epoch) = true then do
                  (unsupported "dict.changed-during-merge" : Sem PUnit)
                  pure (ForInStep.yield PUnit.unit)
                else pure (ForInStep.yield PUnit.unit)
            | _ => do
              (unsupported "dict.changed-during-merge" : Sem PUnit)
              pure (ForInStep.yield PUnit.unit) : Sem (ForInStep PUnit))
      pure ()) Q E s := by
    refine wpAny_bind (wpAny_dictEntries hoo hdo' ?_)
    refine wpAny_bind (wpAny_dictEpoch hoo hdo' ?_)
    refine wpAny_bind ?_
    rw [List.range_eq_range']
    refine wpAny_forIn_list _
      (fun rest _ s' => ∃ h' i, s' = { s with heap := h' } ∧ rest = List.range' i (eso.size - i) ∧ i ≤ eso.size ∧ h'.DictOf knd d (merged kvs (more.take i)) ∧ h'.get? o = some oo ∧ Heap.SameBut d s.heap h')
      _ ?_ ?_ _ _ ⟨s.heap, 0, rfl, by simp, Nat.zero_le _, by simpa [merged] using hd, hoo, Heap.SameBut.refl _ _⟩
    · rintro x rest b s' ⟨h', i, rfl, hr, hi, hd', hoo', hs'⟩
      have hlt : i < eso.size := by
        rcases Nat.lt_or_ge i eso.size with h | h
        · exact h
        · rw [Nat.sub_eq_zero_of_le h] at hr; simp at hr
      obtain ⟨rfl, hrest⟩ : x = i ∧ rest = List.range' (i + 1) (eso.size - (i + 1)) := by
        have e : eso.size - i = (eso.size - (i + 1)) + 1 := by omega
        rw [e, List.range'_succ] at hr
        injection hr with h1 h2
        exact ⟨h1, h2⟩
      refine wpAny_bind (wpAny_dictEntries hoo' hdo' ?_)
      rw [Array.getElem?_eq_getElem hlt]
      obtain ⟨kv, hkv⟩ : ∃ kv, more[x]? = some kv := ⟨more[x]'(by rw [hlen]; exact hlt), List.getElem?_eq_getElem _⟩
      obtain ⟨k, v⟩ := kv
      obtain ⟨hkey, hval⟩ := hpo.get? (e := eso[x]) (by simp [hlt]) hkv
      obtain ⟨k', hkey', hhash⟩ := hko eso[x] (Array.getElem_mem hlt)
      obtain rfl : k' = k := knd.inj _ _ _ hkey' hkey
      show wpAny _ _ (holding [eso[x].key, eso[x].val] (dictPut d eso[x].hash eso[x].key eso[x].val) >>= _) _ _ _
      rw [hhash, hval]
      have hmx : (merged kvs (more.take x)).length ≤ sizeLine := by
        have e1 := merged_length_le kvs (more.take x)
        have e2 : (more.take x).length ≤ more.length := by rw [List.length_take]; omega
        omega
      refine wpAny_bind (wpAny_holding (wpAny_dictPut_pairs (hsz := hmx) hkey hd' fun h'' hd'' hs'' => ?_))
      have hoo'' : h''.get? o = some oo := (hs''.2 o (Ne.symm hdo)).trans hoo'
      refine wpAny_bind (wpAny_dictEpoch hoo'' hdo' ?_)
      rw [if_neg (by simp)]
      exact wpAny_pure ⟨h'', x + 1, rfl, hrest, hlt, by rw [merged_take_succ kvs more x (k', v) hkv]; exact hd'', hoo'', hs'.trans hs''⟩
    · rintro b s' ⟨h', i, rfl, hr, hi, hd', hoo', hs'⟩
      have hin : i = eso.size := by
        rcases Nat.lt_or_ge i eso.size with h | h
        · have e : eso.size - i = (eso.size - (i + 1)) + 1 := by omega
          rw [e, List.range'_succ] at hr; exact nomatch hr
        · exact Nat.le_antisymm hi h
      refine wpAny_pure (hQ h' ?_ ⟨oo, eso, epo, hoo', hco, hdo', hko, hpo, hno⟩ hs')
      rw [hin, ← hlen, List.take_length] at hd'; exact hd'
  unfold mergeMapping
  refine wpAny_bind (wpAny_isInstance ho.typeIs isSubtype_dict_dict ?_)
  dsimp only
  rw [if_pos rfl]
  refine wpAny_bind (wpAny_specialOf ho.typeIs F.slot_dict_iter.lookup ?_)
  refine wpAny_bind (wpAny_pure ?_)
  rw [show ((some (Value.builtin "dict.__iter__") == some (Value.builtin "dict.__iter__"))) = true from beq_self_eq_true _]
  dsimp only
  rw [if_neg (by rw [hoS]; exact Bool.false_ne_true)]
  refine wpAny_bind (wpAny_dictEntries hod hdd ?_)
  split
  · refine wpAny_bind (wpAny_dictEntries hoo hdo' ?_)
    refine wpAny_bind ?_
    rw [← Array.forIn_toList]
    refine wpAny_forIn_list _ (fun rest _ s' => s' = s ∧ ∀ e ∈ rest, e ∈ eso.toList) _ ?_ ?_ _ _ ⟨rfl, fun e he => he⟩
    · rintro e rest b s' ⟨rfl, hall⟩
      have hrest : ∀ x ∈ rest, x ∈ eso.toList := fun x hx => hall x (List.mem_cons_of_mem _ hx)
      obtain ⟨k, hkey, _⟩ := hko e (Array.mem_toList_iff.mp (hall e List.mem_cons_self))
      have hv := knd.byValue k _ hkey
      cases hek : e.key with
      | ref a => rw [hek] at hv; exact absurd hv (by intro h; cases h)
      | _ => exact wpAny_pure ⟨rfl, hrest⟩
    · rintro b s' ⟨rfl, _⟩
      exact loop
  · exact loop
end
end PySem
namespace L2
open PySem PySem.Spec PyProof.Rows
/-- {**a, **b}, keys ints and texts -/
def tMerge2 (ta tb : TE) : TE := fun σ H Q => ∀ p, H p = none → ta σ (upd H p (.dK [])) fun x H1 => ∃ (a : Addr) (kvs : List (Key × V)), x = .ref a ∧ a ≠ p ∧ H1 p = some (.dK []) ∧ H1 a = some (.dK kvs) ∧ kvs.length ≤ 1000 ∧
  tb σ (upd H1 p (.dK (mergeK [] kvs))) fun y H2 => ∃ (b : Addr) (more : List (Key × V)), y = .ref b ∧ b ≠ p ∧ H2 p = some (.dK (mergeK [] kvs)) ∧ H2 b = some (.dK more) ∧ more.length ≤ 1000 ∧ Q (.ref p) (upd H2 p (.dK (mergeK (mergeK [] kvs) more)))
def mStep (d : Addr) (m : Value) : Sem Unit := (((holding [.ref d, m] (mergeMapping d m false)).onRaise fun x => do let _ ← holding [.ref d, m, x] (runValue (.builtin "proto.let_go" {}))).tryCatch fun e => do
        if ← isInstance e (.type "AttributeError") then
          rule "dict.display.not-a-mapping"; raiseError "TypeError" s!"'{← typeNameOf m}' object is not a mapping"
        throw e).onRaise fun x => do let _ ← holding [.ref d, x] (runValue (.builtin "proto.let_go" {}))
theorem display2 (va vb : Sem Value) : dictDisplay [(none, va), (none, vb)] = (do
    let d ← alloc { cls := .type "dict", data := .dict #[] }
    let m ← holding [.ref d] va
    mStep d m
    let m2 ← holding [.ref d] vb
    mStep d m2
    pure (.ref d)) := by
  unfold dictDisplay mStep
  simp only [List.forIn_cons, List.forIn_nil, List.isEmpty_nil, if_true, pure_bind, bind_assoc]
theorem wp_mStep {prog : Program} {w : World} {K : Type} [DecidableEq K] {knd : KeyKind prog w K} {A : Around} {E : Value → Shared → Prop} {s : Shared} {d o : Addr} {kvs more : List (K × Value)} {Q : Unit → Shared → Prop} (hdo : d ≠ o) (hoS : (o == sysModules) = false)
    (hd : s.heap.DictOf knd d kvs) (ho : s.heap.DictOf knd o more)
    (hQ : ∀ h', h'.DictOf knd d (merged kvs more) → h'.DictOf knd o more → Heap.SameBut d s.heap h' → Q () { s with heap := h' })
    (hsz : kvs.length + more.length ≤ sizeLine) : wpAny (model prog w) A (mStep d (.ref o)) Q E s := by
  unfold mStep
  exact wpAny_onRaise (wpAny_tryCatch (wpAny_onRaise (wpAny_holding (wpAny_mergeMapping hdo hoS hd ho hQ hsz))))
theorem pe_merge2 {X : Cx} {pos : Pos} {va vb : Expr} {ta tb : TE} (ha : PE X va ta) (hb : PE X vb tb) : PE X (.Dict [none, none] [va, vb] pos) (tMerge2 ta tb) := by
  refine ⟨fun pins s σ H Q I q => ?_⟩
  have hn := I.hok.fresh (Nat.le_refl s.heap.objs.size)
  have I1 := I.laid (a := s.heap.objs.size) (o := .dK []) (h' := s.heap.push { cls := .type "dict", data := .dict #[] }) (t' := s.toks) (fun _ _ q => Heap.get?_push_of_some _ q) (Nat.le_refl _) (dk_empty s.heap I.big)
  have q0 := q _ hn
  rw [arm_eval_Dict]
  show wpAny _ _ (standAt pos >>= fun _ => dictDisplay [(none, (do let x ← eval va X.env; standAt pos; pure x)), (none, (do let x ← eval vb X.env; standAt pos; pure x))]) _ _ _
  rw [display2]
  refine wpAny_bind (wpAny_standAt (wpAny_bind (wpAny_alloc ?_)))
  refine wpAny_bind (wpAny_holding (wpAny_bind (thn (ha.run pins _ σ _ _ I1 q0) fun u s1 ⟨x, H1, I2, rx, a, kvs, ex, nap, ep, ea, hl, q1⟩ => wpAny_bind (wpAny_standAt (wpAny_pure ?_)))))
  subst ex
  cases rx
  obtain ⟨z1, hd1, vs0, r0, dd0⟩ := dk_of I2.hok ep
  cases r0
  obtain ⟨z2, hd2, vs1, r1, dd1⟩ := dk_of I2.hok ea
  refine wpAny_bind (wp_mStep (Ne.symm nap) hd2 dd0 dd1 (fun h' dd' _ hs => ?_) (by rw [← r1.length]; show 0 + kvs.length ≤ sizeLine; rw [sizeLine_eq]; omega))
  have he : ∃ q, h'.get? s.heap.objs.size = some q := let ⟨q, _, _, hq, _⟩ := dd'; ⟨q, hq⟩
  have lz : (mergeK [] kvs).length ≤ 1000 := by
    have h1 := length_mergeK kvs []
    rw [List.length_nil] at h1; omega
  have I3 := d_write (t' := s1.toks) I2 (by rw [ep]; exact True.intro) hs he (dk_new (by rw [sizeLine_eq]; omega) hd1 (r1.merge .nil) dd')
  refine wpAny_bind (wpAny_holding (wpAny_bind (thn (hb.run pins _ σ _ _ I3 q1) fun u2 s2 ⟨y, H2, I4, ry, b, more, ey, nbp, ep2, eb, hl2, q2⟩ => wpAny_bind (wpAny_standAt (wpAny_pure ?_)))))
  subst ey
  cases ry
  obtain ⟨z3, hd3, vs3, r3, dd3⟩ := dk_of I4.hok ep2
  obtain ⟨z4, hd4, vs4, r4, dd4⟩ := dk_of I4.hok eb
  refine wpAny_bind (wp_mStep (Ne.symm nbp) hd4 dd3 dd4 (fun h2 dd2 _ hs2 => ?_) (by rw [← r3.length, ← r4.length, sizeLine_eq]; omega))
  have he2 : ∃ q, h2.get? s.heap.objs.size = some q := let ⟨q, _, _, hq, _⟩ := dd2; ⟨q, hq⟩
  have l2 : (mergeK (mergeK [] kvs) more).length ≤ 2000 := by
    have h1 := length_mergeK more (mergeK [] kvs); omega
  have I5 := d_write (t' := s2.toks) I4 (by rw [ep2]; exact True.intro) hs2 he2 (dk_new (by rw [sizeLine_eq]; omega) hd3 (r4.merge r3) dd2)
  exact wpAny_pure ⟨V.ref s.heap.objs.size, _, I5, rfl, q2⟩
end L2
namespace L2
open PySem PySem.Spec PyProof.Rows
section
variable {X : Cx}
/-- name = {..} on one line, the name a local -/
theorem ps_setDc {i : Nat} {y : Str} {py : Pos} {kx vx tg iter : Expr} {ifs : List Expr} {scope : Scope} {own : List (Str × Nat)} {pos spos : Pos} {wi : TI} {g : TG} {tt : TT} {tk tv : TE} (hc : X.calm = true) (hN : X.N.Nodup) (hy : X.N[i]? = some y) (hyl : X.env.scope.names.lookup y = some .local)
    (hsw : swapsWith (.DictComp kx vx [⟨tg, iter, ifs, 0⟩] scope pos) (some (.Name y py)) spos.line X.env = pure true) (hi : PI X tg iter wi) (ok : BlkOk X.N X.env.scope scope own)
    (hg : ∀ (s : Shared) (H : Hp) (C : Addr) (cl : List (Str × Addr)) (fp : List Addr), PG (X.blk s H scope (compEnvC scope cl C X.env) fp) tg g) (ht : ∀ (s : Shared) (H : Hp) (C : Addr) (cl : List (Str × Addr)) (fp : List Addr), PTs (X.blk s H scope (compEnvC scope cl C X.env) fp) ifs tt)
    (hk : ∀ (s : Shared) (H : Hp) (C : Addr) (cl : List (Str × Addr)) (fp : List Addr), PE (X.blk s H scope (compEnvC scope cl C X.env) fp) kx tk)
    (he : ∀ (s : Shared) (H : Hp) (C : Addr) (cl : List (Str × Addr)) (fp : List Addr), PE (X.blk s H scope (compEnvC scope cl C X.env) fp) vx tv) (hs : ∀ x, foldedSetIterable iter X.env x = pure x := by intro _; rfl) :
    PS X (.Assign [.Name y py] (.DictComp kx vx [⟨tg, iter, ifs, 0⟩] scope pos) spos) (tAsg (tDc wi g tt tk tv (own.map (·.2))) (gName i)) := by
  refine ⟨fun pins s σ H D I h => ?_⟩
  rw [exec_Assign_Name_used _ _ _ _ hsw]
  refine wpAny_bind (wpAny_standAt (wpAny_bind ?_))
  show wpAny _ X.A (do let _ ← comprehension (.DictComp kx vx [⟨tg, iter, ifs, 0⟩] scope pos) scope X.env (firstIterPos [⟨tg, iter, ifs, 0⟩] pos) newDict false (eval iter X.env) (some (assign (.Name y py) X.env))) _ _ s
  have h : tDc wi g tt tk tv (own.map (·.2)) σ H (fun x H1 => gName i x σ H1 D.nx) := h
  refine wpAny_bind (thn (dc_core (Qf := fun _ s' => SP X pins D .next s') hc hN I hi ok hg ht hk he hs h fun L C s' m H' I' q hn f => ?_) fun _ s' hq => wpAny_pure (wpAny_pure hq))
  show wpAny _ _ (assign (.Name y py) X.env (.ref L)) _ _ _
  refine wpAny_assign_Name (store_ok2 (v := V.ref L) I' hN hy (.inl hyl) rfl (fun s2 I2 ⟨a, sb, ha⟩ => ?_) (.inr hyl))
  obtain ⟨f0, f1, f2, f3, f4, f5⟩ := f
  have haC : C ≠ a := by
    rcases ha with z | z
    · rw [z]; exact f1
    · exact fun e => f4 y a z e.symm
  refine ⟨m, hn.sameBut sb haC, fun h3 sb3 => ?_⟩
  exact ⟨_, H', I2.turned (t' := s2.toks) (fun b o hb e => (sb3.2 b hb).trans e) f0 f1 f3 f4 f5, q⟩
theorem sw_trueD {kx vx : Expr} {gs : List Comprehension} {scope : Scope} {pos py : Pos} {y : Str} {l : Nat} {env : Env} (hk : env.scope.kind = .function) (hy : env.scope.names.lookup y = some .local) (hl : (py.line == pos.line) = true)
    (ha : (scope.names.any fun (n, k) => n == y && (k == .local || k == .cell)) = false) : swapsWith (.DictComp kx vx gs scope pos) (some (.Name y py)) l env = pure true := by
  have ky : env.kindOf y = some .local := hy
  have hb : env.blockKind = .function := by unfold Env.blockKind; rw [hk]; rfl
  unfold swapsWith
  simp only [hb, ky, ha, Expr.pos, hl]
  rfl
/-- a suite that is never come to -/
theorem pss_no {ss : List Stmt} : PSs X ss (fun _ _ _ => False) := ⟨fun _ _ _ _ _ _ h => h.elim⟩
end
/-- a dict comprehension by an invariant -/
theorem dc_it {J : It} {n : Nat} {G : Hp → Prop} {Y : Nat → Hp → V → Hp → Prop} (w : Walk J n G Y) {g : TG} {tt : TT} {tk tv : TE} {vs : List Nat} {σ : St} {H1 : Hp} {D : Addr} {Qd : Hp → Prop} (Pv : Nat → Hp → Prop) (h0 : Pv 0 (upd H1 D (.dK []))) (hG : ∀ i H, i ≤ n → Pv i H → G H)
    (hs : ∀ i x H H', i < n → Pv i H → Y i H x H' → g x (wipe σ vs) H' fun σ2 H2 => wipe σ2 vs = wipe σ vs ∧ tt σ2 H2 fun b H3 =>
      if b = true then tk σ2 H3 fun y H4 => tv σ2 H4 fun z H5 => ∃ kvs k, y = kV k ∧ H5 D = some (.dK kvs) ∧ kvs.length < sizeLine ∧ Pv (i + 1) (upd H5 D (.dK (putK kvs k z))) else Pv (i + 1) H3) (hd : ∀ H, Pv n H → Qd H) :
    ∃ W : Nat → Nat → Hp → Prop, (∃ m, W 0 m (upd H1 D (.dK []))) ∧ ∀ i m H, W i m H →
      (J.stop i H ∧ Qd H) ∨ (J.go i H ∧ ∃ Nx : Hp → Prop, (∀ H', Nx H' → ∃ m', m' < m ∧ W (i + 1) m' H') ∧ ∀ x H', J.yld i H x H' → g x (wipe σ vs) H' fun σ2 H2 => wipe σ2 vs = wipe σ vs ∧ tt σ2 H2 fun b H3 =>
        if b = true then tk σ2 H3 fun y H4 => tv σ2 H4 fun z H5 => ∃ kvs k, y = kV k ∧ H5 D = some (.dK kvs) ∧ kvs.length < sizeLine ∧ Nx (upd H5 D (.dK (putK kvs k z))) else Nx H3) := by
  refine ⟨fun i m H => m = n - i ∧ i ≤ n ∧ Pv i H, ⟨n, by simp, Nat.zero_le _, h0⟩, ?_⟩
  rintro i m H ⟨rfl, hi, p⟩
  have q := hG i H hi p
  by_cases hlt : i < n
  · refine .inr ⟨w.goes i H hlt q, Pv (i + 1), fun H' p' => ⟨n - (i + 1), by omega, rfl, hlt, p'⟩, fun x H' y => hs i x H H' hlt p (w.yields i H x H' hlt q y)⟩
  · have e : i = n := by omega
    subst e
    exact .inl ⟨w.stops H q, hd H p⟩
end L2
namespace XL
open PySem PySem.Spec PyProof.Rows L2
/-! ### dicts whose keys are tuples of tuples -/
abbrev NE := NestedKey × Addr × V
abbrev NR : List NE → List (NestedKey × Addr × Value) → Prop := Paired fun p q => p.1 = q.1 ∧ p.2.1 = q.2.1 ∧ RelV p.2.2 q.2.2
/-- what stands at a key -/
def atN : List NE → NestedKey → Option V
  | [], _ => none
  | e :: es, k => if e.1 = k then some e.2.2 else atN es k
def dnP (P : Program) (w : World) (a : Addr) (es : List NE) (h : Heap) : Prop := es.length ≤ sizeLine ∧ (a == sysModules) = false ∧
  ∃ ys : List (NestedKey × Addr × Value), NR es ys ∧ ∃ o en ep, h.get? a = some o ∧ o.ExactDict ∧ o.data = .dict en ep ∧ en.toList = ys.map (entryOfKey (nestedKind P w)) ∧ (ys.map (·.1)).Nodup
def DNo (P : Program) (w : World) (a : Addr) (es : List NE) : HO := .ext (dnP P w a es)
/-- the tuple at b is the key k -/
def KyAt (K : PySem.W.Frag) (H : Hp) (k : NestedKey) (b : Addr) : Prop := Dp K H (.ref b) k.data ∧ k.depth ≤ 8
section
variable {P : Program} {w : World} {H : Hp} {h : Heap} {a : Addr} {es : List NE} {ys : List (NestedKey × Addr × Value)}
theorem dn_ok (x : dnP P w a es h) : ObjOk P w H h a (DNo P w a es) := by
  refine ⟨x, ?_, fun h1 h2 q k => ?_⟩
  · obtain ⟨_, _, _, _, o, _, _, e, _⟩ := x
    exact ⟨o, e⟩
  · obtain ⟨z, y, ys, r, o, en, ep, e, c⟩ := q
    exact ⟨z, y, ys, r, o, en, ep, k o e, c⟩
theorem dn_rd (ok : HOk P w H h) (e : Rd H a (DNo P w a es)) : dnP P w a es h := (rd_of ok e).1
theorem NR.val (r : NR es ys) (k : NestedKey) : RelO (atN es k) ((atKey ys k).map (·.2)) := by
  induction r with
  | nil => exact True.intro
  | @cons p q ps qs h t ih =>
    obtain ⟨h1, _, h2⟩ := h
    by_cases e : p.1 = k
    · have e' : q.1 = k := h1.symm.trans e
      have b : atKey (q :: qs) k = some q.2 := by simp [atKey, List.find?_cons, e']
      rw [atN, if_pos e, b]; exact h2
    · have e' : ¬ q.1 = k := fun z => e (h1.trans z)
      have b : atKey (q :: qs) k = atKey qs k := by simp [atKey, List.find?_cons, e']
      rw [atN, if_neg e, b]; exact ih
theorem NR.keys (r : NR es ys) : es.map (·.1) = ys.map (·.1) := by
  induction r with
  | nil => rfl
  | cons h t ih => rw [List.map_cons, List.map_cons, h.1, ih]
theorem NR.ent (r : NR es ys) {i : Nat} {e : NE} (h : es[i]? = some e) : ∃ y, ys[i]? = some y ∧ e.1 = y.1 ∧ e.2.1 = y.2.1 ∧ RelV e.2.2 y.2.2 := by
  induction r generalizing i with
  | nil => simp at h
  | cons h1 t ih =>
    cases i with
    | zero => obtain rfl := Option.some.inj h; exact ⟨_, rfl, h1⟩
    | succ i => exact ih h
end
section
variable {X : Cx} {pins : List (Addr × Obj)} {σ : L2.St} {H : Hp} {s : Shared}
mutual
theorem nk_is (I : Inv X pins σ H s) : ∀ (k : NestedKey) (v : V) (u : Value), Dp X.K H v k.data → RelV v u → NestedIs s.heap k u
  | .none, _, _, h, r => by
    cases h; cases r; exact .none
  | .num i, _, _, h, r => by
    cases h
    obtain ⟨t, rfl⟩ := r
    exact .int i t
  | .text x, _, _, h, r => by
    cases h
    obtain ⟨t, rfl⟩ := r
    exact .text x t
  | .tup ks, _, _, h, r => by
    cases h with
    | tup hs ha =>
      cases r
      obtain ⟨its, rv, ⟨o, ho, hc, n, hd⟩, _⟩ := I.tuple hs
      exact .tup ho hc hd (nk_all I ks _ _ ha rv)
theorem nk_all (I : Inv X pins σ H s) : ∀ (ks : List NestedKey) (vs : List V) (us : List Value), DpAll X.K H vs (NestedKey.datas ks) → Vals vs us → NestedAll s.heap ks us
  | [], _, _, h, r => by
    cases h; cases r; exact .nil
  | k :: ks, _, _, h, r => by
    cases h with
    | cons h1 h2 =>
      cases r with
      | cons r1 r2 => exact .cons (nk_is I k _ _ h1 r1) (nk_all I ks _ _ h2 r2)
end
theorem ky_is (I : Inv X pins σ H s) {k : NestedKey} {b : Addr} (h : KyAt X.K H k b) : (nestedKind X.prog X.w).is s.heap k b := ⟨nk_is I k _ _ h.1 rfl, h.2⟩
theorem dn_of (I : Inv X pins σ H s) {a : Addr} {es : List NE} (e : Rd H a (DNo X.prog X.w a es)) (hk : ∀ x ∈ es, KyAt X.K H x.1 x.2.1) : es.length ≤ sizeLine ∧ (a == sysModules) = false ∧ ∃ ys, NR es ys ∧ s.heap.DictOfH (nestedKind X.prog X.w) a ys := by
  obtain ⟨z, y, ys, r, o, en, ep, h1, h2, h3, h4, h5⟩ := dn_rd I.hok e
  refine ⟨z, y, ys, r, o, en, ep, h1, h2, h3, h4, fun x hx => ?_, h5⟩
  have all : ∀ {l : List NE} {m : List (NestedKey × Addr × Value)}, NR l m → (∀ x ∈ l, KyAt X.K H x.1 x.2.1) → ∀ x ∈ m, (nestedKind X.prog X.w).is s.heap x.1 x.2.1 := by
    intro l m q
    induction q with
    | nil => intro _ x hx; exact nomatch hx
    | @cons p q ps qs hq t ih =>
      intro hk x hx
      rcases List.mem_cons.mp hx with e | hx
      · subst e
        rw [← hq.1, ← hq.2.1]
        exact ky_is I (hk p (List.mem_cons_self ..))
      · exact ih (fun y hy => hk y (List.mem_cons_of_mem _ hy)) x hx
  exact all r hk x hx
def NGet (P : Program) (w : World) (K : PySem.W.Frag) (H : Hp) (a : Addr) (y : V) (o : Option V) : Prop :=
  ∃ es k b, Rd H a (DNo P w a es) ∧ (∀ x ∈ es, KyAt K H x.1 x.2.1) ∧ y = .ref b ∧ KyAt K H k b ∧ o = atN es k
/-- d[y] = v, y a new key -/
def NPut (P : Program) (w : World) (K : PySem.W.Frag) (H : Hp) (a : Addr) (y v : V) (H' : Hp) : Prop :=
  ∃ es k b, H a = some (DNo P w a es) ∧ (∀ x ∈ es, KyAt K H x.1 x.2.1) ∧ y = .ref b ∧ KyAt K H k b ∧ atN es k = none ∧ es.length < sizeLine ∧ H' = upd H a (DNo P w a (es ++ [(k, b, v)]))
theorem nroom {A : Around} (hu : A.units + 10 < cLine) : A.in1.units + 8 < cLine := by show A.units + 1 + 8 < cLine; omega
variable {a : Addr} {y v : V} {u r : Value} {o : Option V} {A : Around} {E : Value → Shared → Prop}
theorem n_typeIs (I : Inv X pins σ H s) (g : NGet X.prog X.w X.K H a y o) : s.TypeIs (.ref a) "dict" := by
  obtain ⟨es, k, b, e, hk, _⟩ := g
  obtain ⟨_, _, ys, _, dd⟩ := dn_of I e hk
  exact dd.typeIs
theorem n_getItem {Q : Value → Shared → Prop} (hu : A.units + 10 < cLine) (I : Inv X pins σ H s) (g : NGet X.prog X.w X.K H a y (some v)) (ry : RelV y u) (h : ∀ w' s', Inv X pins σ H s' → RelV v w' → Q w' s') :
    wpAny (model X.prog X.w) A (getItem (.ref a) u) Q E s := by
  obtain ⟨es, k, b, e, hk, rfl, kb, l⟩ := g
  cases (show u = Value.ref b from ry)
  obtain ⟨z, hd, ys, rel, dd⟩ := dn_of I e hk
  obtain ⟨w', hw, rw'⟩ := RelO.some_of (v := v) (o := (atKey ys k).map (·.2)) (by rw [l]; exact rel.val k)
  obtain ⟨p, hp, hp2⟩ := Option.map_eq_some_iff.mp hw
  refine wpAny_getItem_heap (nroom hu) (ky_is I kb) dd hp ?_
  rw [hp2]
  exact h w' _ (I.tok _) rw'
theorem n_in {Q : Value → Shared → Prop} (hu : A.units + 10 < cLine) (I : Inv X pins σ H s) (g : NGet X.prog X.w X.K H a y o) (ry : RelV y u) (h : ∀ s', Inv X pins σ H s' → Q (.bool o.isSome) s') :
    wpAny (model X.prog X.w) A (compareOp .In u (.ref a)) Q E s := by
  obtain ⟨es, k, b, e, hk, rfl, kb, l⟩ := g
  cases (show u = Value.ref b from ry)
  obtain ⟨z, hd, ys, rel, dd⟩ := dn_of I e hk
  refine wpAny_in_heap (nroom hu) (ky_is I kb) hd dd ?_
  have q := (rel.val k).isSome_eq
  rw [Option.isSome_map] at q
  rw [← q, ← l]
  exact h _ (I.tok _)
theorem n_notIn {Q : Value → Shared → Prop} (hu : A.units + 10 < cLine) (I : Inv X pins σ H s) (g : NGet X.prog X.w X.K H a y o) (ry : RelV y u) (h : ∀ s', Inv X pins σ H s' → Q (.bool (!o.isSome)) s') :
    wpAny (model X.prog X.w) A (compareOp .NotIn u (.ref a)) Q E s := by
  obtain ⟨es, k, b, e, hk, rfl, kb, l⟩ := g
  cases (show u = Value.ref b from ry)
  obtain ⟨z, hd, ys, rel, dd⟩ := dn_of I e hk
  refine wpAny_notIn_heap (nroom hu) (ky_is I kb) hd dd ?_
  have q := (rel.val k).isSome_eq
  rw [Option.isSome_map] at q
  rw [← q, ← l]
  exact h _ (I.tok _)
theorem NR.snoc {es : List NE} {ys : List (NestedKey × Addr × Value)} (r : NR es ys) {k : NestedKey} {b : Addr} {v : V} {u : Value} (hn : atN es k = none) (rv : RelV v u) : NR (es ++ [(k, b, v)]) (storedH ys k b u) := by
  have q := (r.val k).isSome_eq
  rw [Option.isSome_map, hn] at q
  unfold storedH
  rw [if_neg (by rw [← q]; exact Bool.false_ne_true)]
  exact Paired.snoc r ⟨rfl, rfl, rv⟩
theorem n_setItem {H' : Hp} {Q : Unit → Shared → Prop} (hu : A.units + 10 < cLine) (I : Inv X pins σ H s) (g : NPut X.prog X.w X.K H a y v H') (ry : RelV y u) (rv : RelV v r) (h : ∀ s', Inv X pins σ H' s' → Q () s') :
    wpAny (model X.prog X.w) A (setItem (.ref a) u r) Q E s := by
  obtain ⟨es, k, b, e, hk, rfl, kb, hn, hl, rfl⟩ := g
  cases (show u = Value.ref b from ry)
  obtain ⟨z, hd, ys, rel, dd⟩ := dn_of I (.inl e) hk
  have hz : ys.length ≤ sizeLine := by rw [← Paired.length rel]; exact z
  refine wpAny_setItem_heap (hsz := hz) (nroom hu) (ky_is I kb) dd fun h' dd' hs => h _ ?_
  obtain ⟨q, en, ep, hq, h2, h3, h4, _, h5⟩ := dd'
  refine d_write I (by rw [e]; exact True.intro) hs ⟨q, hq⟩ (dn_ok ⟨by rw [List.length_append]; exact hl, hd, _, rel.snoc hn rv, q, en, ep, hq, h2, h3, h4, h5⟩)
end
/-! ### readings and rules -/
def tNGet (P : Program) (w : World) (K : PySem.W.Frag) (td ty : TE) : TE := fun σ H Q => td σ H fun x H1 => ty σ H1 fun y H2 => ∃ a v, x = .ref a ∧ NGet P w K H2 a y (some v) ∧ Q v H2
def tNIn (P : Program) (w : World) (K : PySem.W.Frag) (ty td : TE) : TE := fun σ H Q => ty σ H fun y H1 => td σ H1 fun x H2 => ∃ a o, x = .ref a ∧ NGet P w K H2 a y o ∧ Q (.bl o.isSome) H2
def tNNotIn (P : Program) (w : World) (K : PySem.W.Frag) (ty td : TE) : TE := fun σ H Q => ty σ H fun y H1 => td σ H1 fun x H2 => ∃ a o, x = .ref a ∧ NGet P w K H2 a y o ∧ Q (.bl (!o.isSome)) H2
def sNPut (P : Program) (w : World) (K : PySem.W.Frag) (td ty tv : TE) : TS := fun D σ H => tv σ H fun v H1 => td σ H1 fun x H2 => ty σ H2 fun y H3 => ∃ a H4, x = .ref a ∧ NPut P w K H3 a y v H4 ∧ D.nx σ H4
section
variable {X : Cx} {o i e value : Expr} {pos pos' tpos : Pos} {td ty tv : TE}
theorem pe_nget (hu : X.A.units + 10 < cLine) (ho : PE X o td) (hi : PE X i ty) (hs : NoSl i) : PE X (.Subscript o i pos) (tNGet X.prog X.w X.K td ty) := by
  constructor
  intro pins s σ H Q I h
  refine subD_of PySem.F.slot_dict_getitem.lookup hs (thn (ho.run pins s σ H _ I h) fun u s1 h1 => ?_)
  obtain ⟨x, H1, I1, rx, q1⟩ := h1
  refine thn (hi.run pins s1 σ H1 _ I1 q1) fun iv s2 h2 => ?_
  obtain ⟨y, H2, I2, ry, a, v, rfl, g, q2⟩ := h2
  cases (show u = Value.ref a from rx)
  exact ⟨n_typeIs I2 g, n_getItem hu I2 g ry fun w' s3 J r => ⟨v, H2, J, r, q2⟩⟩
theorem pc_nin (hu : X.A.units + 10 < cLine) (hi : PE X i ty) (ho : PE X o td) : PC X .In i o (tNIn X.prog X.w X.K ty td) := by
  constructor
  intro pins s σ H Q I h
  refine thn (hi.run pins s σ H _ I h) fun iv s1 h1 => ?_
  obtain ⟨y, H1, I1, ry, q1⟩ := h1
  refine thn (ho.run pins s1 σ H1 _ I1 q1) fun u s2 h2 => ?_
  obtain ⟨x, H2, I2, rx, a, ov, rfl, g, q2⟩ := h2
  cases (show u = Value.ref a from rx)
  exact n_in hu I2 g ry fun s3 J => ⟨.bl ov.isSome, H2, J, rfl, q2⟩
theorem pc_nnotin (hu : X.A.units + 10 < cLine) (hi : PE X i ty) (ho : PE X o td) : PC X .NotIn i o (tNNotIn X.prog X.w X.K ty td) := by
  constructor
  intro pins s σ H Q I h
  refine thn (hi.run pins s σ H _ I h) fun iv s1 h1 => ?_
  obtain ⟨y, H1, I1, ry, q1⟩ := h1
  refine thn (ho.run pins s1 σ H1 _ I1 q1) fun u s2 h2 => ?_
  obtain ⟨x, H2, I2, rx, a, ov, rfl, g, q2⟩ := h2
  cases (show u = Value.ref a from rx)
  exact n_notIn hu I2 g ry fun s3 J => ⟨.bl (!ov.isSome), H2, J, rfl, q2⟩
theorem ps_nput (hu : X.A.units + 10 < cLine) (ho : PE X o td) (hi : PE X i ty) (hv : PE X value tv) (hs : swapsWith value (some (.Subscript o i pos')) pos.line X.env = pure false) :
    PS X (.Assign [.Subscript o i pos'] value pos) (sNPut X.prog X.w X.K td ty tv) := by
  constructor
  intro pins s σ H D I h
  refine wpAny_Assign_Subscript (thn (hv.run pins s σ H _ I h) fun r s1 h1 => ?_) hs
  obtain ⟨v, H1, I1, rv, q1⟩ := h1
  refine thn (ho.run pins s1 σ H1 _ I1 q1) fun u s2 h2 => ?_
  obtain ⟨x, H2, I2, rx, q2⟩ := h2
  refine thn (hi.run pins s2 σ H2 _ I2 q2) fun iv s3 h3 => ?_
  obtain ⟨y, H3, I3, ry, a, H4, rfl, g, q3⟩ := h3
  cases (show u = Value.ref a from rx)
  exact n_setItem hu I3 g ry rv fun s4 J => ⟨σ, H4, J, q3⟩
/-- len(d) -/
def rLenN (P : Program) (w : World) (K : PySem.W.Frag) : List V → Hp → VK → Prop := fun xs H Q => ∃ (p : Addr) (es : List NE), xs = [.ref p] ∧ Rd H p (DNo P w p es) ∧ (∀ x ∈ es, KyAt K H x.1 x.2.1) ∧ Q (.int ((es.length : Nat) : Int)) H
theorem call_lenN : CallR X (.builtin "len") (rLenN X.prog X.w X.K) := by
  intro pins s σ H xs us Q I r h
  obtain ⟨p, es, rfl, hp, hk, q⟩ := h
  obtain ⟨u, rfl, rx⟩ := vals1 r
  obtain rfl : u = .ref p := rx
  obtain ⟨z, hd, ys, rel, dd⟩ := dn_of I hp hk
  have hl : es.length = ys.length := Paired.length rel
  refine call_len_dictH hd dd (by rw [← hl]; rw [sizeLine_eq] at z; omega) ?_
  rw [← hl]
  exact ⟨.int ((es.length : Nat) : Int), H, I.tok _, ⟨_, rfl⟩, q⟩
end
end XL
namespace XL
open PySem PySem.Spec PyProof.Rows L2
/-! ### such a dict displayed, gone through, asked by get -/
theorem dn_bare {P : Program} {w : World} (h : Heap) (big : sysModules < h.objs.size) : dnP P w h.objs.size [] (h.push { cls := .type "dict", data := .dict #[] }) := by
  refine ⟨Nat.zero_le _, ?_, [], .nil, _, #[], 0, Heap.get?_push_size _ rfl, ⟨rfl, rfl, rfl⟩, rfl, rfl, List.nodup_nil⟩
  rw [beq_eq_false_iff_ne]
  intro z
  rw [z] at big
  exact absurd big (Nat.lt_irrefl _)
def tNDisp (P : Program) (w : World) (K : PySem.W.Frag) (trs : List (TE × TE)) : TE := fun σ H Q => ∀ p, H p = none → tPairs trs σ (upd H p (DNo P w p [])) fun ps H2 =>
  H2 p = some (DNo P w p []) ∧ ∃ k b v, ps = [(.ref b, v)] ∧ KyAt K H2 k b ∧ Q (.ref p) (upd H2 p (DNo P w p [(k, b, v)]))
theorem pe_ndisp {X : Cx} {pos : Pos} {ke ve : Expr} {trs : List (TE × TE)} (hu : X.A.units + 10 < cLine) (hp : PPs X pos [some ke] [ve] trs) : PE X (.Dict [some ke] [ve] pos) (tNDisp X.prog X.w X.K trs) := by
  constructor
  intro pins s σ H Q I q
  have fresh := I.hok.fresh (Nat.le_refl s.heap.objs.size)
  have I1 := I.laid (t' := s.toks) (fun _ _ z => Heap.get?_push_of_some _ z) (Nat.le_refl _) (dn_ok (P := X.prog) (w := X.w) (H := upd H s.heap.objs.size (DNo X.prog X.w s.heap.objs.size [])) (dn_bare s.heap I.big))
  have shape := zip_pairTrees [some ke] [ve] X.env pos rfl rfl
  have one : (pairTrees [some ke] [ve] X.env pos).length = 1 := rfl
  rw [arm_eval_Dict, shape, dictDisplay_pairs _ (fun z => by rw [z] at one; cases one) (by rw [one]; decide)]
  refine wpAny_bind (wpAny_standAt (wpAny_bind (wpAny_subDictH (knd := nestedKind X.prog X.w) (show X.A.units + 8 < cLine by omega) (by rw [one]; decide) ?_)))
  refine thn (hp.run pins _ σ _ _ I1 (q _ fresh)) fun vs s2 h2 => ?_
  obtain ⟨ps, H2, I2, rel, e, k, b, v, rfl, kb, q2⟩ := h2
  cases rel with
  | @cons p0 p1 _ _ r t =>
    cases t
    obtain ⟨kv, vv⟩ := p1
    obtain rfl : kv = Value.ref b := r.1
    obtain ⟨z, hd, ys, r0, dd⟩ := dn_of I2 (.inl e) (fun x hx => nomatch hx)
    cases r0
    refine ⟨[(k, b, vv)], ⟨rfl, rfl, ky_is I2 kb, True.intro⟩, dd, fun h' tk dd' sb => wpAny_pure ⟨.ref s.heap.objs.size, _, ?_, rfl, q2⟩⟩
    obtain ⟨ob, en, ep, hq, x1, x2, x3, _, x5⟩ := dd'
    exact d_write I2 (by rw [e]; exact True.intro) sb ⟨ob, hq⟩ (dn_ok ⟨by show 1 ≤ sizeLine; decide, hd, _, .cons ⟨rfl, rfl, r.2⟩ .nil, ob, en, ep, hq, x1, x2, x3, x5⟩)
theorem frzN {X : Cx} {pins : List (Addr × Obj)} {σ : L2.St} {H : Hp} {s : Shared} {d : Addr} {o : Obj} {es : List NE} (I : Inv X pins σ H s) (h : H d = some (.frz o (DNo X.prog X.w d es))) :
    (d == sysModules) = false ∧ s.heap.get? d = some o ∧ o.ExactDict ∧ ∃ (en : Array DictEntry) (ep : Nat), o.data = .dict en ep ∧ en.size = es.length ∧
      ∀ (i : Nat) (e : NE), es[i]? = some e → ∃ q : DictEntry, en[i]? = some q ∧ q.key = .ref e.2.1 := by
  obtain ⟨g0, ⟨z, y, ys, r, ob, en, ep, g1, x1, x2, x3, x5⟩, _⟩ := (show ObjOk X.prog X.w H s.heap d (.frz o (DNo X.prog X.w d es)) from I.hok d _ h)
  rw [g0] at g1
  obtain rfl := Option.some.inj g1
  have sz : en.size = ys.length := by
    have := congrArg List.length x3
    rw [List.length_map, Array.length_toList] at this
    exact this
  refine ⟨y, g0, x1, en, ep, x2, by rw [sz]; exact (Paired.length r).symm, fun i e he => ?_⟩
  obtain ⟨u, hu, _, e2, _⟩ := r.ent he
  refine ⟨entryOfKey (nestedKind X.prog X.w) u, ?_, by show Value.ref u.2.1 = _; rw [e2]⟩
  rw [← Array.getElem?_toList, x3, List.getElem?_map, hu]; rfl
def Itn (P : Program) (w : World) (d : Addr) (o : Obj) (es : List NE) : It :=
  ⟨fun i H => H d = some (.frz o (DNo P w d es)) ∧ i < es.length, fun i H x H' => H' = H ∧ ∃ e, es[i]? = some e ∧ x = .ref e.2.1, fun i H => H d = some (.frz o (DNo P w d es)) ∧ es.length ≤ i⟩
theorem turn_n {P : Program} {w : World} {K : PySem.W.Frag} {tg : Expr} {d : Addr} {o : Obj} {en : Array DictEntry} {ep : Nat} {es : List NE} (it : Addr) (hod : o.data = .dict en ep) : Turn P w K tg (Itn P w d o es) [it] it (fun i h => h.IsKeyIter it d i es.length ep) where
  mem := List.mem_singleton.mpr rfl
  obj := fun i h st b hb => by
    obtain rfl := List.mem_singleton.mp hb
    obtain ⟨oi, e, c, dd⟩ := st
    exact ⟨oi, e, fun v z => by rw [dd] at z; cases z⟩
  keep := fun i h h' st k => st.at fun oi e => k it (List.mem_singleton.mpr rfl) oi e
  item := by
    intro X hP hw hK hc i pins s σ H E I hf st hg
    subst hP hw hK
    obtain ⟨f0, f1, f2, f3, f4, f5⟩ := hf it (List.mem_singleton.mpr rfl)
    obtain ⟨sm, g0, x1, en', ep', x2, sz, ent⟩ := frzN I hg.1
    obtain ⟨rfl, rfl⟩ := dict_ep hod x2
    obtain ⟨q, hq, hk⟩ := ent i (es[i]'hg.2) (List.getElem?_eq_getElem hg.2)
    refine next_key_item st g0 x2 sz hq fun h' st' sb => ?_
    have J : Inv X pins σ H { s with heap := h' } := I.turned (t' := s.toks) (fun b ob hb e => (sb.2 b hb).trans e) f0 f1 f3 f4 f5
    obtain ⟨oi, y1, y2, y3⟩ := id st'
    exact ⟨q.key, rfl, go_of (s := { s with heap := h' }) y1 y2 y3 (by decide) ⟨.ref (es[i]'hg.2).2.1, H, J, hk, ⟨rfl, _, List.getElem?_eq_getElem hg.2, rfl⟩, st', fun b hb => (hf b hb).1⟩⟩
  done := by
    intro X hP hw hK hc i pins s σ H E I hf st hg
    subst hP hw hK
    obtain ⟨f0, f1, f2, f3, f4, f5⟩ := hf it (List.mem_singleton.mpr rfl)
    obtain ⟨sm, g0, x1, en', ep', x2, sz, ent⟩ := frzN I hg.1
    obtain ⟨rfl, rfl⟩ := dict_ep hod x2
    exact next_key_end (I.ok.hd hc) st g0 x2 sz hg.2 fun h' eb => ⟨rfl, I.turned (t' := s.toks) (fun b ob hb e => eb b ob hb e) f0 f1 f3 f4 f5⟩
  self := fun A i s Q E st h => (turn_keysT (P := P) (w := w) (K := K) (tg := tg) (d := d) (o := o) (kvs := es.map fun _ => ([], V.non)) it hod).self A i s Q E (by rw [List.length_map]; exact st) h
theorem pe_ngetK {X : Cx} {o i : Expr} {pos : Pos} {td ty : TE} {P : Program} {w : World} {K : PySem.W.Frag} (hP : X.prog = P) (hw : X.w = w) (hK : X.K = K) (hu : X.A.units + 10 < cLine) (ho : PE X o td) (hi : PE X i ty) (hs : NoSl i) : PE X (.Subscript o i pos) (tNGet P w K td ty) := by
  subst hP hw hK
  exact pe_nget hu ho hi hs
def iNKeys (P : Program) (w : World) (td : TE) : TI := fun σ H R => td σ H fun x H1 => ∃ d o es, x = .ref d ∧ H1 d = some (.frz o (DNo P w d es)) ∧ R (Itn P w d o es) H1
theorem pi_nkeys {X : Cx} {tg e : Expr} {td : TE} (he : PE X e td) : PI X tg e (iNKeys X.prog X.w td) := by
  constructor
  intro pins s σ H R I h
  refine thn (he.run pins s σ H _ I h) fun u s1 hx => ?_
  obtain ⟨x, H1, I1, rx, d, o, es, rfl, hd, q⟩ := hx
  obtain rfl : u = Value.ref d := rx
  obtain ⟨sm, g0, x1, en, ep, x2, sz, ent⟩ := frzN I1 hd
  refine iter_keys sm g0 x1 x2 (pi_one (tk := s1.toks) I1 _ (turn_n _ x2) ⟨_, Heap.get?_push_size _ rfl, rfl, ?_⟩ q)
  rw [sz] <;> rfl
theorem walk_n {P : Program} {w : World} {d : Addr} {o : Obj} {es : List NE} : Walk (Itn P w d o es) es.length (fun H => H d = some (.frz o (DNo P w d es))) (fun i H x H' => H' = H ∧ ∃ e, es[i]? = some e ∧ x = .ref e.2.1) :=
  ⟨fun _ _ hi q => ⟨q, hi⟩, fun _ q => ⟨q, Nat.le_refl _⟩, fun _ _ _ _ _ _ y => y⟩
end XL
namespace XL
open PySem PySem.Spec PyProof.Rows L2
/-! ### {k: v for x in xs}, the keys tuples of tuples: no test, new keys only -/
def tDcN (P : Program) (w : World) (K : PySem.W.Frag) (wi : TI) (g : TG) (tk tv : TE) (vs : List Nat) : TE := fun σ H Q => wi σ H fun J H1 => ∀ D, H1 D = none →
  ∃ Wn : Nat → Nat → Hp → Prop, (∃ m, Wn 0 m (upd H1 D (DNo P w D []))) ∧ ∀ i m G, Wn i m G → (J.stop i G ∧ Q (.ref D) G) ∨
    (J.go i G ∧ ∀ x G1, J.yld i G x G1 → g x (wipe σ vs) G1 fun τ G2 => wipe τ vs = wipe σ vs ∧ tk τ G2 fun y G3 => tv τ G3 fun z G4 => ∃ G5 m', NPut P w K G4 D y z G5 ∧ m' < m ∧ Wn (i + 1) m' G5)
section
variable {X : Cx} {pins : List (Addr × Obj)} {σ : L2.St} {H : Hp} {s : Shared}
theorem n_dictSet {H' : Hp} {a : Addr} {y v : V} {u r : Value} {E : Value → Shared → Prop} {Q : Unit → Shared → Prop} (hu : X.A.units + 10 < cLine) (I : Inv X pins σ H s) (g : NPut X.prog X.w X.K H a y v H') (ry : RelV y u) (rv : RelV v r) (h : ∀ s', Inv X pins σ H' s' → Q () s') :
    wpAny (model X.prog X.w) X.A (dictSet a u r) Q E s := by
  obtain ⟨es, k, b, e, hk, rfl, kb, hn, hl, rfl⟩ := g
  cases (show u = Value.ref b from ry)
  obtain ⟨z, hd, ys, rel, dd⟩ := dn_of I (.inl e) hk
  have hz : ys.length ≤ sizeLine := by rw [← Paired.length rel]; exact z
  refine wpAny_dictSet_heap (hsz := hz) (show X.A.units + 8 < cLine by omega) (ky_is I kb) dd fun h' dd' hs => h _ ?_
  obtain ⟨q, en, ep, hq, h2, h3, h4, _, h5⟩ := dd'
  exact d_write I (by rw [e]; exact True.intro) hs ⟨q, hq⟩ (dn_ok ⟨by rw [List.length_append]; exact hl, hd, _, rel.snoc hn rv, q, en, ep, hq, h2, h3, h4, h5⟩)
variable {kx vx tg iter : Expr} {scope : Scope} {own : List (Str × Nat)} {wi : TI} {g : TG} {tk tv : TE}
/-- what the parts of such a comprehension are -/
structure DcParts (X : Cx) (tg kx vx iter : Expr) (scope : Scope) (own : List (Str × Nat)) (wi : TI) (g : TG) (tk tv : TE) : Prop where
  u : X.A.units + 10 < cLine
  calm : X.calm = true
  nd : X.N.Nodup
  walk : PI X tg iter wi
  blk : BlkOk X.N X.env.scope scope own
  tgt : ∀ (s : Shared) (H : Hp) (C : Addr) (cl : List (Str × Addr)) (fp : List Addr), PG (X.blk s H scope (compEnvC scope cl C X.env) fp) tg g
  key : ∀ (s : Shared) (H : Hp) (C : Addr) (cl : List (Str × Addr)) (fp : List Addr), PE (X.blk s H scope (compEnvC scope cl C X.env) fp) kx tk
  val : ∀ (s : Shared) (H : Hp) (C : Addr) (cl : List (Str × Addr)) (fp : List Addr), PE (X.blk s H scope (compEnvC scope cl C X.env) fp) vx tv
  fold : ∀ x, foldedSetIterable iter X.env x = pure x
theorem dcn_core {Q : VK} {pos pos' : Pos} {use : Option (Value → Sem Unit)} {Qf : Value → Shared → Prop} (p : DcParts X tg kx vx iter scope own wi g tk tv) (I : Inv X pins σ H s) (h : tDcN X.prog X.w X.K wi g tk tv (own.map (·.2)) σ H Q)
    (after : ∀ D C s' m G, Inv X pins σ G s' → Q (.ref D) G → s'.heap.Ns C m → FpOk X pins G C → compPost (model X.prog X.w) X.A X.xe use Qf (.ref D) C (.ok .next) s') :
    wpAny (model X.prog X.w) X.A (comprehension (.DictComp kx vx [⟨tg, iter, [], 0⟩] scope pos) scope X.env pos' newDict false (eval iter X.env) use) Qf X.xe s := by
  have cells : ∀ y ∈ scope.names, y.2 = .free → ∃ c, X.env.cells.lookup y.1 = some c := fun y hy e => (p.blk.free y hy e).elim (fun k => I.ok.has _ (.inl k)) fun k => I.ok.has _ (.inr k)
  refine wpAny_comprehension_free (use := use) rfl p.fold (closure_ok cells) p.blk.kind (fun y hy e => by rw [p.blk.uniq y hy, e]) ?_
  refine thn (p.walk.run pins s σ H _ I h) fun _ _ hx => thn hx fun _ s2 h2 => ?_
  obtain ⟨it, fp, tn, J, H2, rfl, I2, T, st2, f2, q⟩ := h2
  refine wpAny_newObj_type (newEnv_comp ?_)
  have hDn : H2 s2.heap.objs.size = none := I2.hok.fresh (Nat.le_refl _)
  obtain ⟨Wn, ⟨m0, w0⟩, turn⟩ := q _ hDn
  have fit : ∀ b ∈ fp, b < s2.heap.objs.size := fun b hb => (T.obj _ _ st2 b hb).elim fun _ z => Heap.lt_size z.1
  obtain ⟨H3, eH3⟩ : ∃ H3, H3 = upd H2 s2.heap.objs.size (DNo X.prog X.w s2.heap.objs.size []) := ⟨_, rfl⟩
  have I3 : Inv X pins σ H3 ({ s2 with heap := s2.heap.push { cls := .type "dict", data := .dict #[] } } : Shared) := by
    rw [eH3]
    exact I2.laid (t' := s2.toks) (fun _ _ e => Heap.get?_push_of_some _ e) (Nat.le_refl _) (dn_ok (dn_bare s2.heap I2.big))
  rw [← eH3] at w0
  generalize hD : s2.heap.objs.size = D at *
  obtain ⟨s3, e3⟩ : ∃ s3 : Shared, s3 = ({ s2 with heap := s2.heap.push { cls := .type "dict", data := .dict #[] } } : Shared) := ⟨_, rfl⟩
  rw [← e3] at I3
  have h3 : s3.heap = s2.heap.push { cls := .type "dict", data := .dict #[] } := by rw [e3]
  have f3 : ∀ b ∈ fp, FpOk X pins H3 b ∧ b < s3.heap.objs.size := fun b hb => by
    have lt := fit b hb
    refine ⟨⟨?_, (f2 b hb).2⟩, by rw [h3, Heap.size_push]; exact Nat.lt_succ_of_lt (by rw [hD]; exact lt)⟩
    rw [eH3, upd_ne (Nat.ne_of_lt lt)]; exact (f2 b hb).1
  have st3 : tn 0 s3.heap := T.keep _ _ _ st2 fun _ _ o e => by rw [h3]; exact Heap.get?_push_of_some _ e
  obtain ⟨ce, hce⟩ : ∃ ce, ce = compEnvC scope (cellsFrom (s3.heap.objs.size + 1) scope.names (cloFrom X.env.cells scope.names [])) s3.heap.objs.size X.env := ⟨_, rfl⟩
  have I4 := block_start I3 p.blk p.nd f3
  have pg := p.tgt s3 H3 s3.heap.objs.size (cellsFrom (s3.heap.objs.size + 1) scope.names (cloFrom X.env.cells scope.names [])) fp
  have pk := p.key s3 H3 s3.heap.objs.size (cellsFrom (s3.heap.objs.size + 1) scope.names (cloFrom X.env.cells scope.names [])) fp
  have pv := p.val s3 H3 s3.heap.objs.size (cellsFrom (s3.heap.objs.size + 1) scope.names (cloFrom X.env.cells scope.names [])) fp
  have cL : ce.locals = s3.heap.objs.size := by rw [hce]; rfl
  rw [← hce] at I4 pg pk pv
  obtain ⟨s4, e4⟩ : ∃ s4 : Shared, s4 = ({ s3 with heap := pushCells (s3.heap.push { cls := .type "dict", data := .dict #[] }) scope.names } : Shared) := ⟨_, rfl⟩
  have I4' : Inv (X.blk s3 H3 scope ce fp) [] (wipe σ (own.map (·.2))) H3 s4 := by rw [e4]; exact I4
  have st4 : tn 0 s4.heap := T.keep _ _ _ st3 fun _ _ o e => by rw [e4]; exact pushCells_keeps _ _ _ _ (Heap.get?_push_of_some _ e)
  have quiet : ∀ {τ : L2.St} {G : Hp} {t : Shared}, Inv (X.blk s3 H3 scope ce fp) [] τ G t → (∀ b ∈ fp, G b = none) → ∀ b ∈ fp, FpOk (X.blk s3 H3 scope ce fp) [] G b := fun I' hn b hb =>
    ⟨hn b hb, (I'.ok.exf b hb).1, I'.ok.exfs b hb, .inl hb, fun x c e => (I'.ok.exf b hb).2 x c e, fun z hz => absurd (show z ∈ ([] : List (Addr × Obj)) ++ [] from hz) (by simp)⟩
  have loop : codeAny (model X.prog X.w) X.A (.compLoop (.DictComp kx vx [⟨tg, iter, [], 0⟩] scope pos) 0 (.ref it) (.ref D) ce) (compPost (model X.prog X.w) X.A X.xe use Qf (.ref D) ce.locals) s4 := by
    refine compLoop_anyD (fun n t => ∃ i G, Inv (X.blk s3 H3 scope ce fp) [] (wipe σ (own.map (·.2))) G t ∧ tn i t.heap ∧ (∀ b ∈ fp, G b = none) ∧ Wn i n G) ?_ m0 ⟨0, H3, I4', st4, fun b hb => (f3 b hb).1.1, w0⟩
    rintro n s5 ⟨i, G, I5, st5, n5, w5⟩
    rcases turn i n G w5 with ⟨stop, qq⟩ | ⟨go, step⟩
    · refine thnF (T.done (X.blk s3 H3 scope ce fp) rfl rfl rfl p.calm i [] s5 _ G (fun _ _ => False) I5 (quiet I5 n5) st5 stop) fun r s6 ⟨hr, I6⟩ => ?_
      rw [hr]
      have nC : G ce.locals = none := I6.free
      obtain ⟨m, hm, _⟩ := I6.loc
      refine after D ce.locals s6 m G (I3.call' (ch := fp) I6.os I6.base I6.hok I6.bare fun b hb => ?_) qq hm ?_
      · have f := (f3 b hb).1
        exact ⟨f.2.2.2.1, f.2.1, f.2.2.2.2.1, f.2.2.2.2.2⟩
      · rw [cL] at nC ⊢
        exact I3.fpOk (Nat.le_refl _) nC
    · refine thnF (T.item (X.blk s3 H3 scope ce fp) rfl rfl rfl p.calm i [] s5 _ G (fun _ _ => False) I5 (quiet I5 n5) st5 go) fun r s6 ⟨u, hr, h6⟩ => ?_
      rw [hr]
      refine thnF h6 fun _ s7 ⟨x, G1, I7, r7, y7, st7, n7⟩ => ?_
      refine thnF (pg.run _ s7 _ G1 x u _ (I7.pinned (quiet I7 n7) (T.obj _ _ st7)) r7 (step x G1 y7)) fun _ s8 ⟨τ, G2, I8, hw, q8⟩ => ?_
      refine thnF ((pts_nil (X := X.blk s3 H3 scope ce fp)).run _ s8 τ G2 (fun b G3 => b = true ∧ G3 = G2) I8 ⟨rfl, rfl⟩) fun b s9 ⟨G3, I9, hb, e9⟩ => ?_
      subst hb e9
      rw [if_pos rfl]
      refine thnF (pk.run _ s9 τ G3 _ I9 q8) fun _ s10 ⟨y, G4, I10, r10, q10⟩ => ?_
      refine thnF (pv.run _ s10 τ G4 _ I10 q10) fun _ s11 ⟨z, G5, I11, r11, G6, m', put, lt, w6⟩ => ?_
      refine n_dictSet (X := X.blk s3 H3 scope ce fp) p.u I11 put r10 r11 fun s12 I12 => ⟨m', lt, i + 1, G6, ?_, ?_, fun b hb => ?_, w6⟩
      · refine (I12.unpinned (pins := [])).weak (by rw [← hw, wipe_length]) fun j v e => ?_
        rw [← hw] at e
        exact (wipe_some e).1
      · exact T.keep _ _ _ st7 fun b hb o e => (I12.pin (b, o) (List.mem_append_right _ (List.mem_append_right _ (mem_pinsAt hb e)))).1
      · obtain ⟨o, e, _⟩ := T.obj _ _ st7 b hb
        exact (I12.pin (b, o) (List.mem_append_right _ (List.mem_append_right _ (mem_pinsAt hb e)))).2.1
  have fin := codeAny_compStart_dict loop (T.self X.A 0 _ _ _ st4 loop)
  rw [hce, e4] at fin
  rw [e3] at fin
  exact fin
/-- name = {k: v for x in xs}, the name a local -/
theorem ps_setDcN {i : Nat} {y : Str} {py pos spos : Pos} (hy : X.N[i]? = some y) (hyl : X.env.scope.names.lookup y = some .local)
    (hsw : swapsWith (.DictComp kx vx [⟨tg, iter, [], 0⟩] scope pos) (some (.Name y py)) spos.line X.env = pure true) (p : DcParts X tg kx vx iter scope own wi g tk tv) :
    PS X (.Assign [.Name y py] (.DictComp kx vx [⟨tg, iter, [], 0⟩] scope pos) spos) (tAsg (tDcN X.prog X.w X.K wi g tk tv (own.map (·.2))) (gName i)) := by
  refine ⟨fun pins s σ H D I h => ?_⟩
  have h : tDcN X.prog X.w X.K wi g tk tv (own.map (·.2)) σ H (fun x G => gName i x σ G D.nx) := h
  rw [exec_Assign_Name_used _ _ _ _ hsw]
  refine wpAny_bind (wpAny_standAt (wpAny_bind ?_))
  show wpAny _ X.A (do let _ ← comprehension (.DictComp kx vx [⟨tg, iter, [], 0⟩] scope pos) scope X.env (firstIterPos [⟨tg, iter, [], 0⟩] pos) newDict false (eval iter X.env) (some (assign (.Name y py) X.env))) _ _ s
  refine wpAny_bind (thn (dcn_core (Qf := fun _ t => SP X pins D .next t) p I h fun L C t m G I' q hn f => ?_) fun _ t hq => wpAny_pure (wpAny_pure hq))
  obtain ⟨f0, f1, f2, f3, f4, f5⟩ := f
  show wpAny _ _ (assign (.Name y py) X.env (.ref L)) _ _ _
  refine wpAny_assign_Name (store_ok2 (v := V.ref L) I' p.nd hy (.inl hyl) rfl (fun t2 J ⟨a, sb, ha⟩ => ?_) (.inr hyl))
  have haC : C ≠ a := ha.elim (fun z => by rw [z]; exact f1) fun z e => f4 y a z e.symm
  exact ⟨m, hn.sameBut sb haC, fun h3 sb3 => ⟨_, G, J.turned (t' := t2.toks) (fun b o hb e => (sb3.2 b hb).trans e) f0 f1 f3 f4 f5, q⟩⟩
end
end XL
namespace XL
open PySem PySem.Spec PyProof.Rows L2
/-! ### {k: v for x in xs for y in ys}, no tests: the turns -/
section
variable {P : Program} {w : World} {A : Around} {R : Result → Shared → Prop} {s : Shared} {kx vx t0 i0 t1 i1 : Expr} {scope : Scope} {pos : Pos} {it acc : Value} {env : Env} {D : Addr}
/-- the two clauses as they stand -/
abbrev two (t0 i0 t1 i1 : Expr) : List Comprehension := [⟨t0, i0, [], 0⟩, ⟨t1, i1, [], 0⟩]
theorem turn_first (kx vx t0 i0 t1 i1 : Expr) (scope : Scope) (pos : Pos) (it acc : Value) (env : Env) : compTurn (.DictComp kx vx (two t0 i0 t1 i1) scope pos) 0 it acc env =
    (standAt i0.pos >>= fun _ => pyNext it >>= fun r => match r with
      | none => pure (.done .next)
      | some v => letOwnedTupleGo t0 it v >>= fun _ => assign t0 env v >>= fun _ => eval i1 env >>= fun x => standAt i1.pos >>= fun _ => foldedSetIterable i1 env x >>= fun x =>
          holding [x] (pyIter x) >>= fun u => runOwn (.compStart (.DictComp kx vx (two t0 i0 t1 i1) scope pos) 1 u acc env) env >>= fun _ =>
          again (.compLoop (.DictComp kx vx (two t0 i0 t1 i1) scope pos) 0 it acc env)) := by rfl
theorem turn_second (kx vx t0 i0 t1 i1 : Expr) (scope : Scope) (pos : Pos) (it : Value) (D : Addr) (env : Env) : compTurn (.DictComp kx vx (two t0 i0 t1 i1) scope pos) 1 it (.ref D) env =
    (standAt i1.pos >>= fun _ => pyNext it >>= fun r => match r with
      | none => pure (.done .next)
      | some v => letOwnedTupleGo t1 it v >>= fun _ => assign t1 env v >>= fun _ => (eval kx env >>= fun a => holding [a] (eval vx env) >>= fun b =>
          standAt { kx.pos with endLine := vx.pos.endLine, endCol := vx.pos.endCol } >>= fun _ => holding [a, b] (dictSet D a b)) >>= fun _ =>
          again (.compLoop (.DictComp kx vx (two t0 i0 t1 i1) scope pos) 1 it (.ref D) env)) := by rfl
/-- what a turn's tree may end in: nothing goes out of it -/
abbrev Nb (P : Program) (w : World) (A : Around) (R : Result → Shared → Prop) (env : Env) : Value → Shared → Prop := notedBy (model P w) A env fun e s' => R (.error e) s'
theorem loop_first (hs : ∀ x, foldedSetIterable i1 env x = pure x) (C : Nat → Shared → Prop)
    (turn : ∀ n s, C n s → wpAny (model P w) A (pyNext it) (fun r s1 => match r with
      | none => R (.ok .next) s1
      | some v => wpAny (model P w) A (letOwnedTupleGo t0 it v) (fun _ s2 => wpAny (model P w) A (assign t0 env v) (fun _ s3 => wpAny (model P w) A (eval i1 env) (fun x s4 =>
          wpAny (model P w) A (pyIter x) (fun u s5 => codeAny (model P w) A (.compStart (.DictComp kx vx (two t0 i0 t1 i1) scope pos) 1 u acc env) (fun r s6 => match r with
              | .ok _ => ∃ m, m < n ∧ C m s6
              | .error _ => False) s5) (Nb P w A R env) s4) (Nb P w A R env) s3) (Nb P w A R env) s2) (Nb P w A R env) s1) (Nb P w A R env) s)
    (n : Nat) (h : C n s) : codeAny (model P w) A (.compLoop (.DictComp kx vx (two t0 i0 t1 i1) scope pos) 0 it acc env) R s := by
  refine codeAny_loop rfl C (fun n s hC => ?_) n h
  show wpAny _ A ((compTurn (.DictComp kx vx (two t0 i0 t1 i1) scope pos) 0 it acc env).onRaise (fun x => do noteFrame x env; theTreesLotGoes x)) _ _ s
  have id' : ∀ (x : Value) (s' : Shared), Nb P w A R env x s' → Nb P w A R env x s' := fun _ _ z => z
  refine wpAny_noted ?_
  rw [turn_first]
  refine wpAny_bind (wpAny_standAt (wpAny_bind (wpAny_mono (turn n s hC) (fun r s1 q1 => ?_) id')))
  cases r with
  | none => exact wpAny_pure q1
  | some v =>
    refine wpAny_bind (wpAny_mono q1 (fun _ s2 q2 => ?_) id')
    refine wpAny_bind (wpAny_mono q2 (fun _ s3 q3 => ?_) id')
    refine wpAny_bind (wpAny_mono q3 (fun x s4 q4 => ?_) id')
    refine wpAny_bind (wpAny_standAt (wpAny_bind (wpAny_of_eq (hs x) (wpAny_bind (wpAny_holding (wpAny_mono q4 (fun u s5 q5 => ?_) id'))))))
    refine wpAny_bind (wpAny_runOwn ?_)
    rw [Around.mark_none]
    refine codeAny_mono q5 fun r s6 q6 => ?_
    cases r with
    | error e => exact q6.elim
    | ok f => first | exact wpAny_pure ⟨rfl, q6⟩ | exact wpAny_bind (wpAny_pure (wpAny_pure ⟨rfl, q6⟩))
theorem loop_second (C : Nat → Shared → Prop)
    (turn : ∀ n s, C n s → wpAny (model P w) A (pyNext it) (fun r s1 => match r with
      | none => R (.ok .next) s1
      | some v => wpAny (model P w) A (letOwnedTupleGo t1 it v) (fun _ s2 => wpAny (model P w) A (assign t1 env v) (fun _ s3 => wpAny (model P w) A (eval kx env) (fun a s4 =>
          wpAny (model P w) A (eval vx env) (fun b s5 => wpAny (model P w) A (dictSet D a b) (fun _ s6 => ∃ m, m < n ∧ C m s6) (Nb P w A R env) s5) (Nb P w A R env) s4) (Nb P w A R env) s3) (Nb P w A R env) s2) (Nb P w A R env) s1) (Nb P w A R env) s)
    (n : Nat) (h : C n s) : codeAny (model P w) A (.compLoop (.DictComp kx vx (two t0 i0 t1 i1) scope pos) 1 it (.ref D) env) R s := by
  refine codeAny_loop rfl C (fun n s hC => ?_) n h
  show wpAny _ A ((compTurn (.DictComp kx vx (two t0 i0 t1 i1) scope pos) 1 it (.ref D) env).onRaise (fun x => do noteFrame x env; theTreesLotGoes x)) _ _ s
  have id' : ∀ (x : Value) (s' : Shared), Nb P w A R env x s' → Nb P w A R env x s' := fun _ _ z => z
  refine wpAny_noted ?_
  rw [turn_second]
  refine wpAny_bind (wpAny_standAt (wpAny_bind (wpAny_mono (turn n s hC) (fun r s1 q1 => ?_) id')))
  cases r with
  | none => exact wpAny_pure q1
  | some v =>
    refine wpAny_bind (wpAny_mono q1 (fun _ s2 q2 => ?_) id')
    refine wpAny_bind (wpAny_mono q2 (fun _ s3 q3 => ?_) id')
    refine wpAny_bind (wpAny_bind (wpAny_mono q3 (fun a s4 q4 => ?_) id'))
    refine wpAny_bind (wpAny_holding (wpAny_mono q4 (fun b s5 q5 => ?_) id'))
    exact wpAny_bind (wpAny_standAt (wpAny_holding (wpAny_mono q5 (fun _ s6 q6 => wpAny_pure ⟨rfl, q6⟩) id')))
theorem start_second (h0 : codeAny (model P w) A (.compLoop (.DictComp kx vx (two t0 i0 t1 i1) scope pos) 1 it acc env) R s)
    (h : wpAny (model P w) A (pyIter it) (fun u s' => codeAny (model P w) A (.compLoop (.DictComp kx vx (two t0 i0 t1 i1) scope pos) 1 u acc env) R s') (Nb P w A R env) s) :
    codeAny (model P w) A (.compStart (.DictComp kx vx (two t0 i0 t1 i1) scope pos) 1 it acc env) R s := by
  refine codeAny_of_tree ?_
  show wpAny _ A ((compStart (.DictComp kx vx (two t0 i0 t1 i1) scope pos) 1 it acc env).onRaise (fun x => do noteFrame x env; standAt theWindowsPlace)) _ _ s
  refine wpAny_notedAt ?_
  unfold compStart
  show wpAny _ A (ask >>= _) _ _ s
  refine wpAny_bind (wpAny_askSetting (wpAny_ite ?_))
  split
  · first | exact wpAny_pure (And.intro rfl h0) | exact wpAny_bind (wpAny_pure (wpAny_pure (And.intro rfl h0)))
  · refine wpAny_bind (wpAny_rule ?_)
    first
      | exact wpAny_bind (wpAny_standAt (wpAny_bind (wpAny_mono h (fun u s' z => wpAny_pure (And.intro rfl z)) fun _ _ z => z)))
      | (show wpAny _ _ (standAt i1.pos >>= _) _ _ s; exact wpAny_bind (wpAny_standAt (wpAny_bind (wpAny_mono h (fun u s' z => wpAny_pure (And.intro rfl z)) fun _ _ z => z))))
end
end XL
namespace XL
open PySem PySem.Spec PyProof.Rows L2
/-- {k: v for x in xs for y in ys}, the keys tuples: with two clauses, behind the second one's store the key and the value -/
def tDcN2 (P : Program) (w : World) (K : PySem.W.Frag) (wi : TI) (g : TG) (wj : TI) (gj : TG) (tk tv : TE) (vs us : List Nat) : TE := fun σ H Q => wi σ H fun J H1 => ∀ D, H1 D = none →
  ∃ Wn : Nat → Nat → Hp → Prop, (∃ m, Wn 0 m (upd H1 D (DNo P w D []))) ∧ ∀ i m G, Wn i m G → (J.stop i G ∧ Q (.ref D) G) ∨
    (J.go i G ∧ ∀ x G1, J.yld i G x G1 → g x (wipe σ vs) G1 fun τ G2 => wipe τ vs = wipe σ vs ∧ wj τ G2 fun L G3 =>
      ∃ Wm : Nat → Nat → Hp → Prop, (∃ c, Wm 0 c G3) ∧ ∀ j c B, Wm j c B → (L.stop j B ∧ ∃ m', m' < m ∧ Wn (i + 1) m' B) ∨
        (L.go j B ∧ ∀ x B1, L.yld j B x B1 → gj x (wipe τ us) B1 fun ρ B2 => wipe ρ us = wipe τ us ∧ tk ρ B2 fun y B3 => tv ρ B3 fun z B4 => ∃ B5 c', NPut P w K B4 D y z B5 ∧ c' < c ∧ Wm (j + 1) c' B5))
section
variable {X : Cx} {pins : List (Addr × Obj)} {σ : L2.St} {H : Hp} {s : Shared}
variable {kx vx tg iter tj itj : Expr} {scope : Scope} {own : List (Str × Nat)} {us : List Nat} {wi wj : TI} {g gj : TG} {tk tv : TE}
/-- what the parts of such a comprehension are -/
structure Dc2Parts (X : Cx) (tg iter tj itj kx vx : Expr) (scope : Scope) (own : List (Str × Nat)) (us : List Nat) (wi : TI) (g : TG) (wj : TI) (gj : TG) (tk tv : TE) : Prop where
  u : X.A.units + 10 < cLine
  calm : X.calm = true
  nd : X.N.Nodup
  walk : PI X tg iter wi
  blk : BlkOk X.N X.env.scope scope own
  sub : ∀ i ∈ us, i ∈ own.map (·.2)
  tgt : ∀ (s : Shared) (H : Hp) (C : Addr) (cl : List (Str × Addr)) (fp : List Addr), PG (X.blk s H scope (compEnvC scope cl C X.env) fp) tg g
  walk2 : ∀ (s : Shared) (H : Hp) (C : Addr) (cl : List (Str × Addr)) (fp : List Addr), PI (X.blk s H scope (compEnvC scope cl C X.env) fp) tj itj wj
  tgt2 : ∀ (s : Shared) (H : Hp) (C : Addr) (cl : List (Str × Addr)) (fp : List Addr), PG (X.blk s H scope (compEnvC scope cl C X.env) fp) tj gj
  key : ∀ (s : Shared) (H : Hp) (C : Addr) (cl : List (Str × Addr)) (fp : List Addr), PE (X.blk s H scope (compEnvC scope cl C X.env) fp) kx tk
  val : ∀ (s : Shared) (H : Hp) (C : Addr) (cl : List (Str × Addr)) (fp : List Addr), PE (X.blk s H scope (compEnvC scope cl C X.env) fp) vx tv
  fold : ∀ x, foldedSetIterable iter X.env x = pure x
  fold2 : ∀ env x, foldedSetIterable itj env x = pure x
theorem dc2_core {Q : VK} {pos pos' : Pos} {use : Option (Value → Sem Unit)} {Qf : Value → Shared → Prop} (p : Dc2Parts X tg iter tj itj kx vx scope own us wi g wj gj tk tv) (I : Inv X pins σ H s) (h : tDcN2 X.prog X.w X.K wi g wj gj tk tv (own.map (·.2)) us σ H Q)
    (after : ∀ D C s' m G, Inv X pins σ G s' → Q (.ref D) G → s'.heap.Ns C m → FpOk X pins G C → compPost (model X.prog X.w) X.A X.xe use Qf (.ref D) C (.ok .next) s') :
    wpAny (model X.prog X.w) X.A (comprehension (.DictComp kx vx (two tg iter tj itj) scope pos) scope X.env pos' newDict false (eval iter X.env) use) Qf X.xe s := by
  have cells : ∀ y ∈ scope.names, y.2 = .free → ∃ c, X.env.cells.lookup y.1 = some c := fun y hy e => (p.blk.free y hy e).elim (fun k => I.ok.has _ (.inl k)) fun k => I.ok.has _ (.inr k)
  refine wpAny_comprehension_free (use := use) rfl p.fold (closure_ok cells) p.blk.kind (fun y hy e => by rw [p.blk.uniq y hy, e]) ?_
  refine thn (p.walk.run pins s σ H _ I h) fun _ _ hx => thn hx fun _ s2 h2 => ?_
  obtain ⟨it, fp, tn, J, H2, rfl, I2, T, st2, f2, q⟩ := h2
  refine wpAny_newObj_type (newEnv_comp ?_)
  have hDn : H2 s2.heap.objs.size = none := I2.hok.fresh (Nat.le_refl _)
  obtain ⟨Wn, ⟨m0, w0⟩, turn⟩ := q _ hDn
  have fit : ∀ b ∈ fp, b < s2.heap.objs.size := fun b hb => (T.obj _ _ st2 b hb).elim fun _ z => Heap.lt_size z.1
  obtain ⟨H3, eH3⟩ : ∃ H3, H3 = upd H2 s2.heap.objs.size (DNo X.prog X.w s2.heap.objs.size []) := ⟨_, rfl⟩
  have I3 : Inv X pins σ H3 ({ s2 with heap := s2.heap.push { cls := .type "dict", data := .dict #[] } } : Shared) := by
    rw [eH3]
    exact I2.laid (t' := s2.toks) (fun _ _ e => Heap.get?_push_of_some _ e) (Nat.le_refl _) (dn_ok (dn_bare s2.heap I2.big))
  rw [← eH3] at w0
  generalize hD : s2.heap.objs.size = D at *
  obtain ⟨s3, e3⟩ : ∃ s3 : Shared, s3 = ({ s2 with heap := s2.heap.push { cls := .type "dict", data := .dict #[] } } : Shared) := ⟨_, rfl⟩
  rw [← e3] at I3
  have h3 : s3.heap = s2.heap.push { cls := .type "dict", data := .dict #[] } := by rw [e3]
  have f3 : ∀ b ∈ fp, FpOk X pins H3 b ∧ b < s3.heap.objs.size := fun b hb => by
    have lt := fit b hb
    refine ⟨⟨?_, (f2 b hb).2⟩, by rw [h3, Heap.size_push]; exact Nat.lt_succ_of_lt (by rw [hD]; exact lt)⟩
    rw [eH3, upd_ne (Nat.ne_of_lt lt)]; exact (f2 b hb).1
  have st3 : tn 0 s3.heap := T.keep _ _ _ st2 fun _ _ o e => by rw [h3]; exact Heap.get?_push_of_some _ e
  obtain ⟨ce, hce⟩ : ∃ ce, ce = compEnvC scope (cellsFrom (s3.heap.objs.size + 1) scope.names (cloFrom X.env.cells scope.names [])) s3.heap.objs.size X.env := ⟨_, rfl⟩
  have I4 := block_start I3 p.blk p.nd f3
  have pg := p.tgt s3 H3 s3.heap.objs.size (cellsFrom (s3.heap.objs.size + 1) scope.names (cloFrom X.env.cells scope.names [])) fp
  have pi2 := p.walk2 s3 H3 s3.heap.objs.size (cellsFrom (s3.heap.objs.size + 1) scope.names (cloFrom X.env.cells scope.names [])) fp
  have pg2 := p.tgt2 s3 H3 s3.heap.objs.size (cellsFrom (s3.heap.objs.size + 1) scope.names (cloFrom X.env.cells scope.names [])) fp
  have pk := p.key s3 H3 s3.heap.objs.size (cellsFrom (s3.heap.objs.size + 1) scope.names (cloFrom X.env.cells scope.names [])) fp
  have pv := p.val s3 H3 s3.heap.objs.size (cellsFrom (s3.heap.objs.size + 1) scope.names (cloFrom X.env.cells scope.names [])) fp
  have cL : ce.locals = s3.heap.objs.size := by rw [hce]; rfl
  rw [← hce] at I4 pg pi2 pg2 pk pv
  obtain ⟨s4, e4⟩ : ∃ s4 : Shared, s4 = ({ s3 with heap := pushCells (s3.heap.push { cls := .type "dict", data := .dict #[] }) scope.names } : Shared) := ⟨_, rfl⟩
  have I4' : Inv (X.blk s3 H3 scope ce fp) [] (wipe σ (own.map (·.2))) H3 s4 := by rw [e4]; exact I4
  have st4 : tn 0 s4.heap := T.keep _ _ _ st3 fun _ _ o e => by rw [e4]; exact pushCells_keeps _ _ _ _ (Heap.get?_push_of_some _ e)
  have quiet : ∀ {τ : L2.St} {G : Hp} {t : Shared}, Inv (X.blk s3 H3 scope ce fp) [] τ G t → (∀ b ∈ fp, G b = none) → ∀ b ∈ fp, FpOk (X.blk s3 H3 scope ce fp) [] G b := fun I' hn b hb =>
    ⟨hn b hb, (I'.ok.exf b hb).1, I'.ok.exfs b hb, .inl hb, fun x c e => (I'.ok.exf b hb).2 x c e, fun z hz => absurd (show z ∈ ([] : List (Addr × Obj)) ++ [] from hz) (by simp)⟩
  have loop : codeAny (model X.prog X.w) X.A (.compLoop (.DictComp kx vx (two tg iter tj itj) scope pos) 0 (.ref it) (.ref D) ce) (compPost (model X.prog X.w) X.A X.xe use Qf (.ref D) ce.locals) s4 := by
    refine loop_first (p.fold2 ce) (fun n t => ∃ i G, Inv (X.blk s3 H3 scope ce fp) [] (wipe σ (own.map (·.2))) G t ∧ tn i t.heap ∧ (∀ b ∈ fp, G b = none) ∧ Wn i n G) ?_ m0 ⟨0, H3, I4', st4, fun b hb => (f3 b hb).1.1, w0⟩
    rintro n s5 ⟨i, G, I5, st5, n5, w5⟩
    rcases turn i n G w5 with ⟨stop, qq⟩ | ⟨go, step⟩
    · refine thnF (T.done (X.blk s3 H3 scope ce fp) rfl rfl rfl p.calm i [] s5 _ G (fun _ _ => False) I5 (quiet I5 n5) st5 stop) fun r s6 ⟨hr, I6⟩ => ?_
      rw [hr]
      have nC : G ce.locals = none := I6.free
      obtain ⟨m, hm, _⟩ := I6.loc
      refine after D ce.locals s6 m G (I3.call' (ch := fp) I6.os I6.base I6.hok I6.bare fun b hb => ?_) qq hm ?_
      · have f := (f3 b hb).1
        exact ⟨f.2.2.2.1, f.2.1, f.2.2.2.2.1, f.2.2.2.2.2⟩
      · rw [cL] at nC ⊢
        exact I3.fpOk (Nat.le_refl _) nC
    · refine thnF (T.item (X.blk s3 H3 scope ce fp) rfl rfl rfl p.calm i [] s5 _ G (fun _ _ => False) I5 (quiet I5 n5) st5 go) fun r s6 ⟨u, hr, h6⟩ => ?_
      rw [hr]
      refine thnF h6 fun _ s7 ⟨x, G1, I7, r7, y7, st7, n7⟩ => ?_
      refine thnF (pg.run _ s7 _ G1 x u _ (I7.pinned (quiet I7 n7) (T.obj _ _ st7)) r7 (step x G1 y7)) fun _ s8 ⟨τ, G2, I8, hw, q8⟩ => ?_
      refine thnF (pi2.run _ s8 τ G2 _ I8 q8) fun xv s9 hx => thnF hx fun itv s10 h10 => ?_
      obtain ⟨it1, fp1, tn1, L, G3, rfl, I10, T1, st10, f10, Wm, ⟨c0, v0⟩, turn1⟩ := h10
      have still : ∀ {B : Hp}, (∀ b ∈ fp1, B b = none) → ∀ b ∈ fp1, FpOk (X.blk s3 H3 scope ce fp) ([] ++ pinsAt fp s7.heap) B b := fun hn b hb => ⟨hn b hb, (f10 b hb).2⟩
      have wide : ∀ (j : Nat) v, (wipe σ (own.map (·.2)))[j]? = some (some v) → (wipe τ us)[j]? = some (some v) := fun j v e => by
        rw [← hw] at e
        obtain ⟨e1, e2⟩ := wipe_some e
        rw [wipe_out fun z => e2 (p.sub j z)]
        exact e1
      have loop1 : codeAny (model X.prog X.w) X.A (.compLoop (.DictComp kx vx (two tg iter tj itj) scope pos) 1 (.ref it1) (.ref D) ce)
          (fun r t => match r with
            | .ok _ => ∃ m, m < n ∧ ∃ i G, Inv (X.blk s3 H3 scope ce fp) [] (wipe σ (own.map (·.2))) G t ∧ tn i t.heap ∧ (∀ b ∈ fp, G b = none) ∧ Wn i m G
            | .error _ => False) s10 := by
        refine loop_second (fun c t => ∃ j B, Inv (X.blk s3 H3 scope ce fp) ([] ++ pinsAt fp s7.heap) (wipe τ us) B t ∧ tn1 j t.heap ∧ (∀ b ∈ fp1, B b = none) ∧ Wm j c B) ?_ c0 ⟨0, G3, I10.weak (wipe_length _ _) (fun j v e => (wipe_some e).1), st10, fun b hb => (f10 b hb).1, v0⟩
        rintro c s11 ⟨j, B, I11, st11, n11, v11⟩
        rcases turn1 j c B v11 with ⟨stop1, m', lt, nx⟩ | ⟨go1, step1⟩
        · refine thnF (T1.done (X.blk s3 H3 scope ce fp) rfl rfl rfl p.calm j _ s11 (wipe τ us) B (fun _ _ => False) I11 (still n11) st11 stop1) fun r s12 ⟨hr, I12⟩ => ?_
          rw [hr]
          refine ⟨m', lt, i + 1, B, (I12.unpinned (pins := [])).weak (by rw [← hw, wipe_length, wipe_length]) wide, T.keep _ _ _ st7 fun b hb o e => ?_, fun b hb => ?_, nx⟩
          · exact (I12.pin (b, o) (List.mem_append_right _ (List.mem_append_right _ (mem_pinsAt hb e)))).1
          · obtain ⟨o, e, _⟩ := T.obj _ _ st7 b hb
            exact (I12.pin (b, o) (List.mem_append_right _ (List.mem_append_right _ (mem_pinsAt hb e)))).2.1
        · refine thnF (T1.item (X.blk s3 H3 scope ce fp) rfl rfl rfl p.calm j _ s11 (wipe τ us) B (fun _ _ => False) I11 (still n11) st11 go1) fun r s12 ⟨u1, hr, h12⟩ => ?_
          rw [hr]
          refine thnF h12 fun _ s13 ⟨x1, B1, I13, r13, y13, st13, n13⟩ => ?_
          refine thnF (pg2.run _ s13 (wipe τ us) B1 x1 u1 _ (I13.pinned (still n13) (T1.obj _ _ st13)) r13 (step1 x1 B1 y13)) fun _ s14 ⟨ρ, B2, I14, hw2, q14⟩ => ?_
          refine thnF (pk.run _ s14 ρ B2 _ I14 q14) fun _ s15 ⟨y, B3, I15, r15, q15⟩ => ?_
          refine thnF (pv.run _ s15 ρ B3 _ I15 q15) fun _ s16 ⟨z, B4, I16, r16, B5, c', put, lt, v17⟩ => ?_
          refine n_dictSet (X := X.blk s3 H3 scope ce fp) p.u I16 put r15 r16 fun s17 I17 => ⟨c', lt, j + 1, B5, ?_, ?_, fun b hb => ?_, v17⟩
          · refine I17.unpinned.weak (by rw [← hw2, wipe_length]) fun j v e => ?_
            rw [← hw2] at e
            exact (wipe_some e).1
          · exact T1.keep _ _ _ st13 fun b hb o e => (I17.pin (b, o) (List.mem_append_right _ (List.mem_append_right _ (mem_pinsAt hb e)))).1
          · obtain ⟨o, e, _⟩ := T1.obj _ _ st13 b hb
            exact (I17.pin (b, o) (List.mem_append_right _ (List.mem_append_right _ (mem_pinsAt hb e)))).2.1
      exact start_second loop1 (T1.self X.A 0 _ _ _ st10 loop1)
  have fin := codeAny_compStart_dict loop (T.self X.A 0 _ _ _ st4 loop)
  rw [hce, e4] at fin
  rw [e3] at fin
  exact fin
theorem pe_dc2 {pos : Pos} (p : Dc2Parts X tg iter tj itj kx vx scope own us wi g wj gj tk tv) : PE X (.DictComp kx vx (two tg iter tj itj) scope pos) (tDcN2 X.prog X.w X.K wi g wj gj tk tv (own.map (·.2)) us) := by
  refine ⟨fun pins s σ H Q I h => ?_⟩
  rw [arm_eval_DictComp]
  refine dc2_core p I h fun D C s' m G I' q hn f => ⟨m, hn, fun h' sb => ?_⟩
  obtain ⟨f0, f1, f2, f3, f4, f5⟩ := f
  exact ⟨.ref D, G, I'.turned (t' := s'.toks) (fun b o hb e => (sb.2 b hb).trans e) f0 f1 f3 f4 f5, rfl, q⟩
end
end XL
namespace XL
open PySem PySem.Spec PyProof.Rows L2
/-! ### maps as mathematics: an end is a lock and a side, a map has for each basin its ends -/
abbrev Tip := Int × Int
abbrev Cht := List (List Tip)
theorem nd_sub : ∀ (A B : List Tip), A.Nodup → (∀ x ∈ A, x ∈ B) → A.length ≤ B.length
  | [], _, _, _ => Nat.zero_le _
  | a :: A, B, nd, sub => by
    have na := List.nodup_cons.mp nd
    have m := sub a (List.mem_cons_self ..)
    have r := nd_sub A (B.erase a) na.2 fun x hx => (List.mem_erase_of_ne (fun z => na.1 (by rw [← z]; exact hx))).mpr (sub x (List.mem_cons_of_mem _ hx))
    have l := List.length_erase_of_mem m
    have pos : 0 < B.length := List.length_pos_of_mem m
    rw [List.length_cons]
    omega
/-- the other end of the lock -/
def oth (e : Tip) : Tip := (e.1, 1 - e.2)
theorem oth_oth (e : Tip) : oth (oth e) = e := by
  unfold oth
  ext
  · rfl
  · show 1 - (1 - e.2) = e.2
    omega
theorem oth_inj {a b : Tip} (h : oth a = oth b) : a = b := by rw [← oth_oth a, h, oth_oth]
/-- each end of a basin with the next one -/
def nxB (a : List Tip) : List (Tip × Tip) := (List.range a.length).map fun k => (a.getD k (0, 0), a.getD ((k + 1) % a.length) (0, 0))
def nxL (c : Cht) : List (Tip × Tip) := c.flatMap nxB
def bhL (c : Cht) : List (Tip × Tip) := (nxL c).map fun p => (oth p.1, p.2)
theorem nxB_keys (a : List Tip) : (nxB a).map (·.1) = a := by
  unfold nxB
  rw [List.map_map]
  apply List.ext_getElem?
  intro i
  rw [List.getElem?_map]
  by_cases h : i < a.length
  · rw [List.getElem?_range h]
    simp [List.getD, h]
  · rw [List.getElem?_eq_none (by simp; omega), List.getElem?_eq_none (by omega)]; rfl
theorem nxL_keys (c : Cht) : (nxL c).map (·.1) = c.flatten := by
  unfold nxL
  rw [List.map_flatMap]
  induction c with
  | nil => rfl
  | cons a c ih => rw [List.flatMap_cons, List.flatten_cons, nxB_keys, ih]
theorem nxB_val {a : List Tip} {p : Tip × Tip} (h : p ∈ nxB a) : p.2 ∈ a := by
  unfold nxB at h
  obtain ⟨k, hk, rfl⟩ := List.mem_map.mp h
  have hk := List.mem_range.mp hk
  have lt : (k + 1) % a.length < a.length := Nat.mod_lt _ (by omega)
  show a.getD ((k + 1) % a.length) (0, 0) ∈ a
  simp [List.getD, lt]
theorem nxL_val {c : Cht} {p : Tip × Tip} (h : p ∈ nxL c) : p.2 ∈ c.flatten := by
  obtain ⟨a, ha, hp⟩ := List.mem_flatMap.mp h
  exact List.mem_flatten.mpr ⟨a, ha, nxB_val hp⟩
theorem bhL_keys (c : Cht) : (bhL c).map (·.1) = c.flatten.map oth := by
  unfold bhL
  rw [List.map_map, ← nxL_keys, List.map_map]
  rfl
/-- the end behind one in its face -/
def stp (c : Cht) (e : Tip) : Tip := ((nxL c).lookup (oth e)).getD (0, 0)
theorem look_mem {β : Type} : ∀ {l : List (Tip × β)} {k : Tip}, k ∈ l.map (·.1) → ∃ v, l.lookup k = some v ∧ (k, v) ∈ l
  | [], _, h => absurd h (by simp)
  | p :: l, k, h => by
    by_cases e : k = p.1
    · subst e
      exact ⟨p.2, by simp [List.lookup], List.mem_cons_self ..⟩
    · rw [List.map_cons, List.mem_cons] at h
      obtain ⟨v, h1, h2⟩ := look_mem (h.resolve_left e)
      refine ⟨v, ?_, List.mem_cons_of_mem _ h2⟩
      have b : (k == p.1) = false := beq_eq_false_iff_ne.mpr e
      show List.lookup k ((p.1, p.2) :: l) = some v
      rw [List.lookup, b]
      exact h1
/-- both ends of each of n locks -/
def bothE (n : Nat) : List Tip := (List.range n).flatMap fun (g : Nat) => [((g : Int), (0 : Int)), ((g : Int), (1 : Int))]
theorem mem_both {n : Nat} {e : Tip} : e ∈ bothE n ↔ ∃ g : Nat, g < n ∧ (e = ((g : Int), 0) ∨ e = ((g : Int), 1)) := by
  unfold bothE
  simp [List.mem_flatMap, List.mem_range]
theorem both_succ (n : Nat) : bothE (n + 1) = bothE n ++ [((n : Int), 0), ((n : Int), 1)] := by
  unfold bothE
  rw [List.range_succ, List.flatMap_append]
  rfl
theorem both_len : ∀ n, (bothE n).length = 2 * n
  | 0 => rfl
  | n + 1 => by rw [both_succ, List.length_append, both_len n]; show 2 * n + 2 = 2 * (n + 1); omega
theorem both_nodup : ∀ n, (bothE n).Nodup
  | 0 => List.nodup_nil
  | n + 1 => by
    rw [both_succ]
    refine List.nodup_append.mpr ⟨both_nodup n, by simp, fun a ha b hb => ?_⟩
    obtain ⟨g, hg, e⟩ := mem_both.mp ha
    rcases e with rfl | rfl <;> simp at hb <;> rcases hb with rfl | rfl <;> simp <;> omega
/-- a map of n locks, its basins hanging together or not -/
def WfC (n : Nat) (c : Cht) : Prop := c.flatten.Perm (bothE n)
theorem WfC.nd {n : Nat} {c : Cht} (h : WfC n c) : c.flatten.Nodup := h.nodup_iff.mpr (both_nodup n)
theorem WfC.len {n : Nat} {c : Cht} (h : WfC n c) : c.flatten.length = 2 * n := by rw [h.length_eq, both_len]
theorem WfC.mem {n : Nat} {c : Cht} (h : WfC n c) {e : Tip} : e ∈ c.flatten ↔ ∃ g : Nat, g < n ∧ (e = ((g : Int), 0) ∨ e = ((g : Int), 1)) := by rw [h.mem_iff, mem_both]
theorem WfC.oth {n : Nat} {c : Cht} (h : WfC n c) {e : Tip} (m : e ∈ c.flatten) : XL.oth e ∈ c.flatten := by
  obtain ⟨g, hg, rfl | rfl⟩ := h.mem.mp m
  · exact h.mem.mpr ⟨g, hg, .inr rfl⟩
  · exact h.mem.mpr ⟨g, hg, .inl rfl⟩
theorem WfC.step {n : Nat} {c : Cht} (h : WfC n c) {e : Tip} (m : e ∈ c.flatten) : (XL.oth e, stp c e) ∈ nxL c := by
  obtain ⟨v, h1, h2⟩ := look_mem (l := nxL c) (k := XL.oth e) (by rw [nxL_keys]; exact h.oth m)
  unfold stp
  rw [h1]
  exact h2
theorem WfC.stp {n : Nat} {c : Cht} (h : WfC n c) {e : Tip} (m : e ∈ c.flatten) : XL.stp c e ∈ c.flatten := nxL_val (h.step m)
theorem WfC.back {n : Nat} {c : Cht} (h : WfC n c) {e : Tip} (m : e ∈ c.flatten) : (e, XL.stp c e) ∈ bhL c := by
  have := List.mem_map_of_mem (f := fun p : Tip × Tip => (XL.oth p.1, p.2)) (h.step m)
  rw [oth_oth] at this
  exact this
theorem WfC.bnd {n : Nat} {c : Cht} (h : WfC n c) : ((bhL c).map (·.1)).Nodup := by
  rw [bhL_keys]
  exact List.pairwise_map.mpr (h.nd.imp fun ne e => ne (oth_inj e))
theorem WfC.xnd {n : Nat} {c : Cht} (h : WfC n c) : ((nxL c).map (·.1)).Nodup := by
  rw [nxL_keys]
  exact h.nd
/-! ### rounds: on from an end till one is met that was met -/
inductive Rnd (f : Tip → Tip) : List Tip → Tip → List Tip → Prop
  | stop {met : List Tip} {e : Tip} : e ∈ met → Rnd f met e []
  | on {met : List Tip} {e : Tip} {r : List Tip} : e ∉ met → Rnd f (met ++ [e]) (f e) r → Rnd f met e (e :: r)
theorem Rnd.one {f : Tip → Tip} : ∀ {r met : List Tip} {e : Tip} {q : List Tip}, Rnd f met e r → Rnd f met e q → r = q := by
  intro r met e q h
  induction h generalizing q with
  | stop m => intro g; cases g with
    | stop => rfl
    | on n _ => exact absurd m n
  | on n _ ih => intro g; cases g with
    | stop m => exact absurd m n
    | on _ g => rw [ih g]
theorem Rnd.ex {f : Tip → Tip} {T : List Tip} (cl : ∀ e ∈ T, f e ∈ T) : ∀ (k : Nat) {met : List Tip} {e : Tip}, met.Nodup → (∀ x ∈ met, x ∈ T) → e ∈ T → T.length - met.length ≤ k → ∃ r, Rnd f met e r
  | k, met, e, nd, sub, he, hk => by
    by_cases m : e ∈ met
    · exact ⟨[], .stop m⟩
    have nd' : (met ++ [e]).Nodup := by
      refine List.nodup_append.mpr ⟨nd, by simp, fun a ha b hb => ?_⟩
      rw [List.mem_singleton] at hb
      exact fun z => m (hb ▸ z ▸ ha)
    have sub' : ∀ x ∈ met ++ [e], x ∈ T := fun x hx => by
      rcases List.mem_append.mp hx with h | h
      · exact sub x h
      · rw [List.mem_singleton.mp h]; exact he
    have le : (met ++ [e]).length ≤ T.length := nd_sub _ _ nd' sub'
    rw [List.length_append, List.length_singleton] at le
    match k with
    | 0 => omega
    | k + 1 =>
      obtain ⟨r, hr⟩ := Rnd.ex cl k nd' sub' (cl e he) (by rw [List.length_append, List.length_singleton]; omega)
      exact ⟨e :: r, .on m hr⟩
theorem Rnd.nd {f : Tip → Tip} {met : List Tip} {e : Tip} {r : List Tip} (h : Rnd f met e r) : met.Nodup → (met ++ r).Nodup := by
  induction h with
  | stop _ => intro h; rw [List.append_nil]; exact h
  | @on met e r m _ ih => intro h; have := ih (List.nodup_append.mpr ⟨h, by simp, fun a ha b hb => by
      rw [List.mem_singleton] at hb
      exact fun z => m (hb ▸ z ▸ ha)⟩); rwa [List.append_assoc] at this
theorem Rnd.sub {f : Tip → Tip} {T : List Tip} (cl : ∀ e ∈ T, f e ∈ T) {met : List Tip} {e : Tip} {r : List Tip} (h : Rnd f met e r) : e ∈ T → ∀ x ∈ r, x ∈ T := by
  induction h with
  | stop _ => intro _ x hx; exact absurd hx (by simp)
  | on _ _ ih => intro he x hx; rcases List.mem_cons.mp hx with rfl | hx
                 · exact he
                 · exact ih (cl _ he) x hx
/-- the faces, their first ends told -/
inductive Fcs (f : Tip → Tip) : List Tip → List Tip → List (List Tip) → Prop
  | nil {met : List Tip} : Fcs f [] met []
  | skip {met : List Tip} {e : Tip} {es : List Tip} {fs : List (List Tip)} : e ∈ met → Fcs f es met fs → Fcs f (e :: es) met fs
  | face {met : List Tip} {e : Tip} {es r : List Tip} {fs : List (List Tip)} : e ∉ met → Rnd f met e r → Fcs f es (met ++ r) fs → Fcs f (e :: es) met (r :: fs)
theorem Fcs.one {f : Tip → Tip} {es met : List Tip} {fs : List (List Tip)} (h : Fcs f es met fs) : ∀ {gs : List (List Tip)}, Fcs f es met gs → fs = gs := by
  induction h with
  | nil => intro gs g; cases g; rfl
  | skip m _ ih => intro gs g; cases g with
    | skip _ g => exact ih g
    | face n _ _ => exact absurd m n
  | face n r _ ih => intro gs g; cases g with
    | skip m _ => exact absurd m n
    | face _ r' g => have := r.one r'; subst this; rw [ih g]
theorem Rnd.ne {f : Tip → Tip} {met : List Tip} {e : Tip} {r : List Tip} (h : Rnd f met e r) (n : e ∉ met) : e ∈ r := by
  cases h with
  | stop m => exact absurd m n
  | on _ _ => exact List.mem_cons_self ..
theorem Fcs.ex {f : Tip → Tip} {T : List Tip} (cl : ∀ e ∈ T, f e ∈ T) : ∀ (es : List Tip) {met : List Tip}, met.Nodup → (∀ x ∈ met, x ∈ T) → (∀ x ∈ es, x ∈ T) → ∃ fs, Fcs f es met fs
  | [], _, _, _, _ => ⟨[], .nil⟩
  | e :: es, met, nd, sub, he => by
    by_cases m : e ∈ met
    · obtain ⟨fs, h⟩ := Fcs.ex cl es nd sub fun x hx => he x (List.mem_cons_of_mem _ hx)
      exact ⟨fs, .skip m h⟩
    · obtain ⟨r, hr⟩ := Rnd.ex cl _ nd sub (he e (List.mem_cons_self ..)) (Nat.le_refl _)
      obtain ⟨fs, h⟩ := Fcs.ex cl es (hr.nd nd) (fun x hx => (List.mem_append.mp hx).elim (sub x) (hr.sub cl (he e (List.mem_cons_self ..)) x)) fun x hx => he x (List.mem_cons_of_mem _ hx)
      exact ⟨r :: fs, .face m hr h⟩
/-- all ends stand in the faces, each once -/
theorem Fcs.all {f : Tip → Tip} {T : List Tip} (cl : ∀ e ∈ T, f e ∈ T) {es met : List Tip} {fs : List (List Tip)} (h : Fcs f es met fs) : met.Nodup → (∀ x ∈ met, x ∈ T) → (∀ x ∈ es, x ∈ T) →
    (met ++ fs.flatten).Nodup ∧ (∀ x ∈ fs.flatten, x ∈ T) ∧ (∀ e ∈ es, e ∈ met ++ fs.flatten) ∧ ∀ r ∈ fs, r ≠ [] := by
  induction h with
  | nil => intro nd _ _; exact ⟨by simpa using nd, by simp, by simp, by simp⟩
  | @skip met e es fs m _ ih =>
    intro nd sub he
    obtain ⟨a, b, c, d⟩ := ih nd sub fun x hx => he x (List.mem_cons_of_mem _ hx)
    refine ⟨a, b, fun x hx => ?_, d⟩
    rcases List.mem_cons.mp hx with rfl | hx
    · exact List.mem_append_left _ m
    · exact c x hx
  | @face met e es r fs n hr _ ih =>
    intro nd sub he
    have se := he e (List.mem_cons_self ..)
    obtain ⟨a, b, c, d⟩ := ih (hr.nd nd) (fun x hx => (List.mem_append.mp hx).elim (sub x) (hr.sub cl se x)) fun x hx => he x (List.mem_cons_of_mem _ hx)
    rw [List.flatten_cons, ← List.append_assoc]
    refine ⟨a, fun x hx => (List.mem_append.mp hx).elim (hr.sub cl se x) (b x), fun x hx => ?_, fun q hq => ?_⟩
    · rcases List.mem_cons.mp hx with rfl | hx
      · exact List.mem_append_left _ (List.mem_append_right _ (hr.ne n))
      · exact c x hx
    · rcases List.mem_cons.mp hq with rfl | hq
      · exact fun z => by have := hr.ne n; rw [z] at this; exact absurd this (by simp)
      · exact d q hq
/-- the faces of a map -/
def IsF (c : Cht) (fs : List (List Tip)) : Prop := ∃ gs, Fcs (stp c) c.flatten [] gs ∧ fs = if gs = [] then [[]] else gs
theorem IsF.one {c : Cht} {fs gs : List (List Tip)} (h : IsF c fs) (g : IsF c gs) : fs = gs := by
  obtain ⟨a, h1, rfl⟩ := h
  obtain ⟨b, g1, rfl⟩ := g
  rw [h1.one g1]
theorem WfC.fcs {n : Nat} {c : Cht} (h : WfC n c) : ∃ gs, Fcs (XL.stp c) c.flatten [] gs := Fcs.ex (T := c.flatten) (fun e he => h.stp he) _ List.nodup_nil (by simp) fun x hx => hx
theorem WfC.isF {n : Nat} {c : Cht} (h : WfC n c) {fs : List (List Tip)} (g : IsF c fs) : fs.flatten.Perm c.flatten ∧ fs ≠ [] ∧ (c.flatten = [] → fs = [[]]) ∧ (c.flatten ≠ [] → ∀ r ∈ fs, r ≠ []) := by
  obtain ⟨gs, hg, rfl⟩ := g
  obtain ⟨a, b, d, e⟩ := hg.all (T := c.flatten) (fun e he => h.stp he) List.nodup_nil (by simp) fun x hx => hx
  rw [List.nil_append] at a d
  have pm : gs.flatten.Perm c.flatten := (List.perm_ext_iff_of_nodup a h.nd).mpr fun x => ⟨b x, d x⟩
  by_cases z : gs = []
  · subst z
    have z2 : c.flatten = [] := by simpa using pm.symm
    exact ⟨by simpa [z2] using pm, by simp, fun _ => rfl, fun q => absurd z2 q⟩
  · rw [if_neg z]
    refine ⟨pm, z, fun q => ?_, fun _ => e⟩
    rw [q] at pm
    have := pm.eq_nil
    match gs, z, e, this with
    | r :: gs, _, e, this =>
      rw [List.flatten_cons, List.append_eq_nil_iff] at this
      exact absurd this.1 (e r (List.mem_cons_self ..))
end XL
namespace XL
open PySem PySem.Spec PyProof.Rows L2
/-! ### ends put in -/
def ins {α : Type} (i : Nat) (y : α) (xs : List α) : List α := xs.take i ++ [y] ++ xs.drop i
theorem ins_perm {α : Type} (i : Nat) (y : α) (xs : List α) : (ins i y xs).Perm (y :: xs) := by
  unfold ins
  refine (List.perm_append_comm.append_right _).trans ?_
  rw [List.append_assoc, List.take_append_drop]
  exact List.Perm.refl _
theorem ins_len {α : Type} (i : Nat) (y : α) (xs : List α) : (ins i y xs).length = xs.length + 1 := by rw [(ins_perm i y xs).length_eq]; rfl
theorem ins_map {α β : Type} (f : α → β) (i : Nat) (y : α) (xs : List α) : (ins i y xs).map f = ins i (f y) (xs.map f) := by
  unfold ins
  rw [List.map_append, List.map_append, List.map_take, List.map_drop]
  rfl
theorem set_flat : ∀ {c : Cht} {i : Nat} {a b : List Tip} {e : Tip}, c[i]? = some a → b.Perm (e :: a) → (c.set i b).flatten.Perm (e :: c.flatten)
  | [], _, _, _, _, h, _ => by simp at h
  | x :: c, 0, a, b, e, h, p => by
    have h : x = a := by simpa using h
    subst h
    rw [List.set_cons_zero, List.flatten_cons, List.flatten_cons]
    exact p.append_right _
  | x :: c, i + 1, a, b, e, h, p => by
    rw [List.set_cons_succ, List.flatten_cons, List.flatten_cons]
    exact ((set_flat (c := c) (by simpa using h) p).append_left x).trans List.perm_middle
theorem snoc_flat (c : Cht) (a : List Tip) : (c ++ [a]).flatten = c.flatten ++ a := by rw [List.flatten_append]; simp
theorem WfC.more {n : Nat} {c c' : Cht} (h : WfC n c) {s : Int} (hs : s = 0 ∨ s = 1) (p : c'.flatten.Perm (((n : Int), s) :: ((n : Int), 1 - s) :: c.flatten)) : WfC (n + 1) c' := by
  unfold WfC
  rw [both_succ]
  refine p.trans (List.Perm.trans ?_ (List.perm_append_comm (l₁ := [((n : Int), 0), ((n : Int), 1)])))
  rcases hs with rfl | rfl
  · exact ((h.cons _).cons _)
  · exact (List.Perm.swap _ _ _).trans ((h.cons _).cons _)
/-! ### where an end stands -/
/-- each end with its row's number -/
def bbE (c : Cht) : List (Tip × Nat) := c.zipIdx.flatMap fun p => p.1.map fun e => (e, p.2)
theorem bb_snoc (c : Cht) (a : List Tip) : bbE (c ++ [a]) = bbE c ++ a.map fun e => (e, c.length) := by
  unfold bbE
  rw [List.zipIdx_append, List.flatMap_append]
  simp
theorem bb_keys (c : Cht) : (bbE c).map (·.1) = c.flatten := by
  unfold bbE
  rw [List.map_flatMap]
  have : ∀ (c : Cht) (k : Nat), (c.zipIdx k).flatMap (fun p => (p.1.map fun e => ((e, p.2) : Tip × Nat)).map (·.1)) = c.flatten := by
    intro c
    induction c with
    | nil => intro k; rfl
    | cons a c ih =>
      intro k
      rw [List.zipIdx_cons, List.flatMap_cons, ih, List.flatten_cons, List.map_map]
      congr 1
      exact List.map_id _
  exact this c 0
theorem bb_mem {c : Cht} {e : Tip} {i : Nat} : (e, i) ∈ bbE c ↔ ∃ a, c[i]? = some a ∧ e ∈ a := by
  unfold bbE
  rw [List.mem_flatMap]
  constructor
  · rintro ⟨⟨a, j⟩, hp, he⟩
    obtain ⟨x, hx, q⟩ := List.mem_map.mp he
    cases q
    exact ⟨a, List.mem_zipIdx_iff_getElem?.mp hp, hx⟩
  · rintro ⟨a, ha, he⟩
    exact ⟨(a, i), List.mem_zipIdx_iff_getElem?.mpr ha, List.mem_map.mpr ⟨e, he, rfl⟩⟩
def whr (c : Cht) (e : Tip) : Nat := ((bbE c).lookup e).getD 0
theorem whr_mem {c : Cht} {e : Tip} (h : e ∈ c.flatten) : (e, whr c e) ∈ bbE c := by
  obtain ⟨v, h1, h2⟩ := look_mem (l := bbE c) (k := e) (by rw [bb_keys]; exact h)
  unfold whr
  rw [h1]
  exact h2
theorem whr_lt {c : Cht} {e : Tip} (h : e ∈ c.flatten) : whr c e < c.length := by
  obtain ⟨a, ha, _⟩ := bb_mem.mp (whr_mem h)
  exact (List.getElem?_eq_some_iff.mp ha).1
/-- the canal of a map with these faces -/
def gtC (c fs : Cht) (g : Nat) : Lk := ((whr c ((g : Int), 0) : Nat), (whr c ((g : Int), 1) : Nat), (whr fs ((g : Int), 1) : Nat), (whr fs ((g : Int), 0) : Nat))
def canC (n : Nat) (c fs : Cht) : Cn := ⟨c.length, fs.length, (List.range n).map (gtC c fs)⟩
/-! ### told anew -/
def xr (s t : Int) : Int := if s = t then 0 else 1
theorem xr_eq {s t : Int} (hs : s = 0 ∨ s = 1) (ht : t = 0 ∨ t = 1) : Builtin.bitXor s t = xr s t := by
  rcases hs with rfl | rfl <;> rcases ht with rfl | rfl <;> decide +kernel
theorem xr_01 (s t : Int) : xr s t = 0 ∨ xr s t = 1 := by unfold xr; split <;> simp
theorem xr_xr {s t : Int} (hs : s = 0 ∨ s = 1) (ht : t = 0 ∨ t = 1) : xr (xr s t) t = s := by
  rcases hs with rfl | rfl <;> rcases ht with rfl | rfl <;> rfl
/-- an end by other numbers, and the other way about -/
def rnw (nu : List Nat) (tu : List Int) (e : Tip) : Tip := (((nu.getD e.1.toNat 0 : Nat) : Int), xr e.2 (tu.getD e.1.toNat 0))
structure Anew (n : Nat) (nu : List Nat) (tu : List Int) : Prop where
  p : nu.Perm (List.range n)
  l : tu.length = n
  b : ∀ t ∈ tu, t = 0 ∨ t = 1
theorem Anew.lt {n : Nat} {nu : List Nat} {tu : List Int} (h : Anew n nu tu) {g : Nat} (hg : g < n) : nu.getD g 0 < n := by
  have l : nu.length = n := by rw [h.p.length_eq, List.length_range]
  have m : nu[g]'(by omega) ∈ List.range n := h.p.mem_iff.mp (List.getElem_mem _)
  have := List.mem_range.mp m
  simpa [List.getD, show g < nu.length by omega] using this
theorem Anew.bit {n : Nat} {nu : List Nat} {tu : List Int} (h : Anew n nu tu) {g : Nat} (hg : g < n) : tu.getD g 0 = 0 ∨ tu.getD g 0 = 1 := by
  have : tu.getD g 0 = tu[g]'(by rw [h.l]; exact hg) := by simp [List.getD, show g < tu.length by rw [h.l]; exact hg]
  rw [this]
  exact h.b _ (List.getElem_mem _)
theorem Anew.inj {n : Nat} {nu : List Nat} {tu : List Int} (h : Anew n nu tu) {g g' : Nat} (hg : g < n) (hg' : g' < n) (e : nu.getD g 0 = nu.getD g' 0) : g = g' := by
  have l : nu.length = n := by rw [h.p.length_eq, List.length_range]
  have nd : nu.Nodup := h.p.nodup_iff.mpr List.nodup_range
  have e1 : nu.getD g 0 = nu[g]'(by omega) := by simp [List.getD, show g < nu.length by omega]
  have e2 : nu.getD g' 0 = nu[g']'(by omega) := by simp [List.getD, show g' < nu.length by omega]
  rw [e1, e2] at e
  exact (List.getElem_inj nd).mp e
theorem Anew.perm {n : Nat} {nu : List Nat} {tu : List Int} (h : Anew n nu tu) : ((bothE n).map (rnw nu tu)).Perm (bothE n) := by
  have side : ∀ {e : Tip}, e ∈ bothE n → ∃ g : Nat, g < n ∧ e.1 = (g : Int) ∧ (e.2 = 0 ∨ e.2 = 1) := fun he => by
    obtain ⟨g, hg, rfl | rfl⟩ := mem_both.mp he
    · exact ⟨g, hg, rfl, .inl rfl⟩
    · exact ⟨g, hg, rfl, .inr rfl⟩
  have inj : ∀ a ∈ bothE n, ∀ b ∈ bothE n, rnw nu tu a = rnw nu tu b → a = b := fun a ha b hb e => by
    obtain ⟨g, hg, ea, sa⟩ := side ha
    obtain ⟨g', hg', eb, sb⟩ := side hb
    unfold rnw at e
    rw [ea, eb, Int.toNat_natCast, Int.toNat_natCast] at e
    have e1 : ((nu.getD g 0 : Nat) : Int) = (nu.getD g' 0 : Nat) := congrArg Prod.fst e
    have e2 : xr a.2 (tu.getD g 0) = xr b.2 (tu.getD g' 0) := congrArg Prod.snd e
    have gg := h.inj hg hg' (by omega)
    subst gg
    have : xr (xr a.2 (tu.getD g 0)) (tu.getD g 0) = xr (xr b.2 (tu.getD g 0)) (tu.getD g 0) := by rw [e2]
    rw [xr_xr sa (h.bit hg), xr_xr sb (h.bit hg)] at this
    exact Prod.ext (by rw [ea, eb]) this
  have nd : ((bothE n).map (rnw nu tu)).Nodup := by
    refine List.pairwise_map.mpr ((List.Pairwise.imp_of_mem (fun {a b} ha hb ne e => ne (inj a ha b hb e)) (both_nodup n)))
  have sub : ∀ x ∈ (bothE n).map (rnw nu tu), x ∈ bothE n := fun x hx => by
    obtain ⟨e, he, rfl⟩ := List.mem_map.mp hx
    obtain ⟨g, hg, ee, se⟩ := side he
    refine mem_both.mpr ⟨nu.getD g 0, h.lt hg, ?_⟩
    unfold rnw
    rw [ee, Int.toNat_natCast]
    rcases xr_01 e.2 (tu.getD g 0) with q | q
    · exact .inl (by rw [q])
    · exact .inr (by rw [q])
  refine (List.perm_ext_iff_of_nodup nd (both_nodup n)).mpr fun x => ⟨sub x, fun hx => ?_⟩
  obtain ⟨g, hg, ex, sx⟩ := side hx
  have l : nu.length = n := by rw [h.p.length_eq, List.length_range]
  obtain ⟨j, hj, e⟩ := List.getElem_of_mem (h.p.mem_iff.mpr (List.mem_range.mpr hg))
  have hjn : j < n := by omega
  refine List.mem_map.mpr ⟨((j : Int), xr x.2 (tu.getD j 0)), mem_both.mpr ⟨j, hjn, ?_⟩, ?_⟩
  · rcases xr_01 x.2 (tu.getD j 0) with q | q
    · exact .inl (by rw [q])
    · exact .inr (by rw [q])
  · unfold rnw
    refine Prod.ext ?_ ?_
    · dsimp only
      rw [Int.toNat_natCast, ex]
      have : nu.getD j 0 = nu[j] := by simp [List.getD, hj]
      rw [this, e]
    · dsimp only
      rw [Int.toNat_natCast, xr_xr sx (h.bit hjn)]
theorem Anew.wf {n : Nat} {nu : List Nat} {tu : List Int} (h : Anew n nu tu) {c c' : Cht} (w : WfC n c) (p : c'.flatten.Perm (c.flatten.map (rnw nu tu))) : WfC n c' :=
  p.trans ((w.map _).trans h.perm)
theorem turn_perm {α : Type} (k : Nat) (l : List α) : (l.drop k ++ l.take k).Perm l := by
  refine List.perm_append_comm.trans ?_
  rw [List.take_append_drop]
end XL
namespace XL
open PySem PySem.Spec PyProof.Rows L2
/-! ### enumerate of a list or a tuple, nothing of it changed meanwhile -/
def iEnum2 (K : PySem.W.Frag) (ta : TA) : TI := fun σ H R => ta σ H fun vs H1 => ∃ a xs, vs = [.ref a] ∧ Sq2 K H1 a xs ∧
  ∀ J, Walk J xs.length (fun H => Same H1 H) (YPair (fun i => some (.int (i : Nat))) (fun i => xs[i]?)) → R J H1
theorem pi_enum2 {X : Cx} {e : Expr} {ta : TA} {p pos tpos : Pos} {elts : List Expr} {kk : Nat} (hg : Gl X "enumerate") (hm : X.mg "enumerate" = none) (ha : PA X [e] ta) (hs : starEach [e] X.env = [(false, eval e X.env)] := by rfl) :
    PI X (.Tuple elts kk tpos) (.Call (.Name "enumerate" p) [e] [] pos) (iEnum2 X.K ta) := by
  refine ⟨fun pins s σ H R I h => ?_⟩
  refine Call_ (ld_blt I hg hm boot_enumerate (PyProof.Rows.callWith_type1 (thn (ha.run pos pins s σ H _ I h) fun us s1 ⟨vs, H1, I1, r1, q1⟩ => ?_) hs rfl))
  obtain ⟨a, xs, ex, hq, q⟩ := q1
  subst ex
  cases r1 with
  | cons r rr =>
    cases rr
    cases r
    have fresh2 : ∀ b, b ∈ [s1.heap.objs.size + 1, s1.heap.objs.size] → FpOk X pins H1 b := fun b hb => by
      have e' : b = s1.heap.objs.size + 1 ∨ b = s1.heap.objs.size := by simpa using hb
      have hle : s1.heap.objs.size ≤ b := by
        rcases e' with z | z
        · rw [z]; exact Nat.le_add_right _ _
        · rw [z]; exact Nat.le_refl _
      exact I1.fpOk hle (I1.hok.fresh hle)
    rcases hq with hq | hq
    · obtain ⟨its, rv, p', hz⟩ := I1.list hq
      refine call_enumerate_list p'.isList fun h' he hit hsz hk => wpAny_pyIter_enum he ?_
      have I2 : Inv X pins σ H1 { s1 with heap := h' } := I1.kept (t' := s1.toks) hk
      exact ⟨s1.heap.objs.size + 1, [s1.heap.objs.size + 1, s1.heap.objs.size], _, _, H1, rfl, I2, turn_enum a (s1.heap.objs.size + 1) s1.heap.objs.size, ⟨⟨.none, he⟩, hit, Nat.succ_ne_self _⟩, fresh2, q _ (walk_enum.mono (fun H s => s.seq hq) fun _ _ _ _ _ _ y => y)⟩
    · obtain ⟨its, rv, p', hz⟩ := I1.tuple hq
      refine PySem.XEn.begins1 (begins_tuple a its.toArray) (show s1.heap.IsTuple a its.toArray from p') fun h' he hit hsz hk => wpAny_pyIter_enum he ?_
      have I2 : Inv X pins σ H1 { s1 with heap := h' } := I1.kept (t' := s1.toks) hk
      exact ⟨s1.heap.objs.size + 1, [s1.heap.objs.size + 1, s1.heap.objs.size], _, _, H1, rfl, I2, turn_enumT a (s1.heap.objs.size + 1) s1.heap.objs.size, ⟨⟨.none, he⟩, ⟨_, hit, rfl, rfl⟩, Nat.succ_ne_self _⟩, fresh2, q _ (walk_enumT.mono (fun H s => Same.tup s hq) fun _ _ _ _ _ _ y => y)⟩
end XL
namespace XL
open PySem PySem.Spec PyProof.Rows L2
/-! ### a row of statements parted: what holds behind the first few, and what follows from it -/
section
variable {A1 A2 A3 A4 A5 A6 R : TS} {D : Ends} {σ : L2.St} {H : Hp}
theorem seq1 (Mid : L2.St → Hp → Prop) (h1 : ∀ N : L2.St → Hp → Prop, (∀ σ G, Mid σ G → N σ G) → A1 { D with nx := N } σ H) (h2 : ∀ σ G, Mid σ G → R D σ G) : tSeq A1 R D σ H := h1 (R D) h2
theorem seq2 (Mid : L2.St → Hp → Prop) (h1 : ∀ N : L2.St → Hp → Prop, (∀ σ G, Mid σ G → N σ G) → tSeq A1 A2 { D with nx := N } σ H) (h2 : ∀ σ G, Mid σ G → R D σ G) : tSeq A1 (tSeq A2 R) D σ H := h1 (R D) h2
theorem seq3 (Mid : L2.St → Hp → Prop) (h1 : ∀ N : L2.St → Hp → Prop, (∀ σ G, Mid σ G → N σ G) → tSeq A1 (tSeq A2 A3) { D with nx := N } σ H) (h2 : ∀ σ G, Mid σ G → R D σ G) : tSeq A1 (tSeq A2 (tSeq A3 R)) D σ H := h1 (R D) h2
theorem seq4 (Mid : L2.St → Hp → Prop) (h1 : ∀ N : L2.St → Hp → Prop, (∀ σ G, Mid σ G → N σ G) → tSeq A1 (tSeq A2 (tSeq A3 A4)) { D with nx := N } σ H) (h2 : ∀ σ G, Mid σ G → R D σ G) : tSeq A1 (tSeq A2 (tSeq A3 (tSeq A4 R))) D σ H := h1 (R D) h2
theorem seq5 (Mid : L2.St → Hp → Prop) (h1 : ∀ N : L2.St → Hp → Prop, (∀ σ G, Mid σ G → N σ G) → tSeq A1 (tSeq A2 (tSeq A3 (tSeq A4 A5))) { D with nx := N } σ H) (h2 : ∀ σ G, Mid σ G → R D σ G) : tSeq A1 (tSeq A2 (tSeq A3 (tSeq A4 (tSeq A5 R)))) D σ H := h1 (R D) h2
theorem seq6 (Mid : L2.St → Hp → Prop) (h1 : ∀ N : L2.St → Hp → Prop, (∀ σ G, Mid σ G → N σ G) → tSeq A1 (tSeq A2 (tSeq A3 (tSeq A4 (tSeq A5 A6)))) { D with nx := N } σ H) (h2 : ∀ σ G, Mid σ G → R D σ G) : tSeq A1 (tSeq A2 (tSeq A3 (tSeq A4 (tSeq A5 (tSeq A6 R))))) D σ H := h1 (R D) h2
end
end XL
namespace XL
open PySem PySem.Spec PyProof.Rows L2
/-! ### ends and maps as data -/
def enD (e : Tip) : PyData := .tuple [.int e.1, .int e.2]
def kyE (e : Tip) : NestedKey := .tup [.num e.1, .num e.2]
theorem kyE_data (e : Tip) : (kyE e).data = enD e := by simp [kyE, enD, NestedKey.data, NestedKey.datas]
theorem kyE_depth (e : Tip) : (kyE e).depth ≤ 8 := by
  have : (kyE e).depth = 1 := by simp [kyE, NestedKey.depth, NestedKey.depthAll]
  omega
theorem kyE_inj {a b : Tip} (h : kyE a = kyE b) : a = b := by
  unfold kyE at h
  injection h with h
  injection h with h1 h2
  injection h1 with h1
  injection h2 with h2 _
  injection h2 with h2
  exact Prod.ext h1 h2
theorem noL_en (e : Tip) : noL (enD e) = true := by simp [enD, noL, noLs]
theorem en_at {K : PySem.W.Frag} {H : Hp} {b : Addr} {e : Tip} (h : Dp K H (.ref b) (enD e)) : KyAt K H (kyE e) b := ⟨by rw [kyE_data]; exact h, kyE_depth e⟩
theorem en_ref {K : PySem.W.Frag} {H : Hp} {v : V} {e : Tip} (h : Dp K H v (enD e)) : ∃ a : Addr, v = .ref a ∧ SqT K H a [.int e.1, .int e.2] := by
  cases h with
  | tup hs ha =>
    cases ha with
    | cons h1 h2 =>
      cases h1
      cases h2 with
      | cons h3 h4 =>
        cases h3
        cases h4
        exact ⟨_, rfl, hs⟩
theorem en_new {K : PySem.W.Frag} {H : Hp} {t : Addr} {e : Tip} (h : H t = some (.tup [.int e.1, .int e.2])) : Dp K H (.ref t) (enD e) := .tup (.inl (.inl h)) (.cons (.int _) (.cons (.int _) .nil))
/-! ### a dict by ends -/
structure EnE {β : Type} (K : PySem.W.Frag) (H : Hp) (R : Hp → β → V → Prop) (es : List NE) (xs : List (Tip × β)) : Prop where
  l : es.length = xs.length
  d : ∀ (i : Nat) (e : NE), es[i]? = some e → ∃ x, xs[i]? = some x ∧ e.1 = kyE x.1 ∧ Dp K H (.ref e.2.1) (enD x.1) ∧ R H x.2 e.2.2
theorem at_mem : ∀ {es : List NE} {k : NestedKey} {v : V}, atN es k = some v → ∃ e ∈ es, e.1 = k ∧ e.2.2 = v
  | [], k, v, h => by cases h
  | e :: es, k, v, h => by
    unfold atN at h
    split at h
    · exact ⟨e, List.mem_cons_self .., by assumption, Option.some.inj h⟩
    · obtain ⟨x, hx, a⟩ := at_mem h
      exact ⟨x, List.mem_cons_of_mem _ hx, a⟩
theorem at_none : ∀ {es : List NE} {k : NestedKey}, atN es k = none ↔ ∀ e ∈ es, e.1 ≠ k
  | [], k => ⟨fun _ e he => (by cases he), fun _ => rfl⟩
  | e :: es, k => by
    unfold atN
    by_cases q : e.1 = k
    · rw [if_pos q]
      exact ⟨fun h => (by cases h), fun h => absurd q (h e (List.mem_cons_self ..))⟩
    · rw [if_neg q, at_none (es := es)]
      exact ⟨fun h x hx => by rcases List.mem_cons.mp hx with rfl | hx; exact q; exact h x hx, fun h x hx => h x (List.mem_cons_of_mem _ hx)⟩
section
variable {β : Type} {K : PySem.W.Frag} {H H' : Hp} {R : Hp → β → V → Prop} {es : List NE} {xs : List (Tip × β)}
theorem EnE.nil : EnE K H R [] [] := ⟨rfl, fun i e h => by simp at h⟩
theorem EnE.move (h : EnE K H R es xs) (t : Tp H H') (mono : ∀ b v, R H b v → R H' b v) : EnE K H' R es xs := ⟨h.l, fun i e he => by
  obtain ⟨x, a, b, c, d⟩ := h.d i e he
  exact ⟨x, a, b, Dp.tp t _ (noL_en _) c, mono _ _ d⟩⟩
theorem EnE.ky (h : EnE K H R es xs) : ∀ e ∈ es, KyAt K H e.1 e.2.1 := fun e he => by
  obtain ⟨i, hi⟩ := List.mem_iff_getElem?.mp he
  obtain ⟨x, _, b, c, _⟩ := h.d i e hi
  rw [b]; exact en_at c
theorem EnE.snoc (h : EnE K H R es xs) {b : Addr} {e : Tip} {y : β} {v : V} (hb : Dp K H (.ref b) (enD e)) (hv : R H y v) : EnE K H R (es ++ [(kyE e, b, v)]) (xs ++ [(e, y)]) := ⟨by rw [List.length_append, List.length_append, h.l]; rfl, fun i x he => by
  by_cases q : i < es.length
  · rw [List.getElem?_append_left q] at he
    obtain ⟨x, a, z⟩ := h.d i x he
    exact ⟨x, by rw [List.getElem?_append_left (by rw [← h.l]; exact q)]; exact a, z⟩
  · rw [List.getElem?_append_right (by omega)] at he
    have i0 : i - es.length = 0 := by
      have := (List.getElem?_eq_some_iff.mp he).1
      simp at this; omega
    rw [i0] at he
    obtain rfl := Option.some.inj he
    exact ⟨(e, y), by rw [List.getElem?_append_right (by rw [← h.l]; omega), ← h.l, i0]; rfl, rfl, hb, hv⟩⟩
theorem EnE.get (h : EnE K H R es xs) (nd : (xs.map (·.1)).Nodup) {e : Tip} {y : β} (hm : (e, y) ∈ xs) : ∃ v, atN es (kyE e) = some v ∧ R H y v := by
  obtain ⟨j, hj⟩ := List.mem_iff_getElem?.mp hm
  have jl := (List.getElem?_eq_some_iff.mp hj).1
  cases q : atN es (kyE e) with
  | none =>
    have he : es[j]? = some (es[j]'(by rw [h.l]; exact jl)) := List.getElem?_eq_getElem _
    obtain ⟨x, a, b, _⟩ := h.d j _ he
    rw [hj] at a
    obtain rfl := Option.some.inj a
    exact absurd b (at_none.mp q _ (List.mem_iff_getElem?.mpr ⟨j, he⟩))
  | some v =>
    obtain ⟨z, hz, z1, z2⟩ := at_mem q
    obtain ⟨i, hi⟩ := List.mem_iff_getElem?.mp hz
    obtain ⟨x, a, b, _, d⟩ := h.d i z hi
    have x1 : x.1 = e := kyE_inj (b.symm.trans z1)
    have g1 : (xs.map (·.1))[i]? = some e := by rw [List.getElem?_map, a]; exact congrArg some x1
    have g2 : (xs.map (·.1))[j]? = some e := by rw [List.getElem?_map, hj]; rfl
    have ij : i = j := (List.getElem?_inj (by rw [List.length_map]; exact (List.getElem?_eq_some_iff.mp a).1) nd).mp (g1.trans g2.symm)
    subst ij
    rw [hj] at a
    obtain rfl := Option.some.inj a
    exact ⟨v, rfl, by rw [← z2]; exact d⟩
theorem EnE.none (h : EnE K H R es xs) {e : Tip} (no : e ∉ xs.map (·.1)) : atN es (kyE e) = none := at_none.mpr fun z hz q => by
  obtain ⟨i, hi⟩ := List.mem_iff_getElem?.mp hz
  obtain ⟨x, a, b, _⟩ := h.d i z hi
  exact no (List.mem_map.mpr ⟨x, List.mem_iff_getElem?.mpr ⟨i, a⟩, kyE_inj (b.symm.trans q)⟩)
end
theorem tp_at {H : Hp} {D : Addr} {q o : HO} (h : H D = some q) (nt : ∀ xs, q ≠ .tup xs) (nf : ∀ a xs, q ≠ .frz a (.tup xs)) : Tp H (upd H D o) :=
  ⟨fun a xs e => by rw [upd_ne (fun z => by rw [z, h] at e; exact nt _ (Option.some.inj e))]; exact e, fun a o xs e => by rw [upd_ne (fun z => by rw [z, h] at e; exact nf _ _ (Option.some.inj e))]; exact e⟩
theorem tp_dno {P : Program} {w : World} {H : Hp} {D : Addr} {es : List NE} {o : HO} (h : H D = some (DNo P w D es)) : Tp H (upd H D o) := tp_at h (fun _ z => HO.noConfusion z) fun _ _ z => HO.noConfusion z
/-- the values: numbers, ends, nothing but that they are there -/
def RN : Hp → Nat → V → Prop := fun _ n v => v = .int (n : Nat)
def RE (K : PySem.W.Frag) : Hp → Tip → V → Prop := fun H e v => Dp K H v (enD e)
def RB : Hp → Unit → V → Prop := fun _ _ v => v = .bl true
theorem RE.mono {K : PySem.W.Frag} {H H' : Hp} (t : Tp H H') : ∀ b v, RE K H b v → RE K H' b v := fun b v h => Dp.tp t _ (noL_en b) h
/-! ### {} by tuples -/
def tNDNew (P : Program) (w : World) : TE := fun _ H Q => ∀ p, H p = none → Q (.ref p) (upd H p (DNo P w p []))
theorem pe_ndnew {X : Cx} {pos : Pos} : PE X (.Dict [] [] pos) (tNDNew X.prog X.w) := ⟨fun pins s σ H Q I h =>
  wpAny_Dict_empty ⟨.ref s.heap.objs.size, _, I.laid (a := s.heap.objs.size) (o := DNo X.prog X.w s.heap.objs.size []) (t' := s.toks) (fun _ _ q => Heap.get?_push_of_some _ q) (Nat.le_refl _) (dn_ok (dn_bare s.heap I.big)), rfl, h _ (I.hok.fresh (Nat.le_refl _))⟩⟩
/-! ### maps read: rows of ends, lists or tuples -/
structure RwA (K : PySem.W.Frag) (H : Hp) (v : V) (a : List Tip) : Prop where
  ex : ∃ t xs, v = .ref t ∧ Sq2 K H t xs ∧ DpAll K H xs (a.map enD)
structure ChA (K : PySem.W.Frag) (H : Hp) (v : V) (c : Cht) : Prop where
  ex : ∃ t vs, v = .ref t ∧ Sq2 K H t vs ∧ vs.length = c.length ∧ ∀ (i : Nat) (u : V), vs[i]? = some u → ∃ a, c[i]? = some a ∧ RwA K H u a
theorem sq2_same {K : PySem.W.Frag} {H H' : Hp} {a : Addr} {xs : List V} (s : Same H H') (h : Sq2 K H a xs) : Sq2 K H' a xs := h.elim (fun q => .inl (s.seq q)) fun q => .inr (Same.tup s q)
theorem RwA.same {K : PySem.W.Frag} {H H' : Hp} {v : V} {a : List Tip} (h : RwA K H v a) (s : Same H H') : RwA K H' v a := by
  obtain ⟨t, xs, e, q, d⟩ := h.ex
  exact ⟨t, xs, e, sq2_same s q, DpAll.same s _ d⟩
theorem ChA.same {K : PySem.W.Frag} {H H' : Hp} {v : V} {c : Cht} (h : ChA K H v c) (s : Same H H') : ChA K H' v c := by
  obtain ⟨t, vs, e, q, l, d⟩ := h.ex
  exact ⟨t, vs, e, sq2_same s q, l, fun i u hu => let ⟨a, ha, r⟩ := d i u hu; ⟨a, ha, r.same s⟩⟩
def chT (c : Cht) : PyData := .tuple (c.map fun a => .tuple (a.map enD))
def chL (c : Cht) : PyData := .list (c.map fun a => .list (a.map enD))
def chM (c : Cht) : PyData := .list (c.map fun a => .list (a.map fun e => .list [.int e.1, .int e.2]))
theorem chA_t {K : PySem.W.Frag} {H : Hp} {v : V} {c : Cht} (h : Dp K H v (chT c)) : ChA K H v c := by
  cases h with
  | tup hs ha =>
    refine ⟨_, _, rfl, .inr hs, by rw [DpAll.length ha, List.length_map], fun i u hu => ?_⟩
    obtain ⟨d, hd, du⟩ := DpAll.get ha hu
    rw [List.getElem?_map] at hd
    obtain ⟨a, ea, rfl⟩ := Option.map_eq_some_iff.mp hd
    cases du with
    | tup h1 h2 => exact ⟨a, ea, _, _, rfl, .inr h1, h2⟩
theorem chA_l {K : PySem.W.Frag} {H : Hp} {v : V} {c : Cht} (h : Dp K H v (chL c)) : ChA K H v c := by
  cases h with
  | lst hs ha =>
    refine ⟨_, _, rfl, .inl hs, by rw [DpAll.length ha, List.length_map], fun i u hu => ?_⟩
    obtain ⟨d, hd, du⟩ := DpAll.get ha hu
    rw [List.getElem?_map] at hd
    obtain ⟨a, ea, rfl⟩ := Option.map_eq_some_iff.mp hd
    cases du with
    | lst h1 h2 => exact ⟨a, ea, _, _, rfl, .inl h1, h2⟩
end XL
namespace XL
open PySem PySem.Spec PyProof.Rows L2
/-! ### zip of three, each a list or a tuple -/
def SqB (K : PySem.W.Frag) (b : Bool) (H : Hp) (a : Addr) (xs : List V) : Prop := match b with | true => SqL K H a xs | false => SqT K H a xs
def ItB (b : Bool) (h : Heap) (it a : Addr) (i : Nat) : Prop := match b with | true => h.IsListIter it a i | false => h.IsTupleIter it a i
def SeqB (b : Bool) (h : Heap) (a : Addr) (its : Array Value) : Prop := match b with | true => h.IsList a its | false => h.IsTuple a its
theorem sqB_of {K : PySem.W.Frag} {H : Hp} {a : Addr} {xs : List V} (h : Sq2 K H a xs) : ∃ b, SqB K b H a xs := by
  rcases h with h | h
  · exact ⟨true, h⟩
  · exact ⟨false, h⟩
theorem Same.sqB {K : PySem.W.Frag} {b : Bool} {H H' : Hp} {a : Addr} {xs : List V} (s : Same H H') (h : SqB K b H a xs) : SqB K b H' a xs := by
  cases b with
  | true => exact s.seq h
  | false => exact Same.tup s h
theorem ItB.obj {b : Bool} {h : Heap} {it a : Addr} {i : Nat} (q : ItB b h it a i) : ∃ o, h.get? it = some o ∧ ∀ v, o.data ≠ .cell v := by
  cases b with
  | true => obtain ⟨o, e, _, d⟩ := q; exact ⟨o, e, fun v z => by rw [d] at z; cases z⟩
  | false => obtain ⟨o, e, _, d⟩ := q; exact ⟨o, e, fun v z => by rw [d] at z; cases z⟩
theorem ItB.at {b : Bool} {h h' : Heap} {it a : Addr} {i : Nat} (q : ItB b h it a i) (k : ∀ o, h.get? it = some o → h'.get? it = some o) : ItB b h' it a i := by
  cases b with
  | true => exact Heap.IsListIter.at q k
  | false => exact Heap.IsTupleIter.at q k
theorem drawsB {prog : Program} {w : World} {A : Around} (hA : A.handled = none) (b : Bool) (it a : Addr) (hne : a ≠ it) (its : Array Value) : Draws prog w A it [it, a] its.size (fun i v => its[i]? = some v) (fun i h => ItB b h it a i ∧ SeqB b h a its) := by
  cases b with
  | true => exact Draws.list hA it a hne its
  | false => exact Draws.tuple hA it a hne its
theorem seqB_of {X : Cx} {pins : List (Addr × Obj)} {σ : L2.St} {H : Hp} {s : Shared} {a : Addr} {xs : List V} {b : Bool} (I : Inv X pins σ H s) (h : SqB X.K b H a xs) : ∃ its, Vals xs its ∧ SeqB b s.heap a its.toArray ∧ a < s.heap.objs.size := by
  cases b with
  | true =>
    obtain ⟨its, rv, p, _⟩ := I.list h
    exact ⟨its, rv, p.isList, p.lt⟩
  | false =>
    obtain ⟨its, rv, p, _⟩ := I.tuple h
    obtain ⟨o, ho, _⟩ := id p
    exact ⟨its, rv, p, Heap.lt_size ho⟩
theorem sqB_inj {X : Cx} {pins : List (Addr × Obj)} {σ : L2.St} {H : Hp} {s : Shared} {a : Addr} {xs ys : List V} {b : Bool} (I : Inv X pins σ H s) (h : SqB X.K b H a xs) (h' : SqB X.K b H a ys) : xs = ys := by
  cases b with
  | true => exact I.list_inj h h'
  | false => exact I.tuple_inj h h'
theorem beginsB (b : Bool) (a : Addr) (its : Array Value) : ∃ o, Begins (.ref a) o (fun h => SeqB b h a its) ∧ ∀ (h : Heap) (it : Addr), h.get? it = some o → ItB b h it a 0 := by
  cases b with
  | true => exact ⟨_, begins_list a its, fun h it e => ⟨_, e, rfl, rfl⟩⟩
  | false => exact ⟨_, begins_tuple a its, fun h it e => ⟨_, e, rfl, rfl⟩⟩
def Itz3B (K : PySem.W.Frag) (x1 x2 x3 : Bool) (a b c : Addr) : It :=
  ⟨fun i H => ∃ (xs ys zs : List V) (x y z : V), SqB K x1 H a xs ∧ SqB K x2 H b ys ∧ SqB K x3 H c zs ∧ xs[i]? = some x ∧ ys[i]? = some y ∧ zs[i]? = some z,
    fun i H v H' => ∃ T x y z, v = .ref T ∧ H T = none ∧ H' = upd H T (.tup [x, y, z]) ∧ (∀ xs, SqB K x1 H a xs → xs[i]? = some x) ∧ (∀ ys, SqB K x2 H b ys → ys[i]? = some y) ∧ ∀ zs, SqB K x3 H c zs → zs[i]? = some z,
    fun i H => ∃ xs ys zs : List V, SqB K x1 H a xs ∧ SqB K x2 H b ys ∧ SqB K x3 H c zs ∧ i ≤ xs.length ∧ i ≤ ys.length ∧ i ≤ zs.length ∧ (i = xs.length ∨ i = ys.length ∨ i = zs.length)⟩
theorem turn_zip3B {P : Program} {w : World} {K : PySem.W.Frag} {elts : List Expr} {kk : Nat} {tpos : Pos} {x1 x2 x3 : Bool} {a b c z TI TO i1 i2 i3 : Addr} (S : ZipSep3 z TI TO i1 i2 i3 [i1, a] [i2, b] [i3, c]) (na : a ≠ i1) (nb : b ≠ i2) (nc : c ≠ i3) :
    Turn P w K (.Tuple elts kk tpos) (Itz3B K x1 x2 x3 a b c) [z, TI, TO, i1, i2, i3] z (fun i h => IsZip h z TI TO .none ∧ IsTupOf3 h TI (.ref i1) (.ref i2) (.ref i3) ∧ (∃ x y u, IsTupOf3 h TO x y u) ∧ ItB x1 h i1 a i ∧ ItB x2 h i2 b i ∧ ItB x3 h i3 c i) where
  mem := by simp
  obj := fun i h st c hc => by
    obtain ⟨hz, hTI, ⟨x, y, u, hTO⟩, h1, h2, h3⟩ := st
    have e' : c = z ∨ c = TI ∨ c = TO ∨ c = i1 ∨ c = i2 ∨ c = i3 := by simpa using hc
    rcases e' with q | q | q | q | q | q
    · rw [q]; exact ⟨_, hz, fun v q => nomatch q⟩
    · rw [q]; exact ⟨_, hTI, fun v q => nomatch q⟩
    · rw [q]; exact ⟨_, hTO, fun v q => nomatch q⟩
    · rw [q]; exact ItB.obj h1
    · rw [q]; exact ItB.obj h2
    · rw [q]; exact ItB.obj h3
  keep := fun i h h' st k => by
    obtain ⟨hz, hTI, ⟨x, y, u, hTO⟩, h1, h2, h3⟩ := st
    exact ⟨k z (by simp) _ hz, k TI (by simp) _ hTI, ⟨x, y, u, k TO (by simp) _ hTO⟩, ItB.at h1 fun o q => k i1 (by simp) o q, ItB.at h2 fun o q => k i2 (by simp) o q, ItB.at h3 fun o q => k i3 (by simp) o q⟩
  item := by
    intro X hP hw hK hc i pins s σ H E I hf st hg
    subst hP hw hK
    obtain ⟨hz, hTI, ⟨x0, y0, u0, hTO⟩, h1, h2, h3⟩ := st
    obtain ⟨xs, ys, zs, x, y, z', hqx, hqy, hqz, hx, hy, hzz⟩ := hg
    obtain ⟨its, rv, p, _⟩ := seqB_of I hqx
    obtain ⟨its2, rv2, p2, _⟩ := seqB_of I hqy
    obtain ⟨its3, rv3, p3, _⟩ := seqB_of I hqz
    obtain ⟨u, hu, ru⟩ := rv.get hx
    obtain ⟨u2, hu2, ru2⟩ := rv2.get hy
    obtain ⟨u3, hu3, ru3⟩ := rv3.get hzz
    have hzl : z < s.heap.objs.size := Heap.lt_size hz
    have lt : ∀ {l : List Value} {v : Value}, l[i]? = some v → i < l.toArray.size := fun {l v} e => by rw [List.size_toArray]; exact (List.getElem?_eq_some_iff.mp e).1
    refine wpAny_pyNext_zipD3_item S (drawsB (A := X.A.in1) (I.ok.hd hc) x1 i1 a na its.toArray) (drawsB (A := X.A.in1) (I.ok.hd hc) x2 i2 b nb its2.toArray) (drawsB (A := X.A.in1) (I.ok.hd hc) x3 i3 c nc its3.toArray) hz hTI hTO ⟨h1, p⟩ ⟨h2, p2⟩ ⟨h3, p3⟩ (lt hu) (lt hu2) (lt hu3) fun v1 v2 v3 h' tk y1 y2 y3 zh TO' d1 d2 d3 hT hsz hk => ?_
    have ev : ∀ {l : List Value} {v v' : Value}, l.toArray[i]? = some v' → l[i]? = some v → v' = v := fun {l v v'} e1 e2 => by
      rw [List.getElem?_toArray, e2] at e1; exact (Option.some.inj e1).symm
    obtain rfl := ev y1 hu
    obtain rfl := ev y2 hu2
    obtain rfl := ev y3 hu3
    refine ⟨_, rfl, wpAny_letOwnedTupleGo_zip (s := { s with heap := h', toks := tk }) zh fun h'' z'' sb => ?_⟩
    have hT2 : h''.get? s.heap.objs.size = some { cls := .type "tuple", data := .seq #[v1, v2, v3] } := (sb.2 _ (Nat.ne_of_gt hzl)).trans hT
    have new : ObjOk X.prog X.w (upd H s.heap.objs.size (.tup [x, y, z'])) h'' s.heap.objs.size (.tup [x, y, z']) :=
      ⟨by show 3 ≤ sizeLine; decide, [v1, v2, v3], .cons ru (.cons ru2 (.cons ru3 .nil)), ⟨_, hT2, rfl, _, rfl⟩⟩
    have I1 : Inv X pins σ (upd H s.heap.objs.size (.tup [x, y, z'])) { s with heap := h'', toks := tk } :=
      I.turnedNew (ch := [z, TI, TO, i1, i2, i3]) (fun c o hb q => (sb.2 c (fun q' => hb (by simp [q']))).trans (hk c o (fun q' => hb (by simp [q'])) (fun q' => hb (by simp [q'])) (fun q' => hb (by simp [q'])) (fun q' => hb (by simp [q'])) (fun q' => hb (by simp [q'])) q)) hf (Nat.le_refl _) new
    refine ⟨.ref s.heap.objs.size, _, I1, rfl, ⟨_, x, y, z', rfl, I.hok.fresh (Nat.le_refl _), rfl, fun l hl => by rw [sqB_inj I hl hqx]; exact hx, fun l hl => by rw [sqB_inj I hl hqy]; exact hy, fun l hl => by rw [sqB_inj I hl hqz]; exact hzz⟩, ⟨z'', ?_, ⟨v1, v2, v3, ?_⟩, ?_, ?_, ?_⟩, fun c hcm => ?_⟩
    · exact (sb.2 _ S.TIz).trans (hk _ _ S.TIz S.TITO S.TIi1 S.TIi2 S.TIi3 hTI)
    · exact (sb.2 _ S.TOz).trans TO'
    · exact ItB.at d1.1 fun o q => (sb.2 _ (Ne.symm S.zi1)).trans q
    · exact ItB.at d2.1 fun o q => (sb.2 _ (Ne.symm S.zi2)).trans q
    · exact ItB.at d3.1 fun o q => (sb.2 _ (Ne.symm S.zi3)).trans q
    · have hlt : c < s.heap.objs.size := by
        have e' : c = z ∨ c = TI ∨ c = TO ∨ c = i1 ∨ c = i2 ∨ c = i3 := by simpa using hcm
        rcases e' with q | q | q | q | q | q
        · rw [q]; exact hzl
        · rw [q]; exact Heap.lt_size hTI
        · rw [q]; exact Heap.lt_size hTO
        · rw [q]; obtain ⟨_, e1, _⟩ := ItB.obj h1; exact Heap.lt_size e1
        · rw [q]; obtain ⟨_, e2, _⟩ := ItB.obj h2; exact Heap.lt_size e2
        · rw [q]; obtain ⟨_, e3, _⟩ := ItB.obj h3; exact Heap.lt_size e3
      rw [upd_ne (Nat.ne_of_lt hlt)]
      exact (hf c hcm).1
  done := by
    intro X hP hw hK hc i pins s σ H E I hf st hg
    subst hP hw hK
    obtain ⟨hz, hTI, ⟨x0, y0, u0, hTO⟩, h1, h2, h3⟩ := st
    obtain ⟨xs, ys, zs, hqx, hqy, hqz, e1, e2, e3, hend⟩ := hg
    obtain ⟨its, rv, p, _⟩ := seqB_of I hqx
    obtain ⟨its2, rv2, p2, _⟩ := seqB_of I hqy
    obtain ⟨its3, rv3, p3, _⟩ := seqB_of I hqz
    have l1 := rv.length
    have l2 := rv2.length
    have l3 := rv3.length
    exact wpAny_pyNext_zipD3_end S (drawsB (A := X.A.in1) (I.ok.hd hc) x1 i1 a na its.toArray) (drawsB (A := X.A.in1) (I.ok.hd hc) x2 i2 b nb its2.toArray) (drawsB (A := X.A.in1) (I.ok.hd hc) x3 i3 c nc its3.toArray) hz hTI hTO ⟨h1, p⟩ ⟨h2, p2⟩ ⟨h3, p3⟩ (by rw [List.size_toArray]; omega) (by rw [List.size_toArray]; omega) (by rw [List.size_toArray]; omega) (by rw [List.size_toArray, List.size_toArray, List.size_toArray]; omega)
      fun h' tk hk => ⟨rfl, I.turnedL (t' := tk) (ch := [z, TI, TO, i1, i2, i3]) (fun c o hb q =>
      hk c o (fun q' => hb (by simp [q'])) (fun q' => hb (by simp [q'])) (fun q' => hb (by simp [q'])) (fun q' => hb (by simp [q'])) (fun q' => hb (by simp [q'])) q) hf⟩
  self := fun A i s Q E st h => wpAny_pyIter_zip st.1 h
theorem walk_zip3B {K : PySem.W.Frag} {x1 x2 x3 : Bool} {a b c : Addr} {xs ys zs : List V} {n : Nat} (hn : n = min (min xs.length ys.length) zs.length) : Walk (Itz3B K x1 x2 x3 a b c) n (fun H => SqB K x1 H a xs ∧ SqB K x2 H b ys ∧ SqB K x3 H c zs) (YTrip (fun i => xs[i]?) (fun i => ys[i]?) (fun i => zs[i]?)) := by
  subst hn
  refine ⟨fun i _ hi q => ?_, fun _ q => ⟨xs, ys, zs, q.1, q.2.1, q.2.2, by omega, by omega, by omega, by omega⟩, fun i H v H' _ q y => ?_⟩
  · have h1 : i < xs.length := by omega
    have h2 : i < ys.length := by omega
    have h3 : i < zs.length := by omega
    exact ⟨xs, ys, zs, xs[i], ys[i], zs[i], q.1, q.2.1, q.2.2, by simp [h1], by simp [h2], by simp [h3]⟩
  · obtain ⟨T, x, y, z, h1, h2, h3, h4, h5, h6⟩ := y
    exact ⟨T, x, y, z, h1, h2, h3, h4 xs q.1, h5 ys q.2.1, h6 zs q.2.2⟩
def iZ3B (K : PySem.W.Frag) (ta : TA) : TI := fun σ H R => ta σ H fun vs H1 => ∃ a b c x1 x2 x3 xs ys zs, vs = [.ref a, .ref b, .ref c] ∧ SqB K x1 H1 a xs ∧ SqB K x2 H1 b ys ∧ SqB K x3 H1 c zs ∧
  ∀ J, Walk J (min (min xs.length ys.length) zs.length) (fun H => Same H1 H) (YTrip (fun i => xs[i]?) (fun i => ys[i]?) (fun i => zs[i]?)) → R J H1
theorem pi_z3B {X : Cx} {e e2 e3 : Expr} {ta : TA} {p pos tpos : Pos} {elts : List Expr} {kk : Nat} (hg : Gl X "zip") (hm : X.mg "zip" = none) (ha : PA X [e, e2, e3] ta)
    (hs : starEach [e, e2, e3] X.env = (false, eval e X.env) :: starEach [e2, e3] X.env := by rfl) (hpl : (backTo pos (starEach [e2, e3] X.env)).any (·.1) = false := by rfl) :
    PI X (.Tuple elts kk tpos) (.Call (.Name "zip" p) [e, e2, e3] [] pos) (iZ3B X.K ta) := by
  refine ⟨fun pins s σ H R I h => ?_⟩
  refine Call_ (ld_blt I hg hm PyProof.Rows.boot_zip (PyProof.Rows.callWith_type1 (thn (ha.run pos pins s σ H _ I h) fun us s1 ⟨vs, H1, I1, r1, q1⟩ => ?_) hs hpl))
  obtain ⟨a, b, c, x1, x2, x3, xs, ys, zs, ex, hqx, hqy, hqz, q⟩ := q1
  subst ex
  cases r1 with
  | cons r rr =>
    cases rr with
    | cons r' rr =>
      cases rr with
      | cons r'' rr =>
        cases rr
        cases r
        cases r'
        cases r''
        obtain ⟨its, rv, p1, la⟩ := seqB_of I1 hqx
        obtain ⟨its2, rv2, p2, lb⟩ := seqB_of I1 hqy
        obtain ⟨its3, rv3, p3, lc⟩ := seqB_of I1 hqz
        obtain ⟨o1, B1, k1⟩ := beginsB x1 a its.toArray
        obtain ⟨o2, B2, k2⟩ := beginsB x2 b its2.toArray
        obtain ⟨o3, B3, k3⟩ := beginsB x3 c its3.toArray
        have S := zip_sep3 (N := s1.heap.objs.size) (fp1 := [a]) (fp2 := [b]) (fp3 := [c]) (fun x hx => by rw [List.mem_singleton.mp hx]; exact la) (fun x hx => by rw [List.mem_singleton.mp hx]; exact lb) (fun x hx => by rw [List.mem_singleton.mp hx]; exact lc)
        refine zip_begins3 B1 B2 B3 p1 p2 p3 fun h' hz hTI hTO h1 h2 h3 hsz hk => wpAny_pyIter_zip hz ?_
        have I2 : Inv X pins σ H1 { s1 with heap := h' } := I1.kept (t' := s1.toks) hk
        refine ⟨s1.heap.objs.size + 5, [s1.heap.objs.size + 5, s1.heap.objs.size + 3, s1.heap.objs.size + 4, s1.heap.objs.size, s1.heap.objs.size + 1, s1.heap.objs.size + 2], _, _, H1, rfl, I2, turn_zip3B S (Nat.ne_of_lt la) (Nat.ne_of_lt (Nat.lt_succ_of_lt lb)) (Nat.ne_of_lt (Nat.lt_succ_of_lt (Nat.lt_succ_of_lt lc))), ⟨hz, hTI, ⟨_, _, _, hTO⟩, k1 _ _ h1, k2 _ _ h2, k3 _ _ h3⟩, fun x hcm => ?_, q _ ((walk_zip3B rfl).mono (fun H s => ⟨Same.sqB s hqx, Same.sqB s hqy, Same.sqB s hqz⟩) fun _ _ _ _ _ _ y => y)⟩
        have e' : x = s1.heap.objs.size + 5 ∨ x = s1.heap.objs.size + 3 ∨ x = s1.heap.objs.size + 4 ∨ x = s1.heap.objs.size ∨ x = s1.heap.objs.size + 1 ∨ x = s1.heap.objs.size + 2 := by simpa using hcm
        have hle : s1.heap.objs.size ≤ x := by
          rcases e' with z | z | z | z | z | z
          · rw [z]; exact Nat.le_add_right _ _
          · rw [z]; exact Nat.le_add_right _ _
          · rw [z]; exact Nat.le_add_right _ _
          · rw [z]; exact Nat.le_refl _
          · rw [z]; exact Nat.le_add_right _ _
          · rw [z]; exact Nat.le_add_right _ _
        exact I1.fpOk hle (I1.hok.fresh hle)
end XL
namespace XL
open PySem PySem.Spec PyProof.Rows L2
/-! ### enumerate of a list or a tuple, nothing of it changed meanwhile -/
def iEnumA (K : PySem.W.Frag) (ta : TA) : TI := fun σ H R => ta σ H fun vs H1 => ∃ a xs bb, ∃ C : Hp → Prop, vs = [.ref a] ∧ SqB K bb H1 a xs ∧ (∀ H, C H → SqB K bb H a xs) ∧
  ∀ J, Walk J xs.length C (YPair (fun i => some (.int (i : Nat))) (fun i => xs[i]?)) → R J H1
theorem pi_enumA {X : Cx} {e : Expr} {ta : TA} {p pos tpos : Pos} {elts : List Expr} {kk : Nat} (hg : Gl X "enumerate") (hm : X.mg "enumerate" = none) (ha : PA X [e] ta) (hs : starEach [e] X.env = [(false, eval e X.env)] := by rfl) :
    PI X (.Tuple elts kk tpos) (.Call (.Name "enumerate" p) [e] [] pos) (iEnumA X.K ta) := by
  refine ⟨fun pins s σ H R I h => ?_⟩
  refine Call_ (ld_blt I hg hm boot_enumerate (PyProof.Rows.callWith_type1 (thn (ha.run pos pins s σ H _ I h) fun us s1 ⟨vs, H1, I1, r1, q1⟩ => ?_) hs rfl))
  obtain ⟨a, xs, bb, C, ex, qa, hC, q⟩ := q1
  subst ex
  cases r1 with
  | cons r rr =>
    cases rr
    cases r
    have fresh2 : ∀ b, b ∈ [s1.heap.objs.size + 1, s1.heap.objs.size] → FpOk X pins H1 b := fun b hb => by
      have e' : b = s1.heap.objs.size + 1 ∨ b = s1.heap.objs.size := by simpa using hb
      have hle : s1.heap.objs.size ≤ b := by
        rcases e' with z | z
        · rw [z]; exact Nat.le_add_right _ _
        · rw [z]; exact Nat.le_refl _
      exact I1.fpOk hle (I1.hok.fresh hle)
    cases bb with
    | true =>
      have hq : SqL X.K H1 a xs := qa
      obtain ⟨its, rv, p', hz⟩ := I1.list hq
      refine call_enumerate_list p'.isList fun h' he hit hsz hk => wpAny_pyIter_enum he ?_
      have I2 : Inv X pins σ H1 { s1 with heap := h' } := I1.kept (t' := s1.toks) hk
      exact ⟨s1.heap.objs.size + 1, [s1.heap.objs.size + 1, s1.heap.objs.size], _, _, H1, rfl, I2, turn_enum a (s1.heap.objs.size + 1) s1.heap.objs.size, ⟨⟨.none, he⟩, hit, Nat.succ_ne_self _⟩, fresh2, q _ (walk_enum.mono (fun H s => hC H s) fun _ _ _ _ _ _ y => y)⟩
    | false =>
      have hq : SqT X.K H1 a xs := qa
      obtain ⟨its, rv, p', hz⟩ := I1.tuple hq
      refine PySem.XEn.begins1 (begins_tuple a its.toArray) (show s1.heap.IsTuple a its.toArray from p') fun h' he hit hsz hk => wpAny_pyIter_enum he ?_
      have I2 : Inv X pins σ H1 { s1 with heap := h' } := I1.kept (t' := s1.toks) hk
      exact ⟨s1.heap.objs.size + 1, [s1.heap.objs.size + 1, s1.heap.objs.size], _, _, H1, rfl, I2, turn_enumT a (s1.heap.objs.size + 1) s1.heap.objs.size, ⟨⟨.none, he⟩, ⟨_, hit, rfl, rfl⟩, Nat.succ_ne_self _⟩, fresh2, q _ (walk_enumT.mono (fun H s => hC H s) fun _ _ _ _ _ _ y => y)⟩
end XL
namespace XL
open PySem PySem.Spec PyProof.Rows L2
/-! ### a list or a tuple is walked, it stays by a condition of one's own -/
def iSeqA (K : PySem.W.Frag) (tl : TE) : TI := fun σ H R => tl σ H fun x H1 => ∃ a xs bb, ∃ C : Hp → Prop, x = .ref a ∧ SqB K bb H1 a xs ∧ (∀ H, C H → SqB K bb H a xs) ∧ ∀ J, Walk J xs.length C (YAt xs) → R J H1
theorem pi_seqA {X : Cx} {K : PySem.W.Frag} {tg l : Expr} {tl : TE} (hK : X.K = K) (hl : PE X l tl) : PI X tg l (iSeqA K tl) := by
  subst hK
  refine ⟨fun pins s σ H R I h => thn (hl.run pins s σ H _ I h) fun v s1 ⟨x, H1, I1, r1, a, xs, bb, C, ex, hq, hC, q⟩ => ?_⟩
  subst ex
  cases r1
  have new : ∀ b ∈ [s1.heap.objs.size], FpOk X pins H1 b := fun b hb => by
    rw [List.mem_singleton.mp hb]
    exact I1.fpOk (Nat.le_refl _) (I1.hok.fresh (Nat.le_refl _))
  cases bb with
  | true =>
    obtain ⟨its, _, p, _⟩ := I1.list (show SqL X.K H1 a xs from hq)
    exact wpAny_pyIter_list p.isList ⟨_, _, _, _, H1, rfl, I1.kept (t' := s1.toks) fun _ _ e => Heap.get?_push_of_some _ e, turn_list a _, ⟨_, Heap.get?_push_size _ rfl, rfl, rfl⟩, new, q (Itl X.K a) (walk_list.mono (fun H g => hC H g) fun _ _ _ _ _ _ y => y)⟩
  | false =>
    obtain ⟨its, _, p, _⟩ := I1.tuple (show SqT X.K H1 a xs from hq)
    exact wpAny_pyIter_tuple (show s1.heap.IsTuple a its.toArray from p) ⟨_, _, _, _, H1, rfl, I1.kept (t' := s1.toks) fun _ _ e => Heap.get?_push_of_some _ e, turn_tuple a _, ⟨_, Heap.get?_push_size _ rfl, rfl, rfl⟩, new, q (Itt X.K a) (walk_tup.mono (fun H g => hC H g) fun _ _ _ _ _ _ y => y)⟩
end XL
namespace XL
open PySem PySem.Spec PyProof.Rows L2
abbrev sOs : Stmt := topS 23
abbrev sNt : Stmt := topS 24
theorem hu10 {A : Around} (h : A.units + 64 < cLine) : A.units + 10 < cLine := by omega
theorem small2000 {n : Nat} (h : n ≤ 2000) : n < sizeLine := by rw [sizeLine_eq]; omega
/-! ### where one is in a map -/
theorem flat_at {c : Cht} {i k : Nat} {a : List Tip} {e : Tip} (ha : c[i]? = some a) (he : a[k]? = some e) : c.flatten = ((c.take i).flatten ++ a.take k) ++ e :: (a.drop (k + 1) ++ (c.drop (i + 1)).flatten) := by
  obtain ⟨hi, ei⟩ := List.getElem?_eq_some_iff.mp ha
  obtain ⟨hk, ek⟩ := List.getElem?_eq_some_iff.mp he
  have e1 : c = c.take i ++ a :: c.drop (i + 1) := by rw [← ei, ← List.drop_eq_getElem_cons hi, List.take_append_drop]
  have e2 : a = a.take k ++ e :: a.drop (k + 1) := by rw [← ek, ← List.drop_eq_getElem_cons hk, List.take_append_drop]
  have e3 : c.flatten = (c.take i).flatten ++ (a ++ (c.drop (i + 1)).flatten) := by
    have := congrArg List.flatten e1
    rw [List.flatten_append, List.flatten_cons] at this
    exact this
  have e4 : a ++ (c.drop (i + 1)).flatten = a.take k ++ e :: (a.drop (k + 1) ++ (c.drop (i + 1)).flatten) := by
    have := congrArg (· ++ (c.drop (i + 1)).flatten) e2
    simpa [List.append_assoc] using this
  rw [e3, e4, List.append_assoc]
theorem new_at {c : Cht} (nd : c.flatten.Nodup) {i k : Nat} {a : List Tip} {e : Tip} (ha : c[i]? = some a) (he : a[k]? = some e) : e ∉ (c.take i).flatten ++ a.take k := by
  rw [flat_at ha he] at nd
  exact fun m => (List.nodup_append.mp nd).2.2 e m e (List.mem_cons_self ..) rfl
theorem mem_at {c : Cht} {i k : Nat} {a : List Tip} {e : Tip} (ha : c[i]? = some a) (he : a[k]? = some e) : e ∈ c.flatten := by
  rw [flat_at ha he]
  exact List.mem_append_right _ (List.mem_cons_self ..)
theorem len_at {c : Cht} {i k : Nat} {a : List Tip} {e : Tip} (ha : c[i]? = some a) (he : a[k]? = some e) : ((c.take i).flatten ++ a.take k).length < c.flatten.length := by
  rw [flat_at ha he, List.length_append (bs := e :: _), List.length_cons]
  omega
theorem take_snoc {α : Type} {l : List α} {k : Nat} {e : α} (h : l[k]? = some e) : l.take (k + 1) = l.take k ++ [e] := by
  obtain ⟨hk, ek⟩ := List.getElem?_eq_some_iff.mp h
  rw [List.take_succ, h]
  rfl
theorem flat_snoc {c : Cht} {i : Nat} {a : List Tip} (ha : c[i]? = some a) : (c.take (i + 1)).flatten = (c.take i).flatten ++ a := by rw [take_snoc ha, List.flatten_append]; simp
theorem nxL_snoc {c : Cht} {i : Nat} {a : List Tip} (ha : c[i]? = some a) : nxL (c.take (i + 1)) = nxL (c.take i) ++ nxB a := by
  rw [take_snoc ha]
  unfold nxL
  rw [List.flatMap_append]
  simp
theorem nxB_len (a : List Tip) : (nxB a).length = a.length := by unfold nxB; rw [List.length_map, List.length_range]
theorem nxB_at {a : List Tip} {k : Nat} {e : Tip} (h : a[k]? = some e) : ∃ e', a[(k + 1) % a.length]? = some e' ∧ (nxB a)[k]? = some (e, e') := by
  obtain ⟨hk, ek⟩ := List.getElem?_eq_some_iff.mp h
  have lt : (k + 1) % a.length < a.length := Nat.mod_lt _ (by omega)
  refine ⟨a[(k + 1) % a.length], List.getElem?_eq_getElem lt, ?_⟩
  unfold nxB
  rw [List.getElem?_map, List.getElem?_range hk]
  simp [List.getD, h, lt]
theorem nx_keys (c : Cht) (i k : Nat) (a : List Tip) : (nxL (c.take i) ++ (nxB a).take k).map (·.1) = (c.take i).flatten ++ a.take k := by
  rw [List.map_append, nxL_keys, List.map_take, nxB_keys]
section
variable {P : Program} {w : World} {K : PySem.W.Frag} {mg : Str → Option Value} {base : Heap}
theorem RwA.at_ {H : Hp} {v : V} {a : List Tip} (h : RwA K H v a) : ∃ t xs, v = .ref t ∧ Sq2 K H t xs ∧ xs.length = a.length ∧ (∀ (i : Nat) (x : V), xs[i]? = some x → ∃ e, a[i]? = some e ∧ Dp K H x (enD e)) ∧ (∀ (i : Nat) (e : Tip), a[i]? = some e → ∃ x, xs[i]? = some x ∧ Dp K H x (enD e)) := by
  obtain ⟨t, xs, rfl, q, d⟩ := h.ex
  refine ⟨t, xs, rfl, q, by rw [DpAll.length d, List.length_map], fun i x hx => ?_, fun i e he => ?_⟩
  · obtain ⟨d', e', z⟩ := DpAll.get d hx
    rw [List.getElem?_map] at e'
    obtain ⟨e, e1, rfl⟩ := Option.map_eq_some_iff.mp e'
    exact ⟨e, e1, z⟩
  · exact DpAll.get' d (d := enD e) (by rw [List.getElem?_map, he]; rfl)
/-! ### the other end -/
abbrev nOs : List Str := ["_law_tip"]
theorem scOs : FnScope nOs ["_law_tip"] (defScope sOs) := ⟨rfl, rfl, rfl, by decide +kernel, rfl, by decide +kernel, by decide +kernel⟩
def spOs (K : PySem.W.Frag) : Sp := fun vs H Q _ => ∃ (v : V) (e : Tip), vs = [v] ∧ Dp K H v (enD e) ∧ ∀ t, H t = none → Q (.ref t) (upd H t (.tup [.int (oth e).1, .int (oth e).2]))
theorem ok_os {f : Addr} {fd : FuncData} {k : Nat} (F : Fun K "_law_other_side" "_law_other_side" sOs f fd) : FnOk P w K mg base CX0 (k + 1) f fd ["_law_tip"] (spOs K) := by
  refine F.ok scOs (fun vs H Q E h => ?_) (fun cdv A outer s0 H vs Q E hr h => ?_)
  · obtain ⟨v, e, rfl, _⟩ := h
    rfl
  obtain ⟨v, e, rfl, he, q⟩ := h
  refine ⟨_, (pss_one (ps_ret (pe_tup (pa_cons (pe_ix (r := rIxA K) ix_any (pv 0) pe_int (fun _ _ => rfl)) (pa_cons (pe_op op_sub pe_int (pe_ix (r := rIxA K) ix_any (pv 0) pe_int (fun _ _ => rfl))) pa_nil))))), ?_⟩
  obtain ⟨t, rfl, ht⟩ := en_ref he
  exact ⟨_, rfl, t, _, _, _, rfl, rfl, .inr ht, rfl, _, rfl, t, _, _, _, rfl, rfl, .inr ht, rfl, _, _, rfl, rfl, (by show 2 ≤ sizeLine; decide), fun p nP => q p nP⟩
/-! ### the next ends -/
abbrev nNt : List Str := ["_law_chart_here", "_law_found", "_law_around", "_law_k", "_law_tip"]
theorem scNt : FnScope nNt ["_law_chart_here"] (defScope sNt) := ⟨rfl, rfl, rfl, by decide +kernel, rfl, by decide +kernel, by decide +kernel⟩
def spNt (P : Program) (w : World) (K : PySem.W.Frag) : Sp := fun vs H Q _ => ∃ (v : V) (c : Cht), vs = [v] ∧ ChA K H v c ∧ c.flatten.Nodup ∧ c.flatten.length ≤ 1000 ∧
  ∀ (D : Addr) (es : List NE) (H' : Hp), H D = none → Same H H' → H' D = some (DNo P w D es) → EnE K H' (RE K) es (nxL c) → Q (.ref D) H'
theorem ok_nt {f : Addr} {fd : FuncData} {k : Nat} (F : Fun K "_law_next_tips" "_law_next_tips" sNt f fd) (m_enumerate : mg "enumerate" = none) (m_len : mg "len" = none) : FnOk P w K mg base CX0 (k + 1) f fd ["_law_chart_here"] (spNt P w K) := by
  refine F.ok scNt (fun vs H Q E h => ?_) (fun cdv A outer s0 H vs Q E hr h => ?_)
  · obtain ⟨v, c, rfl, _⟩ := h
    rfl
  obtain ⟨v, c, rfl, hc, nd, few, q⟩ := h
  refine ⟨_, (pss_cons (ps_set (i := 1) scNt.nd rfl (.inl rfl) pe_ndnew)
    (pss_cons (ps_for PassesOwn.never rfl (pi_seqA rfl (pv 0)) (pg_name (i := 2) scNt.nd rfl (.inl rfl))
    (pss_one (ps_for PassesOwn.never rfl (pi_enumA rfl m_enumerate (pa_cons (pv 2) pa_nil)) (pg_any rfl (pgs_cons (pg_name (i := 3) scNt.nd rfl (.inl rfl)) (pgs_cons (pg_name (i := 4) scNt.nd rfl (.inl rfl)) pgs_nil)))
    (pss_one (ps_nput (hu10 hr.units) (pv 1) (pv 4) (pe_ix (r := rIxA K) ix_any (pv 2) (pe_op op_modN (pe_op op_add (pv 3) pe_int) (pe_callB (r := rLenA K) call_lenA rfl m_len PySem.boot_len (pa_cons (pv 2) pa_nil))) (fun _ _ => rfl)) rfl)))))
    (pss_one (ps_ret (pv 1))))), ?_⟩
  obtain ⟨t, us, rfl, ht, lt, rows⟩ := hc.ex
  obtain ⟨bt, htB⟩ := sqB_of ht
  refine fun D nD => ?_
  have sD := same_new nD (o := DNo P w D [])
  have eD : (upd H D (DNo P w D [])) D = some (DNo P w D []) := upd_same
  refine at_g (σ' := [some (.ref t), some (.ref D), none, none, none]) rfl ?_
  refine at_h (fun G => Same H G ∧ G D = some (DNo P w D [])) ⟨sD, eD⟩ fun H1 hH1 => ?_
  clear sD eD
  obtain ⟨sD, eD⟩ := hH1
  refine ⟨_, rfl, t, us, bt, fun Y => Same H Y, rfl, Same.sqB sD htB, fun _ s => Same.sqB s htB, fun J wk => for_it wk (fun i σ Z => ∃ (es : List NE) (y2 y3 y4 : Option V), σ = [some (.ref t), some (.ref D), y2, y3, y4] ∧ Same H Z ∧ Z D = some (DNo P w D es) ∧ EnE K Z (RE K) es (nxL (c.take i))) ⟨[], none, none, none, rfl, sD, eD, EnE.nil⟩ (fun i σ Z _ h => ?_) (fun i x σ Z Z' hi h hy => ?_) (fun σ Z h => ?_)⟩
  · obtain ⟨es, y2, y3, y4, rfl, sZ, _⟩ := h
    exact sZ
  · obtain ⟨es, y2, y3, y4, rfl, sZ, eZ, fe⟩ := h
    obtain ⟨rfl, hx⟩ := hy
    obtain ⟨a, ha, ra⟩ := rows i x hx
    obtain ⟨ta, xs, rfl, hxs, lx, get1, get2⟩ := ra.at_
    obtain ⟨bb, hb⟩ := sqB_of hxs
    refine at_g (σ' := [some (.ref t), some (.ref D), some (.ref ta), y3, y4]) rfl ?_
    refine ⟨_, rfl, ta, xs, bb, fun Y => Same H Y, rfl, Same.sqB sZ hb, fun _ s => Same.sqB s hb, fun J wk => for_it wk (fun k σ Y => ∃ (es' : List NE) (y3 y4 : Option V), σ = [some (.ref t), some (.ref D), some (.ref ta), y3, y4] ∧ Same H Y ∧ Y D = some (DNo P w D es') ∧ EnE K Y (RE K) es' (nxL (c.take i) ++ (nxB a).take k)) ⟨es, y3, y4, rfl, sZ, eZ, by rw [List.take_zero, List.append_nil]; exact fe⟩ (fun k σ Y _ h => ?_) (fun k x σ Y Y' hk h hy => ?_) (fun σ Y h => ?_)⟩
    · obtain ⟨es', y3, y4, rfl, sY, _⟩ := h
      exact sY
    · obtain ⟨es', y3, y4, rfl, sY, eY, ge⟩ := h
      obtain ⟨T, x0, x1, rfl, nT, rfl, hi0, hx1⟩ := hy
      obtain rfl := Option.some.inj hi0
      obtain ⟨e, he, de⟩ := get1 k x1 hx1
      obtain ⟨b, rfl, hb2⟩ := en_ref de
      obtain ⟨e', he', hp⟩ := nxB_at he
      obtain ⟨x2, hx2, de'⟩ := get2 _ _ he'
      have sT := same_new nT (o := .tup [.int (k : Int), .ref b])
      have sY' := sY.trans sT
      have ge' := ge.move (Tp.of sT) (RE.mono (Tp.of sT))
      have eY' := sT _ _ eY
      have uT : (upd Y T (.tup [.int (k : Int), .ref b])) T = some (.tup [.int (k : Int), .ref b]) := upd_same
      generalize upd Y T (.tup [.int (k : Int), .ref b]) = Y1 at sY' ge' eY' uT
      refine ⟨T, _, rfl, .inr (.inl (.inl uT)), rfl, ?_⟩
      refine ⟨_, _, rfl, ?_⟩
      refine at_g (σ' := [some (.ref t), some (.ref D), some (.ref ta), some (.int (k : Int)), y4]) rfl ?_
      refine ⟨_, _, rfl, ?_⟩
      refine at_g (σ' := [some (.ref t), some (.ref D), some (.ref ta), some (.int (k : Int)), some (.ref b)]) rfl ?_
      have hxY : Sq2 K Y1 ta xs := Same.sq2 sY' hxs
      have len : es'.length < c.flatten.length := by
        rw [ge'.l, ← List.length_map (f := Prod.fst), nx_keys]
        exact len_at ha he
      have hpos : 0 < a.length := by have := (List.getElem?_eq_some_iff.mp he).1; omega
      have fm : ((k : Int) + 1).fmod (xs.length : Int) = (((k + 1) % a.length : Nat) : Int) := by
        rw [lx, Int.fmod_eq_emod_of_nonneg _ (by omega), Int.natCast_emod]
        rfl
      have at1 : atI xs (((k : Int) + 1).fmod (xs.length : Int)) = some x2 := by rw [fm]; exact atI_nat hx2
      have no : atN es' (kyE e) = none := ge'.none (by rw [nx_keys]; exact new_at nd ha he)
      have dY : Dp K Y1 (.ref b) (enD e) := Dp.same sY' _ de
      have dY2 : Dp K Y1 x2 (enD e') := Dp.same sY' _ de'
      refine ⟨rfl, _, rfl, _, rfl, _, _, rfl, rfl, _, rfl, ta, xs, rfl, hxY, _, _, rfl, rfl, (by omega), ta, xs, _, x2, rfl, rfl, hxY, at1, _, rfl, _, rfl, D, _, rfl, ⟨es', kyE e, b, eY', ge'.ky, rfl, en_at dY, no, small2000 (by omega), rfl⟩, ?_⟩
      have tp := tp_dno (o := DNo P w D (es' ++ [(kyE e, b, x2)])) eY'
      refine ⟨_, some (.int (k : Int)), some (.ref b), rfl, fun q o e => ?_, upd_same, ?_⟩
      · rw [upd_ne (fun z => by rw [z, nD] at e; cases e)]
        exact sY' _ _ e
      · rw [take_snoc hp, ← List.append_assoc]
        exact (ge'.snoc (e := e) (y := e') dY dY2).move tp (RE.mono tp)
    · obtain ⟨es', y3, y4, rfl, sY, eY, ge⟩ := h
      refine ⟨es', _, y3, y4, rfl, sY, eY, ?_⟩
      rw [nxL_snoc ha, ← List.take_of_length_le (l := nxB a) (i := xs.length) (by rw [nxB_len, lx]; exact Nat.le_refl _)]
      exact ge
  · obtain ⟨es, y2, y3, y4, rfl, sZ, eZ, fe⟩ := h
    refine ⟨_, rfl, q D es Z nD sZ eZ ?_⟩
    rw [lt, List.take_length] at fe
    exact fe
end
end XL
namespace XL
-- optVs
open PySem PySem.Spec PyProof.Rows L2
theorem nil_go {σ : L2.St} {H : Hp} {Q : List V → Hp → Prop} (h : Q [] H) : tNil σ H Q := h
theorem cons_c {v : V} {ta : TA} {σ : L2.St} {H : Hp} {Q : List V → Hp → Prop} (h : ta σ H fun vs H1 => Q (v :: vs) H1) : tCons (tC v) ta σ H Q := h
theorem sq_keep {K : PySem.W.Frag} {H F : Hp} {a : Addr} {xs : List V} (s : Same H F) : (¬ SqT K H a xs → SqL K H a xs → SqL K F a xs) ∧ (SqT K H a xs → SqT K F a xs) := by
  refine ⟨fun _ h => ?_, fun h => ?_⟩
  · rcases h with (h | ⟨o, h⟩) | h
    · exact .inl (.inl (s _ _ h))
    · exact .inl (.inr ⟨o, s _ _ h⟩)
    · exact .inr h
  · rcases h with (h | ⟨o, h⟩) | h
    · exact .inl (.inl (s _ _ h))
    · exact .inl (.inr ⟨o, s _ _ h⟩)
    · exact .inr h
/-! ### words that are numbers, as rows of signs -/
abbrev Dg (c : Nat) : Prop := 48 ≤ c ∧ c ≤ 57
abbrev valL (w : List Nat) : Nat := NumText.digitsVal w
theorem valL_snoc (v : List Nat) (c : Nat) : valL (v ++ [c]) = valL v * 10 + (c - 48) := by
  show (v ++ [c]).foldl _ 0 = _
  rw [List.foldl_append]; rfl
theorem snoc_ind {p : List Nat → Prop} (h0 : p []) (h1 : ∀ v c, p v → p (v ++ [c])) (w : List Nat) : p w := by
  have h : ∀ n (w : List Nat), w.length = n → p w := by
    intro n
    induction n with
    | zero => intro w e; rw [List.length_eq_zero_iff.mp e]; exact h0
    | succ n ih =>
      intro w e
      have ne : w ≠ [] := fun z => by rw [z] at e; simp at e
      rw [← List.dropLast_concat_getLast ne]
      exact h1 _ _ (ih _ (by rw [List.length_dropLast, e]; rfl))
  exact h _ w rfl
theorem valL_lt : ∀ {w : List Nat}, (∀ c ∈ w, Dg c) → valL w < 10 ^ w.length := by
  intro w
  refine snoc_ind (p := fun w => (∀ c ∈ w, Dg c) → valL w < 10 ^ w.length) (fun _ => by decide) (fun v c ih => ?_) w
  intro hd
  rw [valL_snoc, List.length_append]
  have h1 := ih fun d h => hd d (List.mem_append_left _ h)
  have h2 := hd c (by simp)
  show _ < 10 ^ (v.length + 1)
  rw [Nat.pow_succ]
  omega
theorem log2_small {n : Nat} (h : n < 10 ^ 13) : ((n : Nat) : Int).natAbs.log2 < 1920 := by
  rw [Int.natAbs_natCast]
  by_cases h0 : n = 0
  · rw [h0]; decide
  · have := (Nat.log2_lt (k := 44) h0).mpr (by omega)
    omega
/-- no needless nought before it -/
def Tight (w : List Nat) : Prop := w.head? ≠ some 48 ∨ w = [48]
theorem valL_pos : ∀ {w : List Nat}, (∀ c ∈ w, Dg c) → w ≠ [] → w.head? ≠ some 48 → 1 ≤ valL w := by
  intro w
  refine snoc_ind (p := fun w => (∀ c ∈ w, Dg c) → w ≠ [] → w.head? ≠ some 48 → 1 ≤ valL w) (fun _ h => absurd rfl h) (fun v c ih => ?_) w
  · intro hd _ hh
    rw [valL_snoc]
    by_cases hv : v = []
    · subst hv
      have := hd c (by simp)
      have h48 : c ≠ 48 := fun z => hh (by rw [z]; rfl)
      omega
    · have : 1 ≤ valL v := ih (fun d h => hd d (List.mem_append_left _ h)) hv (by
        cases v with
        | nil => exact absurd rfl hv
        | cons a r => simpa using hh)
      omega
theorem num_back : ∀ {w : List Nat}, (∀ c ∈ w, Dg c) → w ≠ [] → Tight w → TL.numL (valL w) = w := by
  intro w
  refine snoc_ind (p := fun w => (∀ c ∈ w, Dg c) → w ≠ [] → Tight w → TL.numL (valL w) = w) (fun _ h => absurd rfl h) (fun v c ih => ?_) w
  · intro hd _ ht
    have hc := hd c (by simp)
    rw [valL_snoc]
    by_cases hv : v = []
    · subst hv
      show TL.numL (0 * 10 + (c - 48)) = [c]
      rw [TL.numL_lt (by omega)]
      congr 1; omega
    · have hdv : ∀ d ∈ v, Dg d := fun d h => hd d (List.mem_append_left _ h)
      have hh : v.head? ≠ some 48 := by
        rcases ht with h | h
        · cases v with
          | nil => exact absurd rfl hv
          | cons a r => simpa using h
        · cases v with
          | nil => exact absurd rfl hv
          | cons a r => simp at h
      have hp := valL_pos hdv hv hh
      rw [TL.numL_step (by omega)]
      have e1 : (valL v * 10 + (c - 48)) / 10 = valL v := by omega
      have e2 : 48 + (valL v * 10 + (c - 48)) % 10 = c := by omega
      rw [e1, e2, ih hdv hv (.inl hh)]
theorem numL_tight (n : Nat) : Tight (TL.numL n) := by
  induction n using Nat.strongRecOn with
  | _ n ih =>
    by_cases h : n < 10
    · rw [TL.numL_lt h]
      by_cases h0 : n = 0
      · exact .inr (by rw [h0])
      · refine .inl fun z => h0 ?_
        have : 48 + n = 48 := by simpa using z
        omega
    · rw [TL.numL_step (by omega)]
      refine .inl ?_
      have ne := TL.numL_ne (n / 10)
      have := ih (n / 10) (by omega)
      rcases this with q | q
      · cases e : TL.numL (n / 10) with
        | nil => exact absurd e ne
        | cons a r => rw [e] at q; simpa using q
      · have : TL.numL (n / 10) = TL.numL 0 := by rw [q, TL.numL_lt (by decide)]
        have := TL.numL_inj this
        omega
/-- the number that a word tells -/
def okNum (w : List Nat) : Bool := decide (w ≠ []) && decide (w.length ≤ 13) && w.all (fun c => decide (48 ≤ c) && decide (c ≤ 57)) && decide (w.head? ≠ some 48 ∨ w = [48])
def numIn (w : List Nat) : Option Nat := if okNum w = true then some (valL w) else none
theorem okNum_iff {w : List Nat} : okNum w = true ↔ w ≠ [] ∧ w.length ≤ 13 ∧ (∀ c ∈ w, Dg c) ∧ Tight w := by
  unfold okNum Tight
  simp only [Bool.and_eq_true, decide_eq_true_eq, List.all_eq_true, and_assoc]
theorem numIn_numL {n : Nat} (h : n < 10 ^ 13) : numIn (TL.numL n) = some n := by
  unfold numIn
  rw [if_pos (okNum_iff.mpr ⟨TL.numL_ne n, TL.numL_len (by decide) h, TL.numL_digits n, numL_tight n⟩)]; show some (NumText.digitsVal _) = _; rw [TL.numL_val]
/-- a row of words, each a number -/
def numsIn (ws : List (List Nat)) : Option (List Nat) := ws.mapM numIn
theorem numsIn_of {zs : List Nat} (h : ∀ z ∈ zs, z < 10 ^ 13) : numsIn (zs.map TL.numL) = some zs := by
  unfold numsIn
  induction zs with
  | nil => rfl
  | cons z zs ih =>
    rw [List.map_cons, List.mapM_cons, numIn_numL (h z (List.mem_cons_self ..)), ih fun y hy => h y (List.mem_cons_of_mem _ hy)]
    rfl
/-- a number, or None -/
def optV : Option Nat → V
  | none => .non
  | some n => .int (n : Nat)
theorem nums_none : ∀ ws : List (List Nat), V.non ∈ ws.map (fun w => optV (numIn w)) ↔ numsIn ws = none
  | [] => by simp [numsIn]
  | w :: ws => by
    have ih := nums_none ws
    unfold numsIn at ih ⊢
    rw [List.map_cons, List.mem_cons, List.mapM_cons]
    cases e : numIn w with
    | none => simp [optV]
    | some n =>
      have : V.non ≠ optV (some n) := by intro z; cases z
      rw [ih]
      cases e2 : ws.mapM numIn with
      | none => simp
      | some ns => simp [this]
theorem nums_some : ∀ {ws : List (List Nat)} {ns : List Nat}, numsIn ws = some ns → ws.map (fun w => optV (numIn w)) = ns.map fun n => V.int (n : Nat)
  | [], ns, h => by
    have h' : some [] = some ns := h
    obtain rfl := Option.some.inj h'
    rfl
  | w :: ws, ns, h => by
    unfold numsIn at h
    rw [List.mapM_cons] at h
    cases e : numIn w with
    | none => rw [e] at h; cases h
    | some n =>
      cases e2 : ws.mapM numIn with
      | none => rw [e, e2] at h; cases h
      | some ms =>
        rw [e, e2] at h
        have h' : some (n :: ms) = some ns := h
        obtain rfl := Option.some.inj h'
        rw [List.map_cons, nums_some (ns := ms) e2, List.map_cons, e]
        rfl
end XL
namespace XL
open PySem PySem.Spec PyProof.Rows L2
abbrev sFc : Stmt := topS 25
theorem if_no {b : Bool} {A B : Prop} (e : b = false) (h : B) : if b = true then A else B := by rw [e]; exact h
theorem if_so {b : Bool} {A B : Prop} (e : b = true) (h : A) : if b = true then A else B := by rw [e]; exact h
theorem eqv_en (a b : Tip) : PyData.eqv (enD a) (enD b) = decide (a = b) := by
  have : (a = b) ↔ (a.1 = b.1 ∧ a.2 = b.2) := ⟨fun h => by rw [h]; exact ⟨rfl, rfl⟩, fun h => Prod.ext h.1 h.2⟩
  by_cases h1 : a.1 = b.1 <;> by_cases h2 : a.2 = b.2 <;> simp [enD, PyData.eqv, PyData.eqvAll, this, h1, h2]
theorem any_en (e : Tip) : ∀ met : List Tip, ((met.map enD).any fun z => PyData.eqv z (enD e)) = decide (e ∈ met)
  | [] => by simp
  | a :: met => by
    rw [List.map_cons, List.any_cons, any_en e met, eqv_en]
    by_cases h : a = e
    · simp [h]
    · simp [h, Ne.symm h]
theorem en_lay (e : Tip) : (enD e).canLay0 = true := by simp [enD, PyData.canLay0, PyData.canLayAll0]
theorem en_deep (e : Tip) : (enD e).depth = 1 := by simp [enD, PyData.depth, PyData.depthAll]
theorem ens_lay : ∀ l : List Tip, PyData.canLayAll0 (l.map enD) = true
  | [] => rfl
  | e :: l => by rw [List.map_cons]; show ((enD e).canLay0 && PyData.canLayAll0 (l.map enD)) = true; rw [en_lay, ens_lay l]; rfl
theorem ens_deep : ∀ l : List Tip, PyData.depthAll (l.map enD) ≤ 1
  | [] => by simp [PyData.depthAll]
  | e :: l => by
    have h1 := ens_deep l
    have h2 := en_deep e
    simp only [List.map_cons, PyData.depthAll]; omega
theorem fs_lay : ∀ l : List (List Tip), PyData.canLayAll0 (l.map fun a => .list (a.map enD)) = true
  | [] => rfl
  | a :: l => by rw [List.map_cons]; show ((PyData.list (a.map enD)).canLay0 && PyData.canLayAll0 (l.map fun a => .list (a.map enD))) = true; rw [fs_lay l, Bool.and_true]; simp only [PyData.canLay0]; exact ens_lay a
theorem fs_deep : ∀ l : List (List Tip), PyData.depthAll (l.map fun a => .list (a.map enD)) ≤ 2
  | [] => by simp [PyData.depthAll]
  | a :: l => by
    have h1 := fs_deep l
    have h2 := ens_deep a
    simp only [List.map_cons, PyData.depthAll, PyData.depth]; omega
theorem shp {d : PyData} (h : d.canLay0 = true) (k : d.depth ≤ 64) : SeqAt.shaped d = true := by
  show (PyData.canLay0 d && decide (PyData.depth d ≤ 64)) = true
  rw [Bool.and_eq_true]; exact ⟨h, decide_eq_true k⟩
theorem shp_en (e : Tip) : SeqAt.shaped (enD e) = true := shp (en_lay e) (by rw [en_deep]; decide)
theorem shp_ens (l : List Tip) : SeqAt.shaped (.list (l.map enD)) = true := shp (by simp only [PyData.canLay0]; exact ens_lay l) (by have := ens_deep l; simp only [PyData.depth]; omega)
theorem shp_fs (l : List (List Tip)) : SeqAt.shaped (chL l) = true := shp (by simp only [chL, PyData.canLay0]; exact fs_lay l) (by have := fs_deep l; simp only [chL, PyData.depth]; omega)
theorem shp_nil : SeqAt.shaped (.list []) = true := by decide +kernel
theorem eqv_no {α : Type} (f : α → PyData) (l : List α) : PyData.eqv (.list (l.map f)) (.list []) = l.isEmpty := by
  cases l with
  | nil => rfl
  | cons a l => simp [PyData.eqv, PyData.eqvAll]
/-! ### lists of lists of ends, each at its place -/
structure FsL (K : PySem.W.Frag) (Z : Hp) (as : List Addr) (gs : List (List Tip)) : Prop where
  l : as.length = gs.length
  d : ∀ (i : Nat) (p : Addr), as[i]? = some p → ∃ xs r, gs[i]? = some r ∧ Z p = some (.lst xs) ∧ DpAll K Z xs (r.map enD)
theorem ens_tp {K : PySem.W.Frag} {Z Z' : Hp} {xs : List V} {r : List Tip} (t : Tp Z Z') (h : DpAll K Z xs (r.map enD)) : DpAll K Z' xs (r.map enD) := by
  have n : noLs (r.map enD) = true := by
    clear h
    induction r with
    | nil => rfl
    | cons e r ih => rw [List.map_cons, noLs, noL_en, ih]; rfl
  exact DpAll.tp t _ n h
section
variable {K : PySem.W.Frag} {Z Z' : Hp} {as : List Addr} {gs : List (List Tip)}
theorem FsL.nil : FsL K Z [] [] := ⟨rfl, fun i p h => by simp at h⟩
theorem FsL.move (h : FsL K Z as gs) (t : Tp Z Z') (k : ∀ p ∈ as, ∀ o, Z p = some o → Z' p = some o) : FsL K Z' as gs := ⟨h.l, fun i p hp => by
  obtain ⟨xs, r, a, b, c⟩ := h.d i p hp
  exact ⟨xs, r, a, k p (List.mem_iff_getElem?.mpr ⟨i, hp⟩) _ b, ens_tp t c⟩⟩
theorem FsL.there (h : FsL K Z as gs) : ∀ p ∈ as, ∃ xs, Z p = some (.lst xs) := fun p hp => by
  obtain ⟨i, hi⟩ := List.mem_iff_getElem?.mp hp
  obtain ⟨xs, _, _, b, _⟩ := h.d i p hi
  exact ⟨xs, b⟩
theorem FsL.snoc (h : FsL K Z as gs) {p : Addr} {xs : List V} {r : List Tip} (e : Z p = some (.lst xs)) (d : DpAll K Z xs (r.map enD)) : FsL K Z (as ++ [p]) (gs ++ [r]) := ⟨by rw [List.length_append, List.length_append, h.l]; rfl, fun i q hq => by
  by_cases c : i < as.length
  · rw [List.getElem?_append_left c] at hq
    obtain ⟨xs, r, a, b⟩ := h.d i q hq
    exact ⟨xs, r, by rw [List.getElem?_append_left (by rw [← h.l]; exact c)]; exact a, b⟩
  · rw [List.getElem?_append_right (by omega)] at hq
    have i0 : i - as.length = 0 := by
      have := (List.getElem?_eq_some_iff.mp hq).1
      simp at this; omega
    rw [i0] at hq
    obtain rfl := Option.some.inj hq
    exact ⟨xs, r, by rw [List.getElem?_append_right (by rw [← h.l]; omega), ← h.l, i0]; rfl, e, d⟩⟩
theorem FsL.dp (h : FsL K Z as gs) : DpAll K Z (as.map V.ref) (gs.map fun r => .list (r.map enD)) := by
  have key : ∀ (as : List Addr) (gs : List (List Tip)), FsL K Z as gs → DpAll K Z (as.map V.ref) (gs.map fun r => .list (r.map enD)) := by
    intro as
    induction as with
    | nil => intro gs h; cases gs with
      | nil => exact .nil
      | cons _ _ => have := h.l; simp at this
    | cons p as ih => intro gs h; cases gs with
      | nil => have := h.l; simp at this
      | cons r gs =>
        obtain ⟨xs, r', e1, e2, e3⟩ := h.d 0 p rfl
        obtain rfl : r = r' := Option.some.inj e1
        exact .cons (.lst (.inl (.inl e2)) e3) (ih gs ⟨by simpa using h.l, fun i q hq => by simpa using h.d (i + 1) q (by simpa using hq)⟩)
  exact key as gs h
theorem FsL.whole (h : FsL K Z as gs) {p : Addr} (e : Z p = some (.lst (as.map V.ref))) : Dp K Z (.ref p) (chL gs) := .lst (.inl (.inl e)) h.dp
end
/-- what stands while faces are put together: the dict, what was met, the faces so far -/
structure Fst (P : Program) (w : World) (K : PySem.W.Frag) (c : Cht) (H Z : Hp) (D M Fo : Addr) (es : List NE) (ms : List V) (as : List Addr) (met : List Tip) (gs : List (List Tip)) : Prop where
  s : Same H Z
  nM : H M = none
  d : Z D = some (DNo P w D es)
  e : EnE K Z (RE K) es (nxL c)
  m : Z M = some (.lst ms)
  md : DpAll K Z ms (met.map enD)
  f : Z Fo = some (.lst (as.map V.ref))
  l : FsL K Z as gs
  na : M ∉ as
  nf : M ≠ Fo
section
variable {P : Program} {w : World} {K : PySem.W.Frag} {mg : Str → Option Value} {base : Heap}
theorem Fst.next {c : Cht} {H Z Z' : Hp} {D M Fo : Addr} {es : List NE} {ms : List V} {as : List Addr} {met : List Tip} {gs : List (List Tip)} (h : Fst P w K c H Z D M Fo es ms as met gs) (s : Same Z Z') : Fst P w K c H Z' D M Fo es ms as met gs :=
  ⟨h.s.trans s, h.nM, s _ _ h.d, h.e.move (Tp.of s) (RE.mono (Tp.of s)), s _ _ h.m, ens_tp (Tp.of s) h.md, s _ _ h.f, h.l.move (Tp.of s) fun _ _ o e => s _ _ e, h.na, h.nf⟩
/-- a list that none of these is changes -/
theorem Fst.aside {c : Cht} {H Z : Hp} {D M Fo : Addr} {es : List NE} {ms : List V} {as : List Addr} {met : List Tip} {gs : List (List Tip)} (h : Fst P w K c H Z D M Fo es ms as met gs) {p : Addr} {xs : List V} {o : HO} (e : Z p = some (.lst xs)) (np : H p = none) (n1 : p ≠ M) (n2 : p ≠ Fo) (n3 : p ∉ as) : Fst P w K c H (upd Z p o) D M Fo es ms as met gs := by
  have tp : Tp Z (upd Z p o) := Tp.upd e
  have nd : D ≠ p := fun z => by have := h.d; rw [z, e] at this; exact HO.noConfusion (Option.some.inj this)
  exact ⟨fun q o e => by rw [upd_ne (fun z => by rw [z, np] at e; cases e)]; exact h.s _ _ e, h.nM, by rw [upd_ne nd]; exact h.d, h.e.move tp (RE.mono tp), by rw [upd_ne n1.symm]; exact h.m, ens_tp tp h.md, by rw [upd_ne n2.symm]; exact h.f, h.l.move tp fun q hq o e => by rw [upd_ne (fun z => n3 (by rw [← z]; exact hq))]; exact e, h.na, h.nf⟩
theorem Fst.met {c : Cht} {H Z : Hp} {D M Fo : Addr} {es : List NE} {ms : List V} {as : List Addr} {met : List Tip} {gs : List (List Tip)} (h : Fst P w K c H Z D M Fo es ms as met gs) {v : V} {e : Tip} (dv : Dp K Z v (enD e)) : Fst P w K c H (upd Z M (.lst (ms ++ [v]))) D M Fo es (ms ++ [v]) as (met ++ [e]) gs := by
  have tp : Tp Z (upd Z M (.lst (ms ++ [v]))) := Tp.upd h.m
  have nd : D ≠ M := fun z => by have := h.d; rw [z, h.m] at this; exact HO.noConfusion (Option.some.inj this)
  refine ⟨fun q o e => by rw [upd_ne (fun z => by rw [z, h.nM] at e; cases e)]; exact h.s _ _ e, h.nM, by rw [upd_ne nd]; exact h.d, h.e.move tp (RE.mono tp), upd_same, ?_, by rw [upd_ne h.nf.symm]; exact h.f, h.l.move tp fun q hq o e => by rw [upd_ne (fun z => h.na (by rw [← z]; exact hq))]; exact e, h.na, h.nf⟩
  rw [List.map_append]
  exact DpAll.app (ens_tp tp h.md) (.cons (Dp.tp tp _ (noL_en _) dv) .nil)
theorem Fcs.head {f : Tip → Tip} {e : Tip} {es met : List Tip} {fs : List (List Tip)} (h : Fcs f (e :: es) met fs) : ∃ r gs, Rnd f met e r ∧ Fcs f es (met ++ r) gs ∧ fs = (if r = [] then [] else [r]) ++ gs := by
  cases h with
  | skip m g => exact ⟨[], fs, .stop m, by rw [List.append_nil]; exact g, rfl⟩
  | @face _ _ _ r gs n hr g =>
    refine ⟨r, gs, hr, g, ?_⟩
    rw [if_neg (fun z => by have := hr.ne n; rw [z] at this; cases this)]
    rfl
theorem flat_len : ∀ {gs : List (List Tip)}, (∀ r ∈ gs, r ≠ []) → gs.length ≤ gs.flatten.length
  | [], _ => Nat.le_refl _
  | r :: gs, h => by
    have h1 := flat_len fun q hq => h q (List.mem_cons_of_mem _ hq)
    have h2 : 0 < r.length := List.length_pos_iff.mpr (h r (List.mem_cons_self ..))
    rw [List.length_cons, List.flatten_cons, List.length_append]
    omega
theorem drop_flat {c : Cht} {i : Nat} {a : List Tip} (h : c[i]? = some a) : (c.drop i).flatten = a ++ (c.drop (i + 1)).flatten := by
  obtain ⟨hi, e⟩ := List.getElem?_eq_some_iff.mp h
  rw [List.drop_eq_getElem_cons hi, e, List.flatten_cons]
theorem drop_at {α : Type} {l : List α} {k : Nat} {e : α} (h : l[k]? = some e) : l.drop k = e :: l.drop (k + 1) := by
  obtain ⟨hk, q⟩ := List.getElem?_eq_some_iff.mp h
  rw [List.drop_eq_getElem_cons hk, q]
/-! ### faces -/
abbrev nFc : List Str := ["_law_chart_here", "_law_nexts", "_law_found", "_law_met", "_law_around", "_law_tip", "_law_here"]
theorem scFc : FnScope nFc ["_law_chart_here"] (defScope sFc) := ⟨rfl, rfl, rfl, by decide +kernel, rfl, by decide +kernel, by decide +kernel⟩
def spFc (K : PySem.W.Frag) : Sp := fun vs H Q _ => ∃ (v : V) (c : Cht) (n : Nat), vs = [v] ∧ ChA K H v c ∧ WfC n c ∧ n ≤ 100 ∧
  ∀ (p : Addr) (fs : List (List Tip)) (H' : Hp), Same H H' → H p = none → Dp K H' (.ref p) (chL fs) → IsF c fs → Q (.ref p) H'
theorem ok_fc {f fo fn : Addr} {fd fdo fdn : FuncData} {k : Nat} (F : Fun K "_law_faces" "_law_faces" sFc f fd) (Os : Fns P w K mg base k "_law_other_side" ["_law_tip"] (spOs K) fo fdo) (Nt : Fns P w K mg base k "_law_next_tips" ["_law_chart_here"] (spNt P w K) fn fdn) (m_int : mg "int" = none) : FnOk P w K mg base CX0 (k + 1) f fd ["_law_chart_here"] (spFc K) := by
  refine F.ok scFc (fun vs H Q E h => ?_) (fun cdv A outer s0 H vs Q E hr h => ?_)
  · obtain ⟨v, c, n, rfl, _⟩ := h
    rfl
  obtain ⟨v, c, n, rfl, hc, wf, hn, q⟩ := h
  refine ⟨_, (pss_cons (ps_par3 (i := 1) (j := 2) (l := 3) rfl scFc.nd rfl rfl rfl (by decide) (by decide) (by decide) rfl rfl rfl (pa_cons (pe_fn Nt hr rfl (pa_cons (pv 0) pa_nil)) (pa_cons (pe_lst pa_nil) (pa_cons (pe_lst pa_nil) pa_nil))) rfl)
    (pss_cons (ps_for PassesOwn.never rfl (pi_seqA rfl (pv 0)) (pg_name (i := 4) scFc.nd rfl (.inl rfl))
    (pss_one (ps_for PassesOwn.never rfl (pi_seqA rfl (pv 4)) (pg_name (i := 5) scFc.nd rfl (.inl rfl))
    (pss_cons (ps_set (i := 6) scFc.nd rfl (.inl rfl) (pe_lst pa_nil))
    (pss_cons (ps_while PassesOwn.never (pt_cmpR (op_notInD (room65 hr)) (pv 5) (pv 3) (by rfl))
    (pss_cons (ps_expr (pe_bm PySem.F.plainAttrs_list PySem.F.slot_list_append PySem.F.type_list_append mt_append (pv 3) (pa_cons (pv 5) pa_nil)))
    (pss_cons (ps_expr (pe_bm PySem.F.plainAttrs_list PySem.F.slot_list_append PySem.F.type_list_append mt_append (pv 6) (pa_cons (pv 5) pa_nil)))
    (pss_one (ps_set (i := 5) scFc.nd rfl (.inl rfl) (pe_nget (hu10 hr.units) (pv 1) (pe_fn Os hr rfl (pa_cons (pv 5) pa_nil)) (fun _ _ => rfl)))))))
    (pss_one (ps_set (i := 2) scFc.nd rfl (.inl rfl) (pe_op op_cat (pv 2) (pe_op op_rep (pe_lst (pa_cons (pv 6) pa_nil)) (pe_callTy call_int1 rfl m_int boot_int' (pa_cons (pe_cmpR (op_neD hr.units) (pv 6) (pe_lst pa_nil) (nomark _)) pa_nil)))))))))))
    (pss_one (ps_ret (pe_ifExp (pt_cmpR (op_neD hr.units) (pv 2) (pe_lst pa_nil) (nomark _)) (pv 2) (pe_lst (pa_cons (pe_lst pa_nil) pa_nil))))))), ?_⟩
  obtain ⟨t, us, rfl, ht, lt, rows⟩ := hc.ex
  obtain ⟨bt, htB⟩ := sqB_of ht
  have flen := wf.len
  obtain ⟨gall, hgall⟩ := wf.fcs
  obtain ⟨ga1, ga2, ga3, ga4⟩ := hgall.all (T := c.flatten) (fun e he => wf.stp he) List.nodup_nil (by simp) fun x hx => hx
  have gfew : gall.length ≤ 200 := by
    have h1 := flat_len ga4
    have h2 := nd_sub _ _ (by simpa using ga1) ga2
    omega
  refine ⟨_, rfl, _, c, rfl, hc, wf.nd, by omega, fun D es H1 nD s1 eD fe => ?_⟩
  refine ⟨(by show 0 ≤ sizeLine; decide), fun Fo0 nFo => ⟨(by show 0 ≤ sizeLine; decide), fun M nM => ⟨_, _, _, rfl, ?_⟩⟩⟩
  have s2 := s1.trans (same_new nFo (o := .lst []))
  have s3 := s2.trans (same_new nM (o := .lst []))
  have nMH : H M = none := s2.free nM
  have nFoH : H Fo0 = none := s1.free nFo
  have hMF : M ≠ Fo0 := fun z => by rw [z, upd_same] at nM; cases nM
  have F0 : Fst P w K c H (upd (upd H1 Fo0 (.lst [])) M (.lst [])) D M Fo0 es [] [] [] [] :=
    ⟨s3, nMH, same_new nM _ _ (same_new nFo _ _ eD), (fe.move (Tp.of (same_new nFo)) (RE.mono (Tp.of (same_new nFo)))).move (Tp.of (same_new nM)) (RE.mono (Tp.of (same_new nM))), upd_same, .nil, same_new nM _ _ upd_same, FsL.nil, by simp, hMF⟩
  refine at_s (σ' := [some (.ref t), some (.ref D), some (.ref Fo0), some (.ref M), none, none, none]) rfl ?_
  refine at_h (fun G => Fst P w K c H G D M Fo0 es [] [] [] []) F0 fun H2 F2 => ?_
  clear F0 s2 s3 hMF nM nFo
  refine ⟨_, rfl, t, us, bt, fun Y => Same H Y, rfl, Same.sqB F2.s htB, fun _ s => Same.sqB s htB, fun J wk => for_it wk (fun i σ Z => ∃ (Fo : Addr) (ms : List V) (as : List Addr) (met : List Tip) (gs rest : List (List Tip)) (y4 y5 y6 : Option V), σ = [some (.ref t), some (.ref D), some (.ref Fo), some (.ref M), y4, y5, y6] ∧ Fst P w K c H Z D M Fo es ms as met gs ∧ H Fo = none ∧ met.Nodup ∧ (∀ x ∈ met, x ∈ c.flatten) ∧ Fcs (stp c) (c.drop i).flatten met rest ∧ gs ++ rest = gall) ⟨Fo0, [], [], [], [], gall, none, none, none, rfl, F2, nFoH, List.nodup_nil, by simp, by rw [List.drop_zero]; exact hgall, rfl⟩ (fun i σ Z _ h => ?_) (fun i x σ Z Z' hi h hy => ?_) (fun σ Z h => ?_)⟩
  · obtain ⟨Fo, ms, as, met, gs, rest, y4, y5, y6, rfl, FZ, _⟩ := h
    exact FZ.s
  · obtain ⟨Fo, ms, as, met, gs, rest, y4, y5, y6, rfl, FZ, nFoZ, mnd, msub, hf, hg⟩ := h
    obtain ⟨rfl, hx⟩ := hy
    obtain ⟨a, ha, ra⟩ := rows i x hx
    obtain ⟨ta, xs, rfl, hxs, lx, get1, get2⟩ := ra.at_
    obtain ⟨bb, hb⟩ := sqB_of hxs
    rw [drop_flat ha] at hf
    refine at_g (σ' := [some (.ref t), some (.ref D), some (.ref Fo), some (.ref M), some (.ref ta), y5, y6]) rfl ?_
    refine ⟨_, rfl, ta, xs, bb, fun Y => Same H Y, rfl, Same.sqB FZ.s hb, fun _ s => Same.sqB s hb, fun J wk => for_it wk (fun k σ Z => ∃ (Fo : Addr) (ms : List V) (as : List Addr) (met : List Tip) (gs rest : List (List Tip)) (y5 y6 : Option V), σ = [some (.ref t), some (.ref D), some (.ref Fo), some (.ref M), some (.ref ta), y5, y6] ∧ Fst P w K c H Z D M Fo es ms as met gs ∧ H Fo = none ∧ met.Nodup ∧ (∀ x ∈ met, x ∈ c.flatten) ∧ Fcs (stp c) (a.drop k ++ (c.drop (i + 1)).flatten) met rest ∧ gs ++ rest = gall) ⟨Fo, ms, as, met, gs, rest, y5, y6, rfl, FZ, nFoZ, mnd, msub, by rw [List.drop_zero]; exact hf, hg⟩ (fun k σ Z _ h => ?_) (fun k x σ Z Z' hk h hy => ?_) (fun σ Z h => ?_)⟩
    · obtain ⟨Fo, ms, as, met, gs, rest, y5, y6, rfl, FZ, _⟩ := h
      exact FZ.s
    · clear FZ nFoZ mnd msub hf hg
      obtain ⟨Fo, ms, as, met, gs, rest, y5, y6, rfl, FZ, nFoZ, mnd, msub, hf, hg⟩ := h
      obtain ⟨rfl, hx1⟩ := hy
      obtain ⟨e, he, de⟩ := get1 k x hx1
      rw [drop_at he] at hf
      obtain ⟨r, rest', hr0, hf', rfl⟩ := hf.head
      have eT : e ∈ c.flatten := mem_at ha he
      refine at_g (σ' := [some (.ref t), some (.ref D), some (.ref Fo), some (.ref M), some (.ref ta), some x, y6]) rfl ?_
      refine ⟨(by show 0 ≤ sizeLine; decide), fun Hh nHh => ?_⟩
      have FZ1 := FZ.next (same_new nHh (o := .lst []))
      have nHhH : H Hh = none := FZ.s.free nHh
      have hHM : Hh ≠ M := fun z => by rw [z, FZ.m] at nHh; cases nHh
      have hHF : Hh ≠ Fo := fun z => by rw [z, FZ.f] at nHh; cases nHh
      have hHa : Hh ∉ as := fun z => by obtain ⟨xs', e⟩ := FZ.l.there Hh z; rw [e] at nHh; cases nHh
      have eHh : (upd Z' Hh (.lst [])) Hh = some (.lst []) := upd_same
      refine at_g (σ' := [some (.ref t), some (.ref D), some (.ref Fo), some (.ref M), some (.ref ta), some x, some (.ref Hh)]) rfl ?_
      refine at_h (fun G => Fst P w K c H G D M Fo es ms as met gs ∧ G Hh = some (.lst [])) ⟨FZ1, eHh⟩ fun Z1 hZ1 => ?_
      clear FZ1 eHh
      obtain ⟨FZ1, eHh⟩ := hZ1
      obtain ⟨W, eW⟩ : ∃ W : Nat → L2.St → Hp → Prop, W = fun m σ Y => ∃ (here r2 : List Tip) (hs ms' : List V) (u : V) (tip : Tip), σ = [some (.ref t), some (.ref D), some (.ref Fo), some (.ref M), some (.ref ta), some u, some (.ref Hh)] ∧ r2.length = m ∧ Fst P w K c H Y D M Fo es ms' as (met ++ here) gs ∧ Y Hh = some (.lst hs) ∧ DpAll K Y hs (here.map enD) ∧ Dp K Y u (enD tip) ∧ tip ∈ c.flatten ∧ Rnd (stp c) (met ++ here) tip r2 ∧ here ++ r2 = r := ⟨_, rfl⟩
      refine ⟨W, ⟨r.length, by rw [eW]; exact ⟨[], r, [], ms, x, e, rfl, rfl, by rw [List.append_nil]; exact FZ1, eHh, .nil, Dp.same FZ1.s _ de, eT, by rw [List.append_nil]; exact hr0, rfl⟩⟩, fun m σ Y h => ?_⟩
      have hW := h
      rw [eW] at h
      obtain ⟨here, r2, hs, ms', u, tip, rfl, hm, FY, eH, dH, du, tT, hR, hall⟩ := h
      have dM : Dp K Y (.ref M) (.list ((met ++ here).map enD)) := .lst (.inl (.inl FY.m)) FY.md
      refine ⟨_, rfl, _, rfl, enD tip, (met ++ here).map enD, du, dM, shp_en tip, shp_ens _, ?_⟩
      rw [any_en]
      cases hR with
      | stop mm =>
        rw [decide_eq_true mm]
        rw [List.append_nil] at hall
        subst hall
        refine ⟨_, rfl, ?_⟩
        refine if_no (b := !true) rfl ?_
        refine ⟨_, rfl, _, rfl, (by show 1 ≤ sizeLine; decide), fun L1 nL1 => ⟨_, rfl, (by show 0 ≤ sizeLine; decide), fun L2 nL2 => ?_⟩⟩
        have FY2 := (FY.next (same_new nL1 (o := .lst [.ref Hh]))).next (same_new nL2 (o := .lst []))
        have eH2 := same_new nL2 (o := .lst []) _ _ (same_new nL1 (o := .lst [.ref Hh]) _ _ eH)
        have dH2 : DpAll K (upd (upd Y L1 (.lst [.ref Hh])) L2 (.lst [])) hs (here.map enD) := ens_tp (Tp.of (same_new nL2)) (ens_tp (Tp.of (same_new nL1)) dH)
        have e1 : (upd (upd Y L1 (.lst [.ref Hh])) L2 (.lst [])) L1 = some (.lst [.ref Hh]) := same_new nL2 _ _ upd_same
        have e2 : (upd (upd Y L1 (.lst [.ref Hh])) L2 (.lst [])) L2 = some (.lst []) := upd_same
        generalize upd (upd Y L1 (.lst [.ref Hh])) L2 (.lst []) = Y2 at FY2 eH2 dH2 e1 e2
        refine ⟨.list (here.map enD), .list [], .lst (.inl (.inl eH2)) dH2, .lst (.inl (.inl e2)) .nil, shp_ens _, shp_nil, ?_⟩
        rw [eqv_no]
        refine .inr ⟨_, rfl, L1, _, _, rfl, rfl, e1, ?_, ?_, ?_, fun L3 nL3 => ?_⟩
        · split <;> decide
        · split <;> decide
        · show 1 * _ ≤ sizeLine
          split <;> decide
        have FY3 := FY2.next (same_new nL3 (o := .lst (List.replicate ((if (!here.isEmpty) = true then (1 : Int) else 0)).toNat [V.ref Hh]).flatten))
        have eH3 := same_new nL3 (o := .lst (List.replicate ((if (!here.isEmpty) = true then (1 : Int) else 0)).toNat [V.ref Hh]).flatten) _ _ eH2
        have dH3 := ens_tp (Tp.of (same_new nL3 (o := .lst (List.replicate ((if (!here.isEmpty) = true then (1 : Int) else 0)).toNat [V.ref Hh]).flatten))) dH2
        have e3 : (upd Y2 L3 (.lst (List.replicate ((if (!here.isEmpty) = true then (1 : Int) else 0)).toNat [V.ref Hh]).flatten)) L3 = some (.lst (List.replicate ((if (!here.isEmpty) = true then (1 : Int) else 0)).toNat [V.ref Hh]).flatten) := upd_same
        have cut : (List.replicate ((if (!here.isEmpty) = true then (1 : Int) else 0)).toNat [V.ref Hh]).flatten = (if here = [] then ([] : List Addr) else [Hh]).map V.ref := by
          cases here <;> rfl
        rw [cut] at FY3 eH3 dH3 e3 ⊢
        generalize upd Y2 L3 (.lst ((if here = [] then ([] : List Addr) else [Hh]).map V.ref)) = Y3 at FY3 eH3 dH3 e3
        have gl : gs.length ≤ 200 := by
          have := congrArg List.length hg
          rw [List.length_append] at this
          omega
        have al := FY3.l.l
        refine ⟨Fo, L3, _, _, rfl, rfl, FY3.f, e3, ?_, fun Fo' nFo' => ?_⟩
        · rw [sizeLine_eq]
          by_cases z : here = []
          · rw [if_pos z]; simp; omega
          · rw [if_neg z]; simp; omega
        rw [← List.map_append]
        have FY4 := FY3.next (same_new nFo' (o := .lst ((as ++ if here = [] then ([] : List Addr) else [Hh]).map V.ref)))
        have hMF' : M ≠ Fo' := fun z => by have := FY3.m; rw [z, nFo'] at this; cases this
        have eH4 := same_new nFo' (o := .lst ((as ++ if here = [] then ([] : List Addr) else [Hh]).map V.ref)) _ _ eH3
        have dH4 := ens_tp (Tp.of (same_new nFo' (o := .lst ((as ++ if here = [] then ([] : List Addr) else [Hh]).map V.ref)))) dH3
        have eF4 : (upd Y3 Fo' (.lst ((as ++ if here = [] then ([] : List Addr) else [Hh]).map V.ref))) Fo' = some (.lst ((as ++ if here = [] then ([] : List Addr) else [Hh]).map V.ref)) := upd_same
        generalize upd Y3 Fo' (.lst ((as ++ if here = [] then ([] : List Addr) else [Hh]).map V.ref)) = Y4 at FY4 eH4 dH4 eF4
        refine ⟨Fo', ms', as ++ (if here = [] then [] else [Hh]), met ++ here, gs ++ (if here = [] then [] else [here]), rest', some u, some (.ref Hh), rfl, ⟨FY4.s, FY4.nM, FY4.d, FY4.e, FY4.m, FY4.md, eF4, ?_, ?_, hMF'⟩, FY3.s.free nFo', hr0.nd mnd, fun x hx => (List.mem_append.mp hx).elim (msub x) (hr0.sub (fun e he => wf.stp he) eT x), hf', ?_⟩
        · by_cases z : here = []
          · rw [if_pos z, if_pos z, List.append_nil, List.append_nil]; exact FY4.l
          · rw [if_neg z, if_neg z]
            exact FY4.l.snoc eH4 dH4
        · intro z
          rcases List.mem_append.mp z with z | z
          · exact FY4.na z
          · split at z
            · cases z
            · exact hHM (List.mem_singleton.mp z).symm
        · rw [← hg, List.append_assoc]
      | @on _ _ r3 nn hR3 =>
        rw [decide_eq_false nn]
        refine ⟨_, rfl, ?_⟩
        refine if_so (b := !false) rfl ?_
        refine ⟨fun σ' H' => ∃ m', m' < m ∧ W m' σ' H', fun _ _ h => h, ?_⟩
        have all := nd_sub _ _ (hr0.nd mnd) (fun x hx => (List.mem_append.mp hx).elim (msub x) (hr0.sub (fun e he => wf.stp he) eT x))
        rw [← hall, List.length_append, List.length_append, List.length_cons] at all
        have ml := DpAll.length FY.md
        have hl := DpAll.length dH
        rw [List.length_map, List.length_append] at ml
        rw [List.length_map] at hl
        refine ⟨_, rfl, .inl ⟨rfl, _, SqL.of FY.m⟩, _, rfl, M, ms', u, rfl, rfl, FY.m, small2000 (by omega), ?_⟩
        have FY1 := FY.met du
        have eH1 : (upd Y M (.lst (ms' ++ [u]))) Hh = some (.lst hs) := by rw [upd_ne hHM]; exact eH
        have dH1 := ens_tp (Tp.upd (o := .lst (ms' ++ [u])) FY.m) dH
        have du1 := Dp.tp (Tp.upd (o := .lst (ms' ++ [u])) FY.m) _ (noL_en tip) du
        generalize upd Y M (.lst (ms' ++ [u])) = Y1 at FY1 eH1 dH1 du1
        refine ⟨_, rfl, .inl ⟨rfl, _, SqL.of eH1⟩, _, rfl, Hh, hs, u, rfl, rfl, eH1, small2000 (by omega), ?_⟩
        have FY2 := FY1.aside (o := .lst (hs ++ [u])) eH1 nHhH hHM hHF hHa
        have tp2 : Tp Y1 (upd Y1 Hh (.lst (hs ++ [u]))) := Tp.upd eH1
        have eH2 : (upd Y1 Hh (.lst (hs ++ [u]))) Hh = some (.lst (hs ++ [u])) := upd_same
        have dH2 : DpAll K (upd Y1 Hh (.lst (hs ++ [u]))) (hs ++ [u]) ((here ++ [tip]).map enD) := by
          rw [List.map_append]
          exact DpAll.app (ens_tp tp2 dH1) (.cons (Dp.tp tp2 _ (noL_en _) du1) .nil)
        have du2 := Dp.tp tp2 _ (noL_en tip) du1
        generalize upd Y1 Hh (.lst (hs ++ [u])) = Y2 at FY2 eH2 dH2 du2
        obtain ⟨b, rfl, hb2⟩ := en_ref du2
        refine ⟨_, rfl, _, rfl, _, tip, rfl, du2, fun T nT => ?_⟩
        have FY3 := FY2.next (same_new nT (o := .tup [.int (oth tip).1, .int (oth tip).2]))
        have eH3 := same_new nT (o := .tup [.int (oth tip).1, .int (oth tip).2]) _ _ eH2
        have dH3 := ens_tp (Tp.of (same_new nT (o := .tup [.int (oth tip).1, .int (oth tip).2]))) dH2
        have eT3 : (upd Y2 T (.tup [.int (oth tip).1, .int (oth tip).2])) T = some (.tup [.int (oth tip).1, .int (oth tip).2]) := upd_same
        generalize upd Y2 T (.tup [.int (oth tip).1, .int (oth tip).2]) = Y3 at FY3 eH3 dH3 eT3
        obtain ⟨v2, av, dv2⟩ := FY3.e.get wf.xnd (wf.step tT)
        refine ⟨D, v2, rfl, ⟨es, kyE (oth tip), T, .inl FY3.d, FY3.e.ky, rfl, en_at (en_new eT3), av.symm⟩, ?_⟩
        refine at_g (σ' := [some (.ref t), some (.ref D), some (.ref Fo), some (.ref M), some (.ref ta), some v2, some (.ref Hh)]) rfl ?_
        refine ⟨r3.length, by rw [← hm]; exact Nat.lt_succ_self _, ?_⟩
        rw [eW]
        refine ⟨here ++ [tip], r3, hs ++ [.ref b], ms' ++ [.ref b], v2, stp c tip, rfl, rfl, by rw [← List.append_assoc]; exact FY3, eH3, dH3, dv2, wf.stp tT, by rw [← List.append_assoc]; exact hR3, by rw [← hall, List.append_assoc]; rfl⟩
    · obtain ⟨Fo, ms, as, met, gs, rest, y5, y6, rfl, FZ, nFoZ, mnd, msub, hf, hg⟩ := h
      refine ⟨Fo, ms, as, met, gs, rest, _, y5, y6, rfl, FZ, nFoZ, mnd, msub, ?_, hg⟩
      rw [lx, List.drop_length, List.nil_append] at hf
      exact hf
  · obtain ⟨Fo, ms, as, met, gs, rest, y4, y5, y6, rfl, FZ, nFoZ, mnd, msub, hf, hg⟩ := h
    rw [lt, List.drop_length] at hf
    cases hf
    rw [List.append_nil] at hg
    subst hg
    refine ⟨_, rfl, (by show 0 ≤ sizeLine; decide), fun L nL => ?_⟩
    have F3 := FZ.next (same_new nL (o := .lst []))
    have eL : (upd Z L (.lst [])) L = some (.lst []) := upd_same
    generalize upd Z L (.lst []) = Z3 at F3 eL
    refine ⟨chL gs, .list [], F3.l.whole F3.f, .lst (.inl (.inl eL)) .nil, shp_fs gs, shp_nil, ?_⟩
    have ev : PyData.eqv (chL gs) (.list []) = gs.isEmpty := eqv_no _ _
    rw [ev]
    refine ⟨_, rfl, ?_⟩
    by_cases z : gs = []
    · refine if_no (by rw [z]; rfl) ?_
      refine ⟨(by show 0 ≤ sizeLine; decide), fun L2 nL2 => ⟨(by show 1 ≤ sizeLine; decide), fun L3 nL3 => ?_⟩⟩
      have F4 := F3.next (same_new nL2 (o := .lst []))
      have F5 := F4.next (same_new nL3 (o := .lst [.ref L2]))
      have e2 := same_new nL3 (o := .lst [.ref L2]) _ _ (upd_same : (upd Z3 L2 (.lst [])) L2 = some (.lst []))
      have e3 : (upd (upd Z3 L2 (.lst [])) L3 (.lst [.ref L2])) L3 = some (.lst [.ref L2]) := upd_same
      exact q L3 [[]] _ F5.s (F4.s.free nL3) (.lst (.inl (.inl e3)) (.cons (.lst (.inl (.inl e2)) .nil) .nil)) ⟨gs, hgall, by rw [if_pos z]⟩
    · refine if_so (by cases gs with
        | nil => exact absurd rfl z
        | cons _ _ => rfl) ?_
      exact ⟨_, rfl, q Fo gs _ F3.s nFoZ (F3.l.whole F3.f) ⟨gs, hgall, by rw [if_neg z]⟩⟩
end
end XL
namespace XL
open PySem PySem.Spec PyProof.Rows L2
abbrev sCo : Stmt := topS 26
/-- a corner: a basin, and a place ahead of which an end may be put -/
def Cor (K : PySem.W.Frag) (Z : Hp) (c : Cht) (x : V) : Prop := ∃ (s k : Nat) (a : List Tip), Dp K Z x (enD ((s : Int), (k : Int))) ∧ c[s]? = some a ∧ k ≤ a.length
theorem Cor.tp {K : PySem.W.Frag} {Z Z' : Hp} {c : Cht} {x : V} (h : Cor K Z c x) (t : Tp Z Z') : Cor K Z' c x := by
  obtain ⟨s, k, a, d, r⟩ := h
  exact ⟨s, k, a, Dp.tp t _ (noL_en _) d, r⟩
/-- lists of corners, each at its own place, none there before; so many at most in each -/
structure Lts (K : PySem.W.Frag) (c : Cht) (H Z : Hp) (as : List Addr) (xss : List (List V)) (N : Nat) : Prop where
  nd : as.Nodup
  nw : ∀ p ∈ as, H p = none
  l : xss.length = as.length
  d : ∀ (j : Nat) (p : Addr), as[j]? = some p → ∃ xs, xss[j]? = some xs ∧ Z p = some (.lst xs)
  ok : ∀ xs ∈ xss, xs.length ≤ N ∧ ∀ x ∈ xs, Cor K Z c x
section
variable {K : PySem.W.Frag} {c : Cht} {H Z Z' : Hp} {as : List Addr} {xss : List (List V)} {N : Nat}
theorem Lts.more (h : Lts K c H Z as xss N) {M : Nat} (m : N ≤ M) : Lts K c H Z as xss M := ⟨h.nd, h.nw, h.l, h.d, fun xs hx => ⟨Nat.le_trans (h.ok xs hx).1 m, (h.ok xs hx).2⟩⟩
theorem Lts.same (h : Lts K c H Z as xss N) (s : Same Z Z') : Lts K c H Z' as xss N := ⟨h.nd, h.nw, h.l, fun j p hp => let ⟨xs, a, b⟩ := h.d j p hp; ⟨xs, a, s _ _ b⟩, fun xs hx => ⟨(h.ok xs hx).1, fun x m => ((h.ok xs hx).2 x m).tp (Tp.of s)⟩⟩
theorem Lts.aside (h : Lts K c H Z as xss N) {p : Addr} {q o : HO} (e : Z p = some q) (nl : ∀ xs, q ≠ .lst xs) (nt : ∀ xs, q ≠ .tup xs) (nf : ∀ a xs, q ≠ .frz a (.tup xs)) : Lts K c H (upd Z p o) as xss N := by
  refine ⟨h.nd, h.nw, h.l, fun j r hr => ?_, fun xs hx => ⟨(h.ok xs hx).1, fun x m => ((h.ok xs hx).2 x m).tp (tp_at e nt nf)⟩⟩
  obtain ⟨xs, a, b⟩ := h.d j r hr
  refine ⟨xs, a, ?_⟩
  rw [upd_ne (fun z => by rw [z, e] at b; exact nl _ (Option.some.inj b))]
  exact b
theorem set_mem {α : Type} {l : List α} {i : Nat} {x y : α} (h : y ∈ l.set i x) : y = x ∨ y ∈ l := by
  rcases List.mem_or_eq_of_mem_set h with h | h
  · exact .inr h
  · exact .inl h
theorem Lts.put (h : Lts K c H Z as xss N) {j : Nat} {p : Addr} {xs : List V} {x : V} (hp : as[j]? = some p) (hx : xss[j]? = some xs) (cx : Cor K Z c x) : Lts K c H (upd Z p (.lst (xs ++ [x]))) as (xss.set j (xs ++ [x])) (N + 1) := by
  obtain ⟨xs', e1, e2⟩ := h.d j p hp
  obtain rfl := Option.some.inj (hx.symm.trans e1)
  have tp : Tp Z (upd Z p (.lst (xs ++ [x]))) := Tp.upd e2
  have hj := (List.getElem?_eq_some_iff.mp hx).1
  refine ⟨h.nd, h.nw, by rw [List.length_set]; exact h.l, fun i q hq => ?_, fun ys hy => ?_⟩
  · by_cases z : i = j
    · subst z
      obtain rfl := Option.some.inj (hp.symm.trans hq)
      exact ⟨xs ++ [x], by rw [List.getElem?_set_self hj], upd_same⟩
    · obtain ⟨ys, a, b⟩ := h.d i q hq
      refine ⟨ys, by rw [List.getElem?_set_ne (Ne.symm z)]; exact a, ?_⟩
      rw [upd_ne (fun w => by
        subst w
        exact z ((List.getElem?_inj (List.getElem?_eq_some_iff.mp hq).1 h.nd).mp (hq.trans hp.symm)))]
      exact b
  · rcases set_mem hy with rfl | hy
    · have o := h.ok xs (List.mem_iff_getElem?.mpr ⟨j, hx⟩)
      refine ⟨by rw [List.length_append, List.length_singleton]; omega, fun y m => ?_⟩
      rcases List.mem_append.mp m with m | m
      · exact (o.2 y m).tp tp
      · rw [List.mem_singleton.mp m]; exact cx.tp tp
    · have o := h.ok ys hy
      exact ⟨by omega, fun y m => (o.2 y m).tp tp⟩
end
theorem bb_at {fs : Cht} {i : Nat} {r : List Tip} (h : fs[i]? = some r) : bbE (fs.take (i + 1)) = bbE (fs.take i) ++ r.map fun e => (e, i) := by
  rw [take_snoc h, bb_snoc, List.length_take, Nat.min_eq_left (Nat.le_of_lt (List.getElem?_eq_some_iff.mp h).1)]
theorem bb_pre (fs : Cht) (i k : Nat) (r : List Tip) : (bbE (fs.take i) ++ (r.take k).map fun e => (e, i)).map (·.1) = (fs.take i).flatten ++ r.take k := by
  rw [List.map_append, bb_keys, List.map_map]
  congr 1
  exact List.map_id _
theorem rows_l {K : PySem.W.Frag} {H : Hp} {v : V} {c : Cht} (h : Dp K H v (chL c)) : ∃ t us, v = .ref t ∧ SqL K H t us ∧ us.length = c.length ∧ ∀ (i : Nat) (u : V), us[i]? = some u → ∃ a, c[i]? = some a ∧ Dp K H u (.list (a.map enD)) := by
  cases h with
  | lst hs ha =>
    refine ⟨_, _, rfl, hs, by rw [DpAll.length ha, List.length_map], fun i u hu => ?_⟩
    obtain ⟨d, hd, du⟩ := DpAll.get ha hu
    rw [List.getElem?_map] at hd
    obtain ⟨a, ea, rfl⟩ := Option.map_eq_some_iff.mp hd
    exact ⟨a, ea, du⟩
theorem row_l {K : PySem.W.Frag} {H : Hp} {v : V} {a : List Tip} (h : Dp K H v (.list (a.map enD))) : ∃ t xs, v = .ref t ∧ SqL K H t xs ∧ xs.length = a.length ∧ ∀ (i : Nat) (x : V), xs[i]? = some x → ∃ e, a[i]? = some e ∧ Dp K H x (enD e) := by
  cases h with
  | lst hs ha =>
    refine ⟨_, _, rfl, hs, by rw [DpAll.length ha, List.length_map], fun i x hx => ?_⟩
    obtain ⟨d, hd, du⟩ := DpAll.get ha hx
    rw [List.getElem?_map] at hd
    obtain ⟨e, ea, rfl⟩ := Option.map_eq_some_iff.mp hd
    exact ⟨e, ea, du⟩
/-- what stands while corners are put together -/
structure Cst (P : Program) (w : World) (K : PySem.W.Frag) (c : Cht) (H Z : Hp) (D Fo : Addr) (as : List Addr) (xss : List (List V)) (N : Nat) (es : List NE) (bs : List (Tip × Nat)) : Prop where
  s : Same H Z
  nD : H D = none
  nF : H Fo = none
  d : Z D = some (DNo P w D es)
  e : EnE K Z RN es bs
  f : Z Fo = some (.lst (as.map V.ref))
  l : Lts K c H Z as xss N
  na : Fo ∉ as
theorem key_one {β : Type} : ∀ {l : List (Tip × β)}, (l.map (·.1)).Nodup → ∀ {k : Tip} {v w : β}, (k, v) ∈ l → (k, w) ∈ l → v = w
  | [], _, _, _, _, h, _ => absurd h (by simp)
  | p :: l, nd, k, v, w, h1, h2 => by
    rw [List.map_cons, List.nodup_cons] at nd
    rcases List.mem_cons.mp h1 with e1 | h1 <;> rcases List.mem_cons.mp h2 with e2 | h2
    · exact congrArg Prod.snd (e1.trans e2.symm)
    · exact absurd (List.mem_map.mpr ⟨_, h2, by rw [← e1]⟩) nd.1
    · exact absurd (List.mem_map.mpr ⟨_, h1, by rw [← e2]⟩) nd.1
    · exact key_one nd.2 h1 h2
theorem whr_at {fs : Cht} (nd : fs.flatten.Nodup) {j : Nat} {r : List Tip} {t : Tip} (hr : fs[j]? = some r) (ht : t ∈ r) : t ∈ fs.flatten ∧ whr fs t = j := by
  have m : t ∈ fs.flatten := List.mem_flatten.mpr ⟨r, List.mem_iff_getElem?.mpr ⟨j, hr⟩, ht⟩
  exact ⟨m, key_one (by rw [bb_keys]; exact nd) (whr_mem m) (bb_mem.mpr ⟨r, hr, ht⟩)⟩
theorem ne_put {xss : List (List V)} {j m : Nat} {xs : List V} {x : V} (hx : xss[j]? = some xs) (h : ∃ ys, xss[m]? = some ys ∧ ys ≠ []) : ∃ ys, (xss.set j (xs ++ [x]))[m]? = some ys ∧ ys ≠ [] := by
  obtain ⟨ys, e, n⟩ := h
  by_cases z : j = m
  · subst z
    exact ⟨xs ++ [x], by rw [List.getElem?_set_self (List.getElem?_eq_some_iff.mp hx).1], by simp⟩
  · exact ⟨ys, by rw [List.getElem?_set_ne z]; exact e, n⟩
theorem RN.mono {H H' : Hp} : ∀ b v, RN H b v → RN H' b v := fun _ _ h => h
section
variable {P : Program} {w : World} {K : PySem.W.Frag} {c : Cht} {H Z Z' : Hp} {D Fo : Addr} {as : List Addr} {xss : List (List V)} {N : Nat} {es : List NE} {bs : List (Tip × Nat)}
theorem Cst.next (h : Cst P w K c H Z D Fo as xss N es bs) (s : Same Z Z') : Cst P w K c H Z' D Fo as xss N es bs := ⟨h.s.trans s, h.nD, h.nF, s _ _ h.d, h.e.move (Tp.of s) RN.mono, s _ _ h.f, h.l.same s, h.na⟩
theorem Cst.more (h : Cst P w K c H Z D Fo as xss N es bs) {M : Nat} (m : N ≤ M) : Cst P w K c H Z D Fo as xss M es bs := ⟨h.s, h.nD, h.nF, h.d, h.e, h.f, h.l.more m, h.na⟩
theorem Cst.key (h : Cst P w K c H Z D Fo as xss N es bs) {b : Addr} {e : Tip} {j : Nat} (db : Dp K Z (.ref b) (enD e)) : Cst P w K c H (upd Z D (DNo P w D (es ++ [(kyE e, b, .int (j : Nat))]))) D Fo as xss N (es ++ [(kyE e, b, .int (j : Nat))]) (bs ++ [(e, j)]) := by
  have tp := tp_dno (o := DNo P w D (es ++ [(kyE e, b, .int (j : Nat))])) h.d
  have nf : Fo ≠ D := fun z => by have := h.f; rw [z, h.d] at this; exact HO.noConfusion (Option.some.inj this)
  refine ⟨fun q o e => by rw [upd_ne (fun z => by rw [z, h.nD] at e; cases e)]; exact h.s _ _ e, h.nD, h.nF, upd_same, (h.e.snoc db rfl).move tp RN.mono, by rw [upd_ne nf]; exact h.f, ?_, h.na⟩
  exact h.l.aside h.d (fun _ z => HO.noConfusion z) (fun _ z => HO.noConfusion z) fun _ _ z => HO.noConfusion z
theorem Cst.put (h : Cst P w K c H Z D Fo as xss N es bs) {j : Nat} {p : Addr} {xs : List V} {x : V} (hp : as[j]? = some p) (hx : xss[j]? = some xs) (cx : Cor K Z c x) : Cst P w K c H (upd Z p (.lst (xs ++ [x]))) D Fo as (xss.set j (xs ++ [x])) (N + 1) es bs := by
  obtain ⟨xs', e1, e2⟩ := h.l.d j p hp
  have tp : Tp Z (upd Z p (.lst (xs ++ [x]))) := Tp.upd e2
  have hm : p ∈ as := List.mem_iff_getElem?.mpr ⟨j, hp⟩
  have nd : D ≠ p := fun z => by have := h.d; rw [z, e2] at this; exact HO.noConfusion (Option.some.inj this)
  have nf : Fo ≠ p := fun z => h.na (by rw [z]; exact hm)
  exact ⟨fun q o e => by rw [upd_ne (fun z => by rw [z, h.l.nw p hm] at e; cases e)]; exact h.s _ _ e, h.nD, h.nF, by rw [upd_ne nd]; exact h.d, h.e.move tp RN.mono, by rw [upd_ne nf]; exact h.f, h.l.put hp hx cx, h.na⟩
end
section
variable {P : Program} {w : World} {K : PySem.W.Frag} {mg : Str → Option Value} {base : Heap}
/-! ### corners -/
abbrev nCo : List Str := ["_law_rounds_here", "_law_chart_here", "_law_face_by", "_law_found", "_law_number", "_law_here", "_law_tip", "_law_spot", "_law_around", "_law_k", "_law_one"]
theorem scCo : FnScope nCo ["_law_rounds_here", "_law_chart_here"] (defScope sCo) := ⟨rfl, rfl, rfl, by decide +kernel, rfl, by decide +kernel, by decide +kernel⟩
def spCo (K : PySem.W.Frag) : Sp := fun vs H Q _ => ∃ (v u : V) (c fs : Cht) (n : Nat), vs = [v, u] ∧ Dp K H v (chL fs) ∧ Dp K H u (chL c) ∧ WfC n c ∧ IsF c fs ∧ c ≠ [] ∧ c.length ≤ 100 ∧ n ≤ 100 ∧
  ∀ (p : Addr) (as : List Addr) (xss : List (List V)) (H' : Hp), Same H H' → H p = none → H' p = some (.lst (as.map V.ref)) → as ≠ [] → as.length ≤ 300 → Lts K c H H' as xss 400 → (∀ xs ∈ xss, xs ≠ []) → Q (.ref p) H'
theorem ok_co {f : Addr} {fd : FuncData} {k : Nat} (F : Fun K "_law_corners" "_law_corners" sCo f fd) (m_enumerate : mg "enumerate" = none) : FnOk P w K mg base CX0 (k + 1) f fd ["_law_rounds_here", "_law_chart_here"] (spCo K) := by
  refine F.ok scCo (fun vs H Q E h => ?_) (fun cdv A outer s0 H vs Q E hr h => ?_)
  · obtain ⟨v, u, c, fs, n, rfl, _⟩ := h
    rfl
  obtain ⟨v, u, c, fs, n, rfl, hv, hu, wf, isf, cne, cl, hn, q⟩ := h
  refine ⟨_, (pss_cons (ps_par (i := 2) (j := 3) rfl scCo.nd rfl rfl (by decide) rfl rfl (pa_cons pe_ndnew (pa_cons (pe_lc (own := [("_law_one", 10)]) (g := gName 10) (tt := tYes) rfl scCo.nd (pi_seqA rfl (pv 0)) (blkOk_by (own := [("_law_one", 10)]) (N := nCo) (sc := defScope sCo) (by decide +kernel)) (fun _ _ _ _ _ => (pg_name (i := 10) scCo.nd rfl (.inl rfl))) (fun _ _ _ _ _ => pts_nil) (fun _ _ _ _ _ => pe_hide (pe_lst pa_nil))) pa_nil)) rfl)
    (pss_cons (ps_for PassesOwn.never rfl (pi_enumA rfl m_enumerate (pa_cons (pv 0) pa_nil)) (pg_any rfl (pgs_cons (pg_name (i := 4) scCo.nd rfl (.inl rfl)) (pgs_cons (pg_name (i := 5) scCo.nd rfl (.inl rfl)) pgs_nil)))
    (pss_one (ps_for PassesOwn.never rfl (pi_seqA rfl (pv 5)) (pg_name (i := 6) scCo.nd rfl (.inl rfl))
    (pss_one (ps_nput (hu10 hr.units) (pv 2) (pv 6) (pv 4) rfl)))))
    (pss_cons (ps_for PassesOwn.never rfl (pi_enumA rfl m_enumerate (pa_cons (pv 1) pa_nil)) (pg_any rfl (pgs_cons (pg_name (i := 7) scCo.nd rfl (.inl rfl)) (pgs_cons (pg_name (i := 8) scCo.nd rfl (.inl rfl)) pgs_nil)))
    (pss_cons (ps_for PassesOwn.never rfl (pi_enumA rfl m_enumerate (pa_cons (pv 8) pa_nil)) (pg_any rfl (pgs_cons (pg_name (i := 9) scCo.nd rfl (.inl rfl)) (pgs_cons (pg_name (i := 6) scCo.nd rfl (.inl rfl)) pgs_nil)))
    (pss_one (ps_expr (pe_bm PySem.F.plainAttrs_list PySem.F.slot_list_append PySem.F.type_list_append mt_append (pe_ix (r := rIxA K) ix_any (pv 3) (pe_nget (hu10 hr.units) (pv 2) (pv 6) (fun _ _ => rfl)) (fun _ _ => rfl)) (pa_cons (pe_tup (pa_cons (pv 7) (pa_cons (pv 9) pa_nil))) pa_nil)))))
    (pss_one (ps_if (pt_cmpR (op_eqD hr.units) (pv 8) (pe_lst pa_nil) (nomark _)) (pss_one (ps_expr (pe_bm PySem.F.plainAttrs_list PySem.F.slot_list_append PySem.F.type_list_append mt_append (pe_ix (r := rIxA K) ix_any (pv 3) pe_int (fun _ _ => rfl)) (pa_cons (pe_tup (pa_cons (pv 7) (pa_cons pe_int pa_nil))) pa_nil)))) pss_nil))))
    (pss_one (ps_ret (pv 3)))))), ?_⟩
  obtain ⟨tf, ufs, rfl, htf, ltf, rowf⟩ := rows_l hv
  obtain ⟨tc, ucs, rfl, htc, ltc, rowc⟩ := rows_l hu
  obtain ⟨fp, fne, fz, fnz⟩ := wf.isF isf
  have fnd : fs.flatten.Nodup := fp.nodup_iff.mpr wf.nd
  have flen := wf.len
  have ffl := fp.length_eq
  have fsl : fs.length ≤ 300 := by
    by_cases z : c.flatten = []
    · rw [fz z]; decide
    · have := flat_len (fnz z); omega
  refine fun D nD => ?_
  have sD := same_new nD (o := DNo P w D [])
  have eD : (upd H D (DNo P w D [])) D = some (DNo P w D []) := upd_same
  refine ⟨_, rfl, tf, ufs, true, fun Y => SqL K Y tf ufs, rfl, sD.seq htf, fun _ h => h, fun J wk => lc_acc wk (fun i acc F => Same H F ∧ F D = some (DNo P w D []) ∧ ∃ as : List Addr, acc = as.map V.ref ∧ as.length = i ∧ as.Nodup ∧ ∀ p ∈ as, H p = none ∧ F p = some (.lst [])) (by rw [ltf]; exact small2000 (by omega)) ⟨sD, eD, [], rfl, rfl, List.nodup_nil, by simp⟩ (fun i F D' acc h nD' => ?_) (fun i x D' acc F H' hi nD1 h nD' hy B hB => ?_) (fun D' ys F nD1 h nD' hl => ?_)⟩
  · exact (h.1.trans (same_new nD')).seq htf
  · obtain ⟨rfl, hx⟩ := hy
    refine at_g rfl ?_
    refine hB _ _ rfl nD' fun Qt hQ => ?_
    refine ⟨(by show 0 ≤ sizeLine; decide), fun L nL => hQ _ _ ?_⟩
    obtain ⟨s1, e1, as, rfl, la, nd, all⟩ := h
    have nLH : H L = none := s1.free nL
    have nLa : L ∉ as := fun z => by have := (all L z).2; rw [nL] at this; cases this
    refine ⟨s1.trans (same_new nL), same_new nL _ _ e1, as ++ [L], by rw [List.map_append]; rfl, by rw [List.length_append, la]; rfl, List.nodup_append.mpr ⟨nd, by simp, fun a ha b hb => by
      rw [List.mem_singleton.mp hb]
      exact fun z => nLa (by rw [← z]; exact ha)⟩, fun p hp => ?_⟩
    rcases List.mem_append.mp hp with hp | hp
    · exact ⟨(all p hp).1, same_new nL _ _ (all p hp).2⟩
    · rw [List.mem_singleton.mp hp]
      exact ⟨nLH, upd_same⟩
  · obtain ⟨s1, e1, as, rfl, la, nd, all⟩ := h
    refine ⟨_, _, rfl, ?_⟩
    have nDH' : H D' = none := s1.free nD'
    have hna : D' ∉ as := fun z => by have := (all D' z).2; rw [nD'] at this; cases this
    have C0 : Cst P w K c H (upd F D' (.lst (as.map V.ref))) D D' as (List.replicate fs.length []) 0 [] [] :=
      ⟨s1.trans (same_new nD'), nD, nDH', same_new nD' _ _ e1, EnE.nil, upd_same, ⟨nd, fun p hp => (all p hp).1, by rw [List.length_replicate, la, ltf], fun j p hp => by
        have hj := (List.getElem?_eq_some_iff.mp hp).1
        refine ⟨[], ?_, same_new nD' _ _ (all p (List.mem_iff_getElem?.mpr ⟨j, hp⟩)).2⟩
        rw [List.getElem?_replicate, if_pos (by omega)], fun xs hx => by rw [(List.mem_replicate.mp hx).2]; exact ⟨Nat.le_refl _, by simp⟩⟩, hna⟩
    refine at_s (σ' := [some (.ref tf), some (.ref tc), some (.ref D), some (.ref D'), none, none, none, none, none, none, none]) rfl ?_
    refine at_h (fun G => Cst P w K c H G D D' as (List.replicate fs.length []) 0 [] []) C0 fun H2 C2 => ?_
    have las : as.length = fs.length := by omega
    clear C0 s1 e1 nd all nD' nD1 sD eD hna
    refine ⟨_, rfl, tf, ufs, true, fun Y => SqB K true Y tf ufs, rfl, C2.s.seq htf, fun _ h => h, fun J wk => for_it wk (fun i σ Z => ∃ (es : List NE) (y4 y5 y6 : Option V), σ = [some (.ref tf), some (.ref tc), some (.ref D), some (.ref D'), y4, y5, y6, none, none, none, none] ∧ Cst P w K c H Z D D' as (List.replicate fs.length []) 0 es (bbE (fs.take i))) ⟨[], none, none, none, rfl, C2⟩ (fun i σ Z _ h => ?_) (fun i x σ Z Z' hi h hy => ?_) (fun σ Z h => ?_)⟩
    · obtain ⟨es, y4, y5, y6, rfl, CZ⟩ := h
      exact CZ.s.seq htf
    · obtain ⟨es, y4, y5, y6, rfl, CZ⟩ := h
      obtain ⟨T, x0, x1, rfl, nT, rfl, hi0, hx1⟩ := hy
      obtain rfl := Option.some.inj hi0
      obtain ⟨r, hr1, dr⟩ := rowf i x1 hx1
      obtain ⟨tr, rs, rfl, hrs, lr, getr⟩ := row_l dr
      have C1 := CZ.next (same_new nT (o := .tup [.int (i : Int), .ref tr]))
      have uT : (upd Z T (.tup [.int (i : Int), .ref tr])) T = some (.tup [.int (i : Int), .ref tr]) := upd_same
      generalize upd Z T (.tup [.int (i : Int), .ref tr]) = Z1 at C1 uT
      refine ⟨T, _, rfl, .inr (.inl (.inl uT)), rfl, ?_⟩
      refine ⟨_, _, rfl, ?_⟩
      refine at_g (σ' := [some (.ref tf), some (.ref tc), some (.ref D), some (.ref D'), some (.int (i : Int)), y5, y6, none, none, none, none]) rfl ?_
      refine ⟨_, _, rfl, ?_⟩
      refine at_g (σ' := [some (.ref tf), some (.ref tc), some (.ref D), some (.ref D'), some (.int (i : Int)), some (.ref tr), y6, none, none, none, none]) rfl ?_
      refine ⟨rfl, ?_⟩
      refine ⟨_, rfl, tr, rs, true, fun Y => SqB K true Y tr rs, rfl, C1.s.seq hrs, fun _ h => h, fun J wk => for_it wk (fun k σ Z => ∃ (es : List NE) (y6 : Option V), σ = [some (.ref tf), some (.ref tc), some (.ref D), some (.ref D'), some (.int (i : Int)), some (.ref tr), y6, none, none, none, none] ∧ Cst P w K c H Z D D' as (List.replicate fs.length []) 0 es (bbE (fs.take i) ++ (r.take k).map fun e => (e, i))) ⟨es, y6, rfl, by rw [List.take_zero, List.map_nil, List.append_nil]; exact C1⟩ (fun k σ Z _ h => ?_) (fun k x σ Z Z' hk h hy => ?_) (fun σ Z h => ?_)⟩
      · obtain ⟨es, y6, rfl, CZ⟩ := h
        exact CZ.s.seq hrs
      · obtain ⟨es, y6, rfl, CZ⟩ := h
        obtain ⟨rfl, hx⟩ := hy
        obtain ⟨e, he, de⟩ := getr k x hx
        obtain ⟨b, rfl, _⟩ := en_ref de
        have dY := Dp.same CZ.s _ de
        have no : atN es (kyE e) = none := CZ.e.none (by rw [bb_pre]; exact new_at fnd hr1 he)
        have len : es.length < fs.flatten.length := by
          rw [CZ.e.l, ← List.length_map (f := Prod.fst), bb_pre]
          exact len_at hr1 he
        refine at_g (σ' := [some (.ref tf), some (.ref tc), some (.ref D), some (.ref D'), some (.int (i : Int)), some (.ref tr), some (.ref b), none, none, none, none]) rfl ?_
        refine ⟨_, rfl, _, rfl, _, rfl, D, _, rfl, ⟨es, kyE e, b, CZ.d, CZ.e.ky, rfl, en_at dY, no, small2000 (by omega), rfl⟩, ?_⟩
        refine ⟨es ++ [(kyE e, b, .int (i : Nat))], _, rfl, ?_⟩
        rw [take_snoc he, List.map_append, ← List.append_assoc]
        exact CZ.key dY
      · obtain ⟨es, y6, rfl, CZ⟩ := h
        refine ⟨es, _, _, y6, rfl, ?_⟩
        rw [lr, List.take_length] at CZ
        rw [bb_at hr1]
        exact CZ
    · obtain ⟨es, y4, y5, y6, rfl, CZ⟩ := h
      rw [ltf, List.take_length] at CZ
      clear C2
      obtain ⟨Pv, ePv⟩ : ∃ Pv : Nat → L2.St → Hp → Prop, Pv = fun i σ Z => ∃ (xss : List (List V)) (y6 y7 y8 y9 : Option V), σ = [some (.ref tf), some (.ref tc), some (.ref D), some (.ref D'), y4, y5, y6, y7, y8, y9, none] ∧ Cst P w K c H Z D D' as xss ((c.take i).flatten.length + i) es (bbE fs) ∧ (∀ t ∈ (c.take i).flatten, ∃ xs, xss[whr fs t]? = some xs ∧ xs ≠ []) ∧ ((∃ m, m < i ∧ c[m]? = some []) → ∃ xs, xss[0]? = some xs ∧ xs ≠ []) := ⟨_, rfl⟩
      refine ⟨_, rfl, tc, ucs, true, fun Y => SqB K true Y tc ucs, rfl, CZ.s.seq htc, fun _ h => h, fun J wk => for_it wk Pv (by rw [ePv]; exact ⟨_, y6, none, none, none, rfl, CZ, by simp, fun ⟨m, hm, _⟩ => absurd hm (Nat.not_lt_zero _)⟩) (fun i σ Z _ h => ?_) (fun i x σ Z Z' hi h hy => ?_) (fun σ Z h => ?_)⟩
      · rw [ePv] at h
        obtain ⟨xss, y6, y7, y8, y9, rfl, CZ, _⟩ := h
        exact CZ.s.seq htc
      · have h0 := h
        rw [ePv] at h
        obtain ⟨xss, y6, y7, y8, y9, rfl, CZ, don, emp⟩ := h
        obtain ⟨T, x0, x1, rfl, nT, rfl, hi0, hx1⟩ := hy
        obtain rfl := Option.some.inj hi0
        obtain ⟨a, ha, da⟩ := rowc i x1 hx1
        obtain ⟨ta, xs, rfl, hxs, lx, get1⟩ := row_l da
        have C1 := CZ.next (same_new nT (o := .tup [.int (i : Int), .ref ta]))
        have uT : (upd Z T (.tup [.int (i : Int), .ref ta])) T = some (.tup [.int (i : Int), .ref ta]) := upd_same
        generalize upd Z T (.tup [.int (i : Int), .ref ta]) = Z1 at C1 uT
        refine ⟨T, _, rfl, .inr (.inl (.inl uT)), rfl, ?_⟩
        refine ⟨_, _, rfl, ?_⟩
        refine at_g (σ' := [some (.ref tf), some (.ref tc), some (.ref D), some (.ref D'), y4, y5, y6, some (.int (i : Int)), y8, y9, none]) rfl ?_
        refine ⟨_, _, rfl, ?_⟩
        refine at_g (σ' := [some (.ref tf), some (.ref tc), some (.ref D), some (.ref D'), y4, y5, y6, some (.int (i : Int)), some (.ref ta), y9, none]) rfl ?_
        refine ⟨rfl, ?_⟩
        refine ⟨_, rfl, ta, xs, true, fun Y => SqB K true Y ta xs, rfl, C1.s.seq hxs, fun _ h => h, fun J wk => for_it wk (fun k σ Z => ∃ (xss : List (List V)) (y6 y9 : Option V), σ = [some (.ref tf), some (.ref tc), some (.ref D), some (.ref D'), y4, y5, y6, some (.int (i : Int)), some (.ref ta), y9, none] ∧ Cst P w K c H Z D D' as xss ((c.take i).flatten.length + i + k) es (bbE fs) ∧ (∀ t ∈ (c.take i).flatten ++ a.take k, ∃ xs, xss[whr fs t]? = some xs ∧ xs ≠ []) ∧ ((∃ m, m < i ∧ c[m]? = some []) → ∃ xs, xss[0]? = some xs ∧ xs ≠ [])) ⟨xss, y6, y9, rfl, C1, by rw [List.take_zero, List.append_nil]; exact don, emp⟩ (fun k σ Z _ h => ?_) (fun k x σ Z Z' hk h hy => ?_) (fun σ Z h => ?_)⟩
        · obtain ⟨xss, y6, y9, rfl, CZ, _⟩ := h
          exact CZ.s.seq hxs
        · clear don emp CZ C1 uT
          obtain ⟨xss, y6, y9, rfl, CZ, don, emp⟩ := h
          obtain ⟨T2, x0, x1, rfl, nT2, rfl, hk0, hx2⟩ := hy
          obtain rfl := Option.some.inj hk0
          obtain ⟨e, he, de⟩ := get1 k x1 hx2
          obtain ⟨b, rfl, _⟩ := en_ref de
          have C1 := CZ.next (same_new nT2 (o := .tup [.int (k : Int), .ref b]))
          have uT : (upd Z T2 (.tup [.int (k : Int), .ref b])) T2 = some (.tup [.int (k : Int), .ref b]) := upd_same
          generalize upd Z T2 (.tup [.int (k : Int), .ref b]) = Z1 at C1 uT
          refine ⟨T2, _, rfl, .inr (.inl (.inl uT)), rfl, ?_⟩
          refine ⟨_, _, rfl, ?_⟩
          refine at_g (σ' := [some (.ref tf), some (.ref tc), some (.ref D), some (.ref D'), y4, y5, y6, some (.int (i : Int)), some (.ref ta), some (.int (k : Int)), none]) rfl ?_
          refine ⟨_, _, rfl, ?_⟩
          refine at_g (σ' := [some (.ref tf), some (.ref tc), some (.ref D), some (.ref D'), y4, y5, some (.ref b), some (.int (i : Int)), some (.ref ta), some (.int (k : Int)), none]) rfl ?_
          refine ⟨rfl, ?_⟩
          have dY := Dp.same C1.s _ de
          have eT : e ∈ fs.flatten := fp.mem_iff.mpr (mem_at ha he)
          obtain ⟨v2, av, rfl⟩ := C1.e.get (by rw [bb_keys]; exact fnd) (whr_mem eT)
          have wl := whr_lt eT
          have hp : as[whr fs e]? = some (as[whr fs e]'(by omega)) := List.getElem?_eq_getElem _
          generalize as[whr fs e]'(by omega) = p at hp
          obtain ⟨qs, hq1, hq2⟩ := C1.l.d _ _ hp
          have o1 := (C1.l.ok qs (List.mem_iff_getElem?.mpr ⟨_, hq1⟩)).1
          have la := len_at ha he
          have ka := (List.getElem?_eq_some_iff.mp he).1
          rw [List.length_append, List.length_take] at la
          refine ⟨_, rfl, _, rfl, _, rfl, D, _, rfl, ⟨es, kyE e, b, .inl C1.d, C1.e.ky, rfl, en_at dY, av.symm⟩, D', _, _, .ref p, rfl, rfl, .inl (SqL.of C1.f), ?_, ?_⟩
          · exact atI_nat (by rw [List.getElem?_map, hp]; rfl)
          refine ⟨.inl ⟨rfl, _, SqL.of hq2⟩, _, rfl, _, rfl, (by show 2 ≤ sizeLine; decide), fun T3 nT3 => ?_⟩
          have C3 := C1.next (same_new nT3 (o := .tup [.int (i : Int), .int (k : Int)]))
          have e3 := same_new nT3 (o := .tup [.int (i : Int), .int (k : Int)]) _ _ hq2
          have u3 : (upd Z1 T3 (.tup [.int (i : Int), .int (k : Int)])) T3 = some (.tup [.int (i : Int), .int (k : Int)]) := upd_same
          generalize upd Z1 T3 (.tup [.int (i : Int), .int (k : Int)]) = Z3 at C3 e3 u3
          have cor : Cor K Z3 c (.ref T3) := ⟨i, k, a, en_new (e := ((i : Int), (k : Int))) u3, ha, Nat.le_of_lt (List.getElem?_eq_some_iff.mp he).1⟩
          refine ⟨p, qs, .ref T3, rfl, rfl, e3, small2000 (by omega), ?_⟩
          refine ⟨_, some (.ref b), some (.int (k : Int)), rfl, C3.put hp hq1 cor, fun t ht => ?_, fun h => ne_put hq1 (emp h)⟩
          rw [take_snoc he, ← List.append_assoc] at ht
          rcases List.mem_append.mp ht with ht | ht
          · exact ne_put hq1 (don t ht)
          · rw [List.mem_singleton.mp ht]
            exact ⟨qs ++ [.ref T3], by rw [List.getElem?_set_self (List.getElem?_eq_some_iff.mp hq1).1], by simp⟩
        · clear don emp CZ C1 uT
          obtain ⟨xss, y6, y9, rfl, CZ, don, emp⟩ := h
          rw [lx, List.take_length] at don
          rw [lx] at CZ
          have ffn : (c.take (i + 1)).flatten.length = (c.take i).flatten.length + a.length := by rw [flat_snoc ha, List.length_append]
          have few : (c.take (i + 1)).flatten.length ≤ c.flatten.length := by
            have := congrArg List.length (congrArg List.flatten (List.take_append_drop (i + 1) c))
            rw [List.flatten_append, List.length_append] at this
            omega
          refine ⟨_, rfl, (by show 0 ≤ sizeLine; decide), fun L nL => ?_⟩
          have C2 := CZ.next (same_new nL (o := .lst []))
          have eL : (upd Z L (.lst [])) L = some (.lst []) := upd_same
          generalize upd Z L (.lst []) = Z2 at C2 eL
          refine ⟨.list (a.map enD), .list [], Dp.same C2.s _ da, .lst (.inl (.inl eL)) .nil, shp_ens _, shp_nil, ?_⟩
          rw [eqv_no]
          refine ⟨_, rfl, ?_⟩
          rw [ePv]
          by_cases z : a = []
          · refine if_so (by rw [z]; rfl) ?_
            have hp : as[0]? = some (as[0]'(by have := List.length_pos_iff.mpr fne; omega)) := List.getElem?_eq_getElem _
            generalize as[0]'(by have := List.length_pos_iff.mpr fne; omega) = p at hp
            obtain ⟨qs, hq1, hq2⟩ := C2.l.d _ _ hp
            have o1 := (C2.l.ok qs (List.mem_iff_getElem?.mpr ⟨_, hq1⟩)).1
            have ic := (List.getElem?_eq_some_iff.mp ha).1
            refine ⟨_, rfl, D', _, 0, .ref p, rfl, rfl, .inl (SqL.of C2.f), atI_nat (j := 0) (by rw [List.getElem?_map, hp]; rfl), .inl ⟨rfl, _, SqL.of hq2⟩, _, rfl, (by show 2 ≤ sizeLine; decide), fun T3 nT3 => ?_⟩
            have C3 := C2.next (same_new nT3 (o := .tup [.int (i : Int), .int 0]))
            have e3 := same_new nT3 (o := .tup [.int (i : Int), .int 0]) _ _ hq2
            have u3 : (upd Z2 T3 (.tup [.int (i : Int), .int 0])) T3 = some (.tup [.int (i : Int), .int 0]) := upd_same
            generalize upd Z2 T3 (.tup [.int (i : Int), .int 0]) = Z3 at C3 e3 u3
            have cor : Cor K Z3 c (.ref T3) := ⟨i, 0, a, en_new (e := ((i : Int), (0 : Int))) u3, ha, Nat.zero_le _⟩
            refine ⟨p, qs, .ref T3, rfl, rfl, e3, small2000 (by omega), ?_⟩
            refine ⟨_, y6, some (.int (i : Int)), some (.ref ta), y9, rfl, (C3.put hp hq1 cor).more (by omega), fun t ht => ?_, fun _ => ⟨qs ++ [.ref T3], by rw [List.getElem?_set_self (List.getElem?_eq_some_iff.mp hq1).1], by simp⟩⟩
            rw [flat_snoc ha] at ht
            exact ne_put hq1 (don t ht)
          · refine if_no (by cases a with
              | nil => exact absurd rfl z
              | cons _ _ => rfl) ?_
            refine ⟨xss, y6, some (.int (i : Int)), some (.ref ta), y9, rfl, C2.more (by omega), fun t ht => ?_, fun ⟨m, hm, hc⟩ => ?_⟩
            · rw [flat_snoc ha] at ht
              exact don t ht
            · by_cases mi : m = i
              · subst mi
                rw [ha] at hc
                exact absurd (Option.some.inj hc) z
              · exact emp ⟨m, by omega, hc⟩
      · rw [ePv] at h
        obtain ⟨xss, y6, y7, y8, y9, rfl, CZ, don, emp⟩ := h
        rw [ltc] at CZ don emp
        rw [List.take_length] at CZ don
        refine ⟨_, rfl, q D' as xss Z CZ.s CZ.nF CZ.f (fun z => by
          have := List.length_pos_iff.mpr fne
          rw [z] at las
          simp at las
          omega) (by omega) (CZ.l.more (by omega)) fun xs hx => ?_⟩
        obtain ⟨j, hj⟩ := List.mem_iff_getElem?.mp hx
        have jl : j < fs.length := by
          have := (List.getElem?_eq_some_iff.mp hj).1
          rw [CZ.l.l] at this
          omega
        by_cases z : c.flatten = []
        · have f1 := fz z
          subst f1
          obtain rfl : j = 0 := by simp at jl; omega
          have c0 : c[0]? = some [] := by
            cases c with
            | nil => exact absurd rfl cne
            | cons a c =>
              rw [List.flatten_cons, List.append_eq_nil_iff] at z
              rw [z.1]; rfl
          obtain ⟨ys, h1, h2⟩ := emp ⟨0, List.length_pos_iff.mpr cne, c0⟩
          rw [hj] at h1
          obtain rfl := Option.some.inj h1
          exact h2
        · have hr : fs[j]? = some fs[j] := List.getElem?_eq_getElem jl
          have hne := fnz z fs[j] (List.getElem_mem _)
          obtain ⟨t, ht⟩ := List.exists_mem_of_ne_nil _ hne
          obtain ⟨m1, m2⟩ := whr_at fnd hr ht
          obtain ⟨ys, h1, h2⟩ := don t (fp.mem_iff.mp m1)
          rw [m2, hj] at h1
          obtain rfl := Option.some.inj h1
          exact h2
end
end XL
namespace XL
open PySem PySem.Spec PyProof.Rows L2
/-! ### a map hangs together: no tips but all are closed under rows and locks -/
structure Hng (c : Cht) : Prop where
  all : ∀ P : Tip → Prop, (∀ a ∈ c, ∀ e ∈ a, ∀ e' ∈ a, P e → P e') → (∀ e ∈ c.flatten, P e → P (oth e)) → ∀ e0 ∈ c.flatten, P e0 → ∀ e ∈ c.flatten, P e
  one : ∀ a ∈ c, a = [] → c.length = 1
theorem hng_bare : Hng [[]] := ⟨fun P _ _ e0 h => by simp at h, fun a h _ => rfl⟩
def PutIn (c c1 : Cht) (i : Nat) (e : Tip) : Prop := ∃ a k, c[i]? = some a ∧ c1 = c.set i (ins k e a)
theorem ins_mem {α : Type} {k : Nat} {e x : α} {a : List α} : x ∈ ins k e a ↔ x = e ∨ x ∈ a := by rw [(ins_perm k e a).mem_iff, List.mem_cons]
section
variable {c c1 c2 : Cht} {i j : Nat} {e : Tip}
theorem PutIn.row (h : PutIn c c1 i e) : ∃ a a', c[i]? = some a ∧ a' ∈ c1 ∧ e ∈ a' ∧ ∀ x ∈ a, x ∈ a' := by
  obtain ⟨a, k, ha, rfl⟩ := h
  refine ⟨a, ins k e a, ha, ?_, ins_mem.mpr (.inl rfl), fun x hx => ins_mem.mpr (.inr hx)⟩
  exact List.mem_iff_getElem?.mpr ⟨i, List.getElem?_set_self (List.getElem?_eq_some_iff.mp ha).1⟩
theorem PutIn.sub (h : PutIn c c1 i e) : ∀ a ∈ c, ∃ a' ∈ c1, ∀ x ∈ a, x ∈ a' := fun a ha => by
  obtain ⟨a0, a', h0, m', _, s'⟩ := h.row
  obtain ⟨j, hj⟩ := List.mem_iff_getElem?.mp ha
  by_cases z : j = i
  · subst z
    obtain rfl := Option.some.inj (h0.symm.trans hj)
    exact ⟨a', m', s'⟩
  · obtain ⟨a1, k, ha1, rfl⟩ := h
    exact ⟨a, List.mem_iff_getElem?.mpr ⟨j, by rw [List.getElem?_set_ne (Ne.symm z)]; exact hj⟩, fun x hx => hx⟩
theorem PutIn.tips (h : PutIn c c1 i e) : ∀ x, x ∈ c1.flatten ↔ x = e ∨ x ∈ c.flatten := fun x => by
  obtain ⟨a, k, ha, rfl⟩ := h
  rw [(set_flat ha (ins_perm k e a)).mem_iff, List.mem_cons]
theorem PutIn.rows (h : PutIn c c1 i e) : ∀ a' ∈ c1, e ∈ a' ∨ ∃ m, m ≠ i ∧ c[m]? = some a' := fun a' m' => by
  obtain ⟨a, k, ha, rfl⟩ := h
  obtain ⟨m, hm⟩ := List.mem_iff_getElem?.mp m'
  by_cases z : m = i
  · subst z
    rw [List.getElem?_set_self (List.getElem?_eq_some_iff.mp ha).1] at hm
    rw [← Option.some.inj hm]
    exact .inl (ins_mem.mpr (.inl rfl))
  · rw [List.getElem?_set_ne (Ne.symm z)] at hm
    exact .inr ⟨m, z, hm⟩
theorem PutIn.len (h : PutIn c c1 i e) : c1.length = c.length := by
  obtain ⟨a, k, _, rfl⟩ := h
  exact List.length_set
theorem PutIn.full (H : Hng c) (h : PutIn c c1 i e) : ∀ a' ∈ c1, a' ≠ [] := fun a' m' z => by
  rcases h.rows a' m' with q | ⟨m, mi, hm⟩
  · rw [z] at q; cases q
  · have l1 := H.one a' (List.mem_iff_getElem?.mpr ⟨m, hm⟩) z
    obtain ⟨a, k, ha, _⟩ := h
    have := (List.getElem?_eq_some_iff.mp hm).1
    have := (List.getElem?_eq_some_iff.mp ha).1
    omega
theorem PutIn.tie (H : Hng c) (h : PutIn c c1 i e) : c.flatten = [] ∨ ∃ a' ∈ c1, e ∈ a' ∧ ∃ x ∈ c.flatten, x ∈ a' := by
  obtain ⟨a, a', ha, m', he, s'⟩ := h.row
  cases z : a with
  | nil =>
    have ma : a ∈ c := List.mem_iff_getElem?.mpr ⟨i, ha⟩
    have l1 := H.one a ma z
    refine .inl ?_
    match c, l1, ma with
    | [b], _, ma =>
      obtain rfl := List.mem_singleton.mp ma
      rw [z]; rfl
  | cons x r =>
    have mx : x ∈ a := by rw [z]; exact List.mem_cons_self ..
    exact .inr ⟨a', m', he, x, List.mem_flatten.mpr ⟨a, List.mem_iff_getElem?.mpr ⟨i, ha⟩, mx⟩, s' x mx⟩
theorem Hng.grow (H : Hng c) (sub : ∀ a ∈ c, ∃ a' ∈ c1, ∀ x ∈ a, x ∈ a') (tips : ∀ x ∈ c1.flatten, x ∈ c.flatten ∨ x = e ∨ x = oth e) (he : e ∈ c1.flatten) (ho : oth e ∈ c1.flatten)
    (tie : c.flatten = [] ∨ ∃ a' ∈ c1, e ∈ a' ∧ ∃ x ∈ c.flatten, x ∈ a') (ne : ∀ a' ∈ c1, a' ≠ []) : Hng c1 := by
  refine ⟨fun P row lock e0 m0 p0 => ?_, fun a m z => absurd z (ne a m)⟩
  have up : ∀ x ∈ c.flatten, x ∈ c1.flatten := fun x hx => by
    obtain ⟨a, ha, hm⟩ := List.mem_flatten.mp hx
    obtain ⟨a', ha', s⟩ := sub a ha
    exact List.mem_flatten.mpr ⟨a', ha', s x hm⟩
  have q1 : P e → P (oth e) := lock e he
  have q2 : P (oth e) → P e := fun h => by
    have := lock _ ho h
    rwa [oth_oth] at this
  have old : ∀ x ∈ c.flatten, P x → ∀ y ∈ c.flatten, P y := H.all P (fun a ha x hx y hy p => by
    obtain ⟨a', ha', s⟩ := sub a ha
    exact row a' ha' x (s x hx) y (s y hy) p) fun x hx p => lock x (up x hx) p
  have all_ : P e → ∀ y ∈ c1.flatten, P y := fun pe y hy => by
    rcases tips y hy with h | rfl | rfl
    · rcases tie with z | ⟨a', ha', ea, x, hx, xa⟩
      · rw [z] at h; cases h
      · exact old x hx (row a' ha' e ea x xa pe) y h
    · exact pe
    · exact q1 pe
  rcases tips e0 m0 with h | rfl | rfl
  · rcases tie with z | ⟨a', ha', ea, x, hx, xa⟩
    · rw [z] at h; cases h
    · exact all_ (row a' ha' x xa e ea (old e0 h p0 x hx))
  · exact all_ p0
  · exact all_ (q2 p0)
theorem hng_new (H : Hng c) (h : PutIn c c1 i e) : Hng (c1 ++ [[oth e]]) := by
  have hf : (c1 ++ [[oth e]]).flatten = c1.flatten ++ [oth e] := snoc_flat c1 [oth e]
  refine H.grow (e := e) (fun a ha => ?_) (fun x hx => ?_) ?_ ?_ ?_ (fun a' m' => ?_)
  · obtain ⟨a', ha', s⟩ := h.sub a ha
    exact ⟨a', List.mem_append_left _ ha', s⟩
  · rw [hf] at hx
    rcases List.mem_append.mp hx with hx | hx
    · rcases (h.tips x).mp hx with z | z
      · exact .inr (.inl z)
      · exact .inl z
    · exact .inr (.inr (List.mem_singleton.mp hx))
  · rw [hf]; exact List.mem_append_left _ ((h.tips e).mpr (.inl rfl))
  · rw [hf]; exact List.mem_append_right _ (List.mem_singleton.mpr rfl)
  · rcases h.tie H with z | ⟨a', m', q⟩
    · exact .inl z
    · exact .inr ⟨a', List.mem_append_left _ m', q⟩
  · rcases List.mem_append.mp m' with m' | m'
    · exact h.full H a' m'
    · rw [List.mem_singleton.mp m']; simp
theorem hng_new2 (H : Hng c) (h : PutIn c c1 i e) (h2 : PutIn (c1 ++ [[]]) c2 c.length (oth e)) : Hng c2 := by
  obtain ⟨a, k, ha, rfl⟩ := h2
  have l := h.len
  rw [← l, List.getElem?_append_right (Nat.le_refl _), Nat.sub_self] at ha
  obtain rfl := Option.some.inj ha
  have e2 : ins k (oth e) ([] : List Tip) = [oth e] := by unfold ins; simp
  have e3 : (c1 ++ [[]]).set c.length [oth e] = c1 ++ [[oth e]] := by
    rw [← l, List.set_append_right _ _ (Nat.le_refl _), Nat.sub_self]
    rfl
  rw [e2, e3]
  exact hng_new H h
theorem hng_two (H : Hng c) (h : PutIn c c1 i e) (h2 : PutIn c1 c2 j (oth e)) : Hng c2 := by
  refine H.grow (e := e) (fun a ha => ?_) (fun x hx => ?_) ?_ ?_ ?_ (fun a' m' => ?_)
  · obtain ⟨a', ha', s⟩ := h.sub a ha
    obtain ⟨a'', ha'', s'⟩ := h2.sub a' ha'
    exact ⟨a'', ha'', fun x hx => s' x (s x hx)⟩
  · rcases (h2.tips x).mp hx with z | z
    · exact .inr (.inr z)
    · rcases (h.tips x).mp z with z | z
      · exact .inr (.inl z)
      · exact .inl z
  · exact (h2.tips e).mpr (.inr ((h.tips e).mpr (.inl rfl)))
  · exact (h2.tips _).mpr (.inl rfl)
  · rcases h.tie H with z | ⟨a', m', ea, x, hx, xa⟩
    · exact .inl z
    · obtain ⟨a'', m'', s⟩ := h2.sub a' m'
      exact .inr ⟨a'', m'', s e ea, x, hx, s x xa⟩
  · rcases h2.rows a' m' with q | ⟨m, _, hm⟩
    · exact fun z => by rw [z] at q; cases q
    · exact h.full H a' (List.mem_iff_getElem?.mpr ⟨m, hm⟩)
end
/-! ### told anew it hangs together -/
def RowsOf (f : Tip → Tip) (c c' : Cht) (k : Nat) : Prop := ∃ rs : Cht, c'.Perm rs ∧ rs.length = k ∧ ∀ (j : Nat) (r : List Tip), rs[j]? = some r → ∃ a, c[j]? = some a ∧ r.Perm (a.map f)
theorem RowsOf.nil (f : Tip → Tip) (c : Cht) : RowsOf f c [] 0 := ⟨[], List.Perm.refl _, rfl, fun j r h => by simp at h⟩
theorem RowsOf.more {f : Tip → Tip} {c c' : Cht} {k i : Nat} {a r : List Tip} (h : RowsOf f c c' k) (ha : c[k]? = some a) (p : r.Perm (a.map f)) : RowsOf f c (ins i r c') (k + 1) := by
  obtain ⟨rs, h1, h2, h3⟩ := h
  refine ⟨rs ++ [r], (ins_perm i r c').trans ((h1.cons r).trans (List.perm_append_comm (l₁ := [r]))), by rw [List.length_append, h2]; rfl, fun j r' hj => ?_⟩
  by_cases q : j < rs.length
  · rw [List.getElem?_append_left q] at hj
    exact h3 j r' hj
  · rw [List.getElem?_append_right (by omega)] at hj
    have j0 : j - rs.length = 0 := by
      have := (List.getElem?_eq_some_iff.mp hj).1
      simp at this; omega
    rw [j0] at hj
    obtain rfl := Option.some.inj hj
    have : j = k := by omega
    subst this
    exact ⟨a, ha, p⟩
theorem xr_flip {s t : Int} (hs : s = 0 ∨ s = 1) (ht : t = 0 ∨ t = 1) : xr (1 - s) t = 1 - xr s t := by
  rcases hs with rfl | rfl <;> rcases ht with rfl | rfl <;> rfl
theorem rnw_oth {n : Nat} {nu : List Nat} {tu : List Int} (h : Anew n nu tu) {g : Nat} (hg : g < n) {e : Tip} (e1 : e.1 = (g : Int)) (e2 : e.2 = 0 ∨ e.2 = 1) : rnw nu tu (oth e) = oth (rnw nu tu e) := by
  unfold rnw oth
  dsimp only
  rw [e1, Int.toNat_natCast, xr_flip e2 (h.bit hg)]
theorem hng_told {n : Nat} {nu : List Nat} {tu : List Int} {c c' : Cht} (H : Hng c) (wf : WfC n c) (an : Anew n nu tu) (R : RowsOf (rnw nu tu) c c' c.length) : Hng c' := by
  obtain ⟨rs, h1, h2, h3⟩ := R
  have back : ∀ r ∈ c', ∃ a ∈ c, r.Perm (a.map (rnw nu tu)) := fun r hr => by
    obtain ⟨j, hj⟩ := List.mem_iff_getElem?.mp (h1.mem_iff.mp hr)
    obtain ⟨a, ha, p⟩ := h3 j r hj
    exact ⟨a, List.mem_iff_getElem?.mpr ⟨j, ha⟩, p⟩
  have fore : ∀ a ∈ c, ∃ r ∈ c', r.Perm (a.map (rnw nu tu)) := fun a ha => by
    obtain ⟨j, hj⟩ := List.mem_iff_getElem?.mp ha
    have jl := (List.getElem?_eq_some_iff.mp hj).1
    have hr : rs[j]? = some (rs[j]'(by omega)) := List.getElem?_eq_getElem _
    obtain ⟨a', ha', p⟩ := h3 j _ hr
    obtain rfl := Option.some.inj (hj.symm.trans ha')
    exact ⟨_, h1.mem_iff.mpr (List.mem_iff_getElem?.mpr ⟨j, hr⟩), p⟩
  have img : ∀ x ∈ c.flatten, rnw nu tu x ∈ c'.flatten := fun x hx => by
    obtain ⟨a, ha, hm⟩ := List.mem_flatten.mp hx
    obtain ⟨r, hr, p⟩ := fore a ha
    exact List.mem_flatten.mpr ⟨r, hr, p.mem_iff.mpr (List.mem_map.mpr ⟨x, hm, rfl⟩)⟩
  have pre : ∀ y ∈ c'.flatten, ∃ x ∈ c.flatten, y = rnw nu tu x := fun y hy => by
    obtain ⟨r, hr, hm⟩ := List.mem_flatten.mp hy
    obtain ⟨a, ha, p⟩ := back r hr
    obtain ⟨x, hx, e⟩ := List.mem_map.mp (p.mem_iff.mp hm)
    exact ⟨x, List.mem_flatten.mpr ⟨a, ha, hx⟩, e.symm⟩
  refine ⟨fun P row lock e0 m0 p0 => ?_, fun r hr z => ?_⟩
  · obtain ⟨x0, hx0, rfl⟩ := pre e0 m0
    have key := H.all (fun x => P (rnw nu tu x)) (fun a ha x hx y hy p => by
      obtain ⟨r, hr, pm⟩ := fore a ha
      exact row r hr _ (pm.mem_iff.mpr (List.mem_map.mpr ⟨x, hx, rfl⟩)) _ (pm.mem_iff.mpr (List.mem_map.mpr ⟨y, hy, rfl⟩)) p) (fun x hx p => by
      obtain ⟨g, hg, e⟩ := wf.mem.mp hx
      have e1 : x.1 = (g : Int) := by rcases e with rfl | rfl <;> rfl
      have e2 : x.2 = 0 ∨ x.2 = 1 := by rcases e with rfl | rfl <;> simp
      show P (rnw nu tu (oth x))
      rw [rnw_oth an hg e1 e2]
      exact lock _ (img x hx) p) x0 hx0 p0
    intro y hy
    obtain ⟨x, hx, rfl⟩ := pre y hy
    exact key x hx
  · obtain ⟨a, ha, p⟩ := back r hr
    rw [z] at p
    have ea : a = [] := List.map_eq_nil_iff.mp p.symm.eq_nil
    have := H.one a ha ea
    rw [h1.length_eq, h2, this]
end XL
namespace XL
open PySem PySem.Spec PyProof.Rows L2
abbrev sTa : Stmt := topS 28
theorem dr_tp {b : Addr} {H H' : Hp} (h : Bx H b) (d : Dr b H H') : Tp H H' := by
  obtain ⟨x, y, z, e⟩ := h
  exact ⟨fun a xs q => d.same a _ (fun w => by rw [w, e] at q; cases q) q, fun a o xs q => d.same a _ (fun w => by rw [w, e] at q; cases q) q⟩
theorem bx_ne {b p : Addr} {H : Hp} (h : Bx H b) (n : H p = none) : p ≠ b := fun e => by
  obtain ⟨x, y, z, q⟩ := h
  rw [e, q] at n; cases n
theorem dr_own {b p : Addr} {H Z : Hp} {o : HO} (hb : Bx H b) (d : Dr b H Z) (n : H p = none) : Dr b H (upd Z p o) := by
  have np := bx_ne hb n
  obtain ⟨x, y, z, e⟩ := d.box
  refine ⟨⟨x, y, z, by rw [upd_ne (Ne.symm np)]; exact e⟩, fun a o' na e' => ?_⟩
  rw [upd_ne (fun w => by rw [w, n] at e'; cases e')]
  exact d.same a o' na e'
theorem dr_no {b p : Addr} {H Z : Hp} (d : Dr b H Z) (hb : Bx H b) (n : Z p = none) : H p = none := by
  cases e : H p with
  | none => rfl
  | some o =>
    have np : p ≠ b := fun w => by
      obtain ⟨x, y, z, q⟩ := d.box
      rw [w, q] at n; cases n
    have := d.same p o np e
    rw [n] at this; cases this
theorem same_dr {b : Addr} {H Z : Hp} (d : Dr b H Z) : Same (delH H b) Z := fun a o e => by
  by_cases h : a = b
  · rw [h, delH_same] at e; cases e
  · rw [delH_ne h] at e; exact d.same a o h e
theorem six_nat {len n : Nat} {dflt : Int} (h : n ≤ len) : HT.sIx len dflt.toNat (some (n : Int)) = n := by
  unfold HT.sIx
  dsimp only
  rw [if_neg (by omega)]
  omega
theorem boot_sum' : bootBuiltins "sum" = some (.builtin "sum") := by decide +kernel
theorem boot_max' : bootBuiltins "max" = some (.builtin "max") := by decide +kernel
theorem cutTo (xs : List V) (n : Nat) (h : n ≤ xs.length) : cutV xs none (some (n : Int)) = xs.take n := by
  unfold cutV
  rw [show HT.sIx xs.length 0 none = 0 from rfl, show HT.sIx xs.length xs.length (some (n : Int)) = n from six_nat (dflt := (xs.length : Int)) h]; rfl
theorem cutFrom (xs : List V) (n : Nat) (h : n ≤ xs.length) : cutV xs (some (n : Int)) none = xs.drop n := by
  unfold cutV
  rw [show HT.sIx xs.length xs.length none = xs.length from rfl, show HT.sIx xs.length 0 (some (n : Int)) = n from six_nat (dflt := 0) h, List.take_of_length_le (by rw [List.length_drop]; omega)]
def rwT (a : List Tip) : PyData := .tuple (a.map enD)
theorem noL_rw (a : List Tip) : noL (rwT a) = true := by
  have : ∀ r : List Tip, noLs (r.map enD) = true := by
    intro r
    induction r with
    | nil => rfl
    | cons e r ih => rw [List.map_cons, noLs, noL_en, ih]; rfl
  show noLs (a.map enD) = true
  exact this a
theorem noL_rws : ∀ c : Cht, noLs (c.map rwT) = true
  | [] => rfl
  | a :: c => by rw [List.map_cons, noLs, noL_rw, noL_rws c]; rfl
theorem dp_cut {K : PySem.W.Frag} {H : Hp} : ∀ (i : Nat) {vs : List V} {ds : List PyData}, DpAll K H vs ds → DpAll K H (vs.take i) (ds.take i) ∧ DpAll K H (vs.drop i) (ds.drop i)
  | 0, _, _, h => ⟨.nil, h⟩
  | i + 1, _, _, .nil => ⟨.nil, .nil⟩
  | i + 1, _, _, .cons h1 h2 => ⟨.cons h1 (dp_cut i h2).1, (dp_cut i h2).2⟩
theorem dp_ins {K : PySem.W.Frag} {H : Hp} {α : Type} {f : α → PyData} {vs : List V} {c : List α} {v : V} {a : α} (h : DpAll K H vs (c.map f)) (d : Dp K H v (f a)) (i : Nat) : DpAll K H (vs.take i ++ [v] ++ vs.drop i) ((ins i a c).map f) := by
  have tk : ∀ (i : Nat) {vs : List V} {ds : List PyData}, DpAll K H vs ds → DpAll K H (vs.take i) (ds.take i) ∧ DpAll K H (vs.drop i) (ds.drop i) := by
    intro i
    induction i with
    | zero => intro vs ds h; exact ⟨.nil, h⟩
    | succ i ih => intro vs ds h; cases h with
      | nil => exact ⟨.nil, .nil⟩
      | cons h1 h2 => exact ⟨.cons h1 (ih h2).1, (ih h2).2⟩
  rw [ins_map]
  unfold ins
  exact DpAll.app (DpAll.app (tk i h).1 (.cons d .nil)) (tk i h).2
theorem sum_len : ∀ c : Cht, ((c.map fun a => (a.length : Int))).sum = (c.flatten.length : Int)
  | [] => rfl
  | a :: c => by rw [List.map_cons, List.sum_cons, sum_len c, List.flatten_cons, List.length_append]; omega
/-- what stands while a map is told anew -/
structure Tst (K : PySem.W.Frag) (b : Addr) (H Z : Hp) (Fo Nu Tu : Addr) (vs : List V) (nu : List Nat) (tu : List Int) (c' : Cht) : Prop where
  hb : Bx H b
  dr : Dr b H Z
  nF : H Fo = none
  nN : H Nu = none
  nT : H Tu = none
  f : Z Fo = some (.lst vs)
  n : Z Nu = some (.lst (nu.map fun (x : Nat) => V.int (x : Int)))
  t : Z Tu = some (.lst (tu.map V.int))
  v : DpAll K Z vs (c'.map rwT)
  d1 : Fo ≠ Nu
  d2 : Fo ≠ Tu
  d3 : Nu ≠ Tu
section
variable {K : PySem.W.Frag} {b : Addr} {H Z Z' : Hp} {Fo Nu Tu : Addr} {vs : List V} {nu : List Nat} {tu : List Int} {c' : Cht}
theorem Tst.draw (h : Tst K b H Z Fo Nu Tu vs nu tu c') (d : Dr b Z Z') : Tst K b H Z' Fo Nu Tu vs nu tu c' :=
  ⟨h.hb, h.dr.trans d, h.nF, h.nN, h.nT, d.same _ _ (bx_ne h.hb h.nF) h.f, d.same _ _ (bx_ne h.hb h.nN) h.n, d.same _ _ (bx_ne h.hb h.nT) h.t, DpAll.tp (dr_tp h.dr.box d) _ (noL_rws _) h.v, h.d1, h.d2, h.d3⟩
theorem Tst.next (h : Tst K b H Z Fo Nu Tu vs nu tu c') (s : Same Z Z') : Tst K b H Z' Fo Nu Tu vs nu tu c' := h.draw (Dr.of h.dr.box s)
theorem Tst.num (h : Tst K b H Z Fo Nu Tu vs nu tu c') (i g : Nat) : Tst K b H (upd Z Nu (.lst ((ins i g nu).map fun (x : Nat) => V.int (x : Int)))) Fo Nu Tu vs (ins i g nu) tu c' :=
  ⟨h.hb, dr_own h.hb h.dr h.nN, h.nF, h.nN, h.nT, by rw [upd_ne h.d1]; exact h.f, upd_same, by rw [upd_ne h.d3.symm]; exact h.t, DpAll.tp (Tp.upd h.n) _ (noL_rws _) h.v, h.d1, h.d2, h.d3⟩
theorem Tst.bit (h : Tst K b H Z Fo Nu Tu vs nu tu c') (s : Int) : Tst K b H (upd Z Tu (.lst ((tu ++ [s]).map V.int))) Fo Nu Tu vs nu (tu ++ [s]) c' :=
  ⟨h.hb, dr_own h.hb h.dr h.nT, h.nF, h.nN, h.nT, by rw [upd_ne h.d2]; exact h.f, by rw [upd_ne h.d3]; exact h.n, upd_same, DpAll.tp (Tp.upd h.t) _ (noL_rws _) h.v, h.d1, h.d2, h.d3⟩
theorem Tst.row (h : Tst K b H Z Fo Nu Tu vs nu tu c') {v : V} {a : List Tip} (d : Dp K Z v (rwT a)) (i : Nat) : Tst K b H (upd Z Fo (.lst (vs.take i ++ [v] ++ vs.drop i))) Fo Nu Tu (vs.take i ++ [v] ++ vs.drop i) nu tu (ins i a c') :=
  ⟨h.hb, dr_own h.hb h.dr h.nF, h.nF, h.nN, h.nT, upd_same, by rw [upd_ne h.d1.symm]; exact h.n, by rw [upd_ne h.d2.symm]; exact h.t, DpAll.tp (Tp.upd h.f) _ (noL_rws _) (dp_ins h.v d i), h.d1, h.d2, h.d3⟩
end
section
variable {P : Program} {w : World} {K : PySem.W.Frag} {mg : Str → Option Value} {base : Heap}
/-! ### told anew -/
abbrev nTa : List Str := ["_law_box_here", "_law_basins", "_law_found", "_law_numbers", "_law_turned", "_law_gate", "_law_around", "_law_tips", "_law_k", "_law_side"]
theorem scTa : FnScope nTa ["_law_box_here", "_law_basins"] (defScope sTa) := ⟨rfl, rfl, rfl, by decide +kernel, rfl, by decide +kernel, by decide +kernel⟩
def spTa (K : PySem.W.Frag) : Sp := fun vs H Q _ => ∃ (b : Addr) (v : V) (c : Cht) (n : Nat), vs = [.ref b, v] ∧ Bx H b ∧ Dp K (delH H b) v (chL c) ∧ WfC n c ∧ c.length ≤ 100 ∧ n ≤ 100 ∧ Hng c ∧
  ∀ (p : Addr) (c' : Cht) (H' : Hp), Dr b H H' → H p = none → Dp K H' (.ref p) (chT c') → WfC n c' → c'.length = c.length → Hng c' → Q (.ref p) H'
theorem ok_ta {f ft : Addr} {fd fdt : FuncData} {k : Nat} (F : Fun K "_law_told_anew" "_law_told_anew" sTa f fd) (Tk : Fns P w K mg base k "_law_take" ["_law_box_here", "_law_size"] spTake ft fdt) (m_range : mg "range" = none) (m_sum : mg "sum" = none) (m_len : mg "len" = none) (m_max : mg "max" = none) (m_tuple : mg "tuple" = none) : FnOk P w K mg base CX0 (k + 1) f fd ["_law_box_here", "_law_basins"] (spTa K) := by
  refine F.ok scTa (fun vs H Q E h => ?_) (fun cdv A outer s0 H vs Q E hr h => ?_)
  · obtain ⟨b, v, c, n, rfl, _⟩ := h
    rfl
  obtain ⟨b, v, c, n, rfl, hb, hv, wf, cl, hn, hg0, q⟩ := h
  refine ⟨_, (pss_cons (ps_asg (pe_tup (pa_cons (pe_lst pa_nil) (pa_cons (pe_lst pa_nil) (pa_cons (pe_lst pa_nil) pa_nil)))) (pg_any rfl (pgs_cons (pg_name (i := 2) scTa.nd rfl (.inl rfl)) (pgs_cons (pg_name (i := 3) scTa.nd rfl (.inr rfl)) (pgs_cons (pg_name (i := 4) scTa.nd rfl (.inr rfl)) pgs_nil)))))
    (pss_cons (ps_for PassesOwn.never rfl (pi_range1 rfl m_range (pa_cons (pe_op op_fdivN (pe_callB (r := rSum K) (cr_sum rfl) rfl m_sum boot_sum' (pa_cons (pe_lc (own := [("_law_around", 6)]) (g := gName 6) (tt := tYes) rfl scTa.nd (pi_seqA rfl (pv 1)) (blkOk_by (own := [("_law_around", 6)]) (N := nTa) (sc := defScope sTa) (by decide +kernel)) (fun _ _ _ _ _ => (pg_name (i := 6) scTa.nd rfl (.inl rfl))) (fun _ _ _ _ _ => pts_nil) (fun _ _ _ _ _ => pe_hide (pe_callB (r := rLenA K) call_lenA rfl m_len PySem.boot_len (pa_cons (pv 6) pa_nil)))) pa_nil)) pe_int) pa_nil)) (pg_name (i := 5) scTa.nd rfl (.inl rfl))
    (pss_cons (ps_expr (pe_bm PySem.F.plainAttrs_list PySem.F.slot_list_insert PySem.F.type_list_insert mt_insert (pv 3) (pa_cons (pe_fn Tk hr rfl (pa_cons (pv 0) (pa_cons (pe_op op_add (pe_callB (r := rLenA K) call_lenA rfl m_len PySem.boot_len (pa_cons (pv 3) pa_nil)) pe_int) pa_nil))) (pa_cons (pv 5) pa_nil))))
    (pss_one (ps_expr (pe_bm PySem.F.plainAttrs_list PySem.F.slot_list_append PySem.F.type_list_append mt_append (pv 4) (pa_cons (pe_fn Tk hr rfl (pa_cons (pv 0) (pa_cons pe_int pa_nil))) pa_nil))))))
    (pss_cons (ps_for PassesOwn.never rfl (pi_seqA rfl (pv 1)) (pg_name (i := 6) scTa.nd rfl (.inl rfl))
    (pss_cons (ps_setLc (i := 7) (own := [("_law_gate", 5), ("_law_side", 9)]) (g := gAny K 2 (gCons (gName 5) (gCons (gName 9) gNil))) (tt := tYes) rfl scTa.nd rfl rfl (sw_true rfl rfl rfl (by decide +kernel)) (pi_seqA rfl (pv 6)) (blkOk_by (own := [("_law_gate", 5), ("_law_side", 9)]) (N := nTa) (sc := defScope sTa) (by decide +kernel)) (fun _ _ _ _ _ => (pg_any rfl (pgs_cons (pg_name (i := 5) scTa.nd rfl (.inl rfl)) (pgs_cons (pg_name (i := 9) scTa.nd rfl (.inl rfl)) pgs_nil)))) (fun _ _ _ _ _ => pts_nil) (fun _ _ _ _ _ => pe_hide (pe_tup (pa_cons (pe_ix (r := rIxA K) ix_any (pv 3) (pv 5) (fun _ _ => rfl)) (pa_cons (pe_op op_xor (pv 9) (pe_ix (r := rIxA K) ix_any (pv 4) (pv 5) (fun _ _ => rfl))) pa_nil)))))
    (pss_cons (ps_set (i := 8) scTa.nd rfl (.inl rfl) (pe_fn Tk hr rfl (pa_cons (pv 0) (pa_cons (pe_callB (call_max2 rfl) rfl m_max boot_max' (pa_cons pe_int (pa_cons (pe_callB (r := rLenA K) call_lenA rfl m_len PySem.boot_len (pa_cons (pv 7) pa_nil)) pa_nil))) pa_nil))))
    (pss_one (ps_expr (pe_bm PySem.F.plainAttrs_list PySem.F.slot_list_insert PySem.F.type_list_insert mt_insert (pv 2) (pa_cons (pe_fn Tk hr rfl (pa_cons (pv 0) (pa_cons (pe_op op_add (pe_callB (r := rLenA K) call_lenA rfl m_len PySem.boot_len (pa_cons (pv 2) pa_nil)) pe_int) pa_nil))) (pa_cons (pe_callTy (r := rTupA K) call_tupleA rfl m_tuple boot_tuple (pa_cons (pe_op op_cat (pe_slice sl_list (pv 7) (po_some (pv 8)) po_none) (pe_slice sl_list (pv 7) po_none (po_some (pv 8)))) pa_nil)) pa_nil))))))))
    (pss_one (ps_ret (pe_callTy (r := rTupA K) call_tupleA rfl m_tuple boot_tuple (pa_cons (pv 2) pa_nil))))))), ?_⟩
  obtain ⟨t, us, rfl, ht, lt, rows⟩ := rows_l hv
  have flen := wf.len
  refine ⟨(by show 0 ≤ sizeLine; decide), fun Fo nFo => ⟨(by show 0 ≤ sizeLine; decide), fun Nu nNu => ⟨(by show 0 ≤ sizeLine; decide), fun Tu nTu => ⟨(by show 3 ≤ sizeLine; decide), fun T nT => ?_⟩⟩⟩⟩
  have hFN : Fo ≠ Nu := fun z => by rw [z] at nNu; rw [upd_same] at nNu; cases nNu
  have s1 : Same H (upd H Fo (.lst [])) := same_new nFo
  have nNH : H Nu = none := s1.free nNu
  have s2 : Same H (upd (upd H Fo (.lst [])) Nu (.lst [])) := s1.trans (same_new nNu)
  have nTH : H Tu = none := s2.free nTu
  have s3 := s2.trans (same_new nTu (o := .lst []))
  have hFT : Fo ≠ Tu := fun z => by rw [← z, upd_ne hFN, upd_same] at nTu; cases nTu
  have hNT : Nu ≠ Tu := fun z => by rw [← z, upd_same] at nTu; cases nTu
  have T0 : Tst K b H (upd (upd (upd H Fo (.lst [])) Nu (.lst [])) Tu (.lst [])) Fo Nu Tu [] [] [] [] :=
    ⟨hb, Dr.of hb s3, nFo, nNH, nTH, by rw [upd_ne hFT, upd_ne hFN, upd_same], by rw [upd_ne hNT, upd_same]; rfl, by rw [upd_same]; rfl, .nil, hFN, hFT, hNT⟩
  have T1 := T0.next (same_new nT (o := .tup [.ref Fo, .ref Nu, .ref Tu]))
  refine ⟨T, _, rfl, .inr (.inl (.inl upd_same)), rfl, ?_⟩
  refine ⟨_, _, rfl, ?_⟩
  refine at_g (σ' := [some (.ref b), some (.ref t), some (.ref Fo), none, none, none, none, none, none, none]) rfl ?_
  refine ⟨_, _, rfl, ?_⟩
  refine at_g (σ' := [some (.ref b), some (.ref t), some (.ref Fo), some (.ref Nu), none, none, none, none, none, none]) rfl ?_
  refine ⟨_, _, rfl, ?_⟩
  refine at_g (σ' := [some (.ref b), some (.ref t), some (.ref Fo), some (.ref Nu), some (.ref Tu), none, none, none, none, none]) rfl ?_
  refine ⟨rfl, ?_⟩
  refine at_h (fun G => Tst K b H G Fo Nu Tu [] [] [] []) T1 fun H1 T1 => ?_
  clear T0 s1 s2 s3 nNu nTu nT
  have sH1 := same_dr T1.dr
  have sq1 : SqL K H1 t us := sH1.seq ht
  refine ⟨_, rfl, t, us, true, fun Y => SqL K Y t us, rfl, sq1, fun _ h => h, fun J wk => lc_acc wk (fun i acc G => Same H1 G ∧ acc = ((c.take i).map fun a => (a.length : Int)).map V.int) (by rw [lt]; exact small2000 (by omega)) ⟨fun _ _ e => e, rfl⟩ (fun i G D' acc h nD' => ?_) (fun i x D' acc G H' hi nD1 h nD' hy B hB => ?_) (fun D' ys G nD1 h nD' hl => ?_)⟩
  · exact (h.1.trans (same_new nD')).seq sq1
  · obtain ⟨rfl, hx⟩ := hy
    obtain ⟨a, ha, da⟩ := rows i x hx
    obtain ⟨ta, xs, rfl, hxs, lx, get1⟩ := row_l da
    refine at_g rfl ?_
    refine hB _ _ rfl nD' fun Qt hQ => ?_
    refine ⟨_, rfl, ta, xs, rfl, .inl (h.1.seq (sH1.seq hxs)), hQ _ _ ⟨h.1, ?_⟩⟩
    rw [h.2, take_snoc ha, lx, List.map_append, List.map_append]
    rfl
  · obtain ⟨sG, rfl⟩ := h
    rw [lt, List.take_length]
    have T2 := (T1.next sG).next (same_new nD' (o := .lst ((c.map fun a => (a.length : Int)).map V.int)))
    have sm : ((c.map fun a => (a.length : Int)).sum).fdiv 2 = (n : Int) := by
      rw [sum_len, flen, Int.fdiv_eq_ediv_of_nonneg _ (by decide)]
      omega
    refine ⟨D', _, rfl, SqL.of upd_same, _, _, rfl, rfl, ?_⟩
    clear T1 sH1 sq1 sG nD1
    refine ⟨(by constructor <;> decide), (n : Int), congrArg (fun z => [V.int z]) sm, by omega, by omega, ?_⟩
    refine for_it walk_range (fun g σ Z => ∃ (nu : List Nat) (tu : List Int) (y5 : Option V), σ = [some (.ref b), some (.ref t), some (.ref Fo), some (.ref Nu), some (.ref Tu), y5, none, none, none, none] ∧ Tst K b H Z Fo Nu Tu [] nu tu [] ∧ Anew g nu tu) ⟨[], [], none, rfl, T2, ⟨List.Perm.refl _, rfl, by simp⟩⟩ (fun g σ Z _ h => trivial) (fun g x σ Z Z' hi h hy => ?_) (fun σ Z h => ?_)
    · obtain ⟨nu, tu, y5, rfl, TZ, an⟩ := h
      obtain ⟨rfl, rfl⟩ := hy
      have h0g : (0 : Int) + (g : Int) = (g : Int) := Int.zero_add _
      rw [Int.toNat_natCast] at hi
      have nl : nu.length = g := by rw [an.p.length_eq, List.length_range]
      refine at_g (σ' := [some (.ref b), some (.ref t), some (.ref Fo), some (.ref Nu), some (.ref Tu), some (.int (g : Int)), none, none, none, none]) (by show [some (V.ref b), some (V.ref t), some (V.ref Fo), some (V.ref Nu), some (V.ref Tu), some (V.int (0 + (g : Int))), none, none, none, none] = _; rw [h0g]) ?_
      refine ⟨_, rfl, .inl ⟨rfl, _, SqL.of TZ.n⟩, _, rfl, _, rfl, Nu, _, rfl, .inl (SqL.of TZ.n), _, _, rfl, rfl, ?_⟩
      refine ⟨b, _, rfl, TZ.dr.box, by omega, by rw [List.length_map]; omega, fun x Z2 x0 x1 d2 => ?_⟩
      have TZ2 := TZ.draw d2
      refine ⟨_, rfl, Nu, _, x, .int (g : Int), rfl, rfl, TZ2.n, by rw [List.length_map]; exact small2000 (by omega), x0, by rw [List.length_map] at x1; omega, ?_⟩
      have ei : (nu.map fun (x : Nat) => V.int (x : Int)).take x.toNat ++ [V.int (g : Int)] ++ (nu.map fun (x : Nat) => V.int (x : Int)).drop x.toNat = (ins x.toNat g nu).map fun (x : Nat) => V.int (x : Int) := (ins_map (fun (x : Nat) => V.int (x : Int)) x.toNat g nu).symm
      rw [ei]
      have TZ3 := TZ2.num x.toNat g
      generalize upd Z2 Nu (.lst ((ins x.toNat g nu).map fun (x : Nat) => V.int (x : Int))) = Z3 at TZ3
      refine ⟨_, rfl, .inl ⟨rfl, _, SqL.of TZ3.t⟩, _, rfl, b, 2, rfl, TZ3.dr.box, by decide, by decide, fun y Z4 y0 y1 d4 => ?_⟩
      have TZ4 := TZ3.draw d4
      refine ⟨Tu, _, .int y, rfl, rfl, TZ4.t, by rw [List.length_map, an.l]; exact small2000 (by omega), ?_⟩
      refine ⟨ins x.toNat g nu, tu ++ [y], some (.int (g : Int)), rfl, ?_, ⟨?_, by rw [List.length_append, an.l]; rfl, fun s hs => ?_⟩⟩
      · have := TZ4.bit y
        rw [List.map_append] at this
        exact this
      · rw [List.range_succ]
        exact (ins_perm _ _ _).trans ((an.p.cons g).trans (List.perm_append_comm (l₁ := [g])))
      · rcases List.mem_append.mp hs with hs | hs
        · exact an.b s hs
        · rw [List.mem_singleton.mp hs]; omega
    · obtain ⟨nu, tu, y5, rfl, TZ, an⟩ := h
      rw [Int.toNat_natCast] at an
      clear T2
      refine ⟨_, rfl, t, us, true, fun Y => SqL K Y t us, rfl, (same_dr TZ.dr).seq ht, fun _ h => h, fun J wk => for_it wk (fun i σ Z => ∃ (vs : List V) (c' : Cht) (y5 y6 y7 y8 : Option V), σ = [some (.ref b), some (.ref t), some (.ref Fo), some (.ref Nu), some (.ref Tu), y5, y6, y7, y8, none] ∧ Tst K b H Z Fo Nu Tu vs nu tu c' ∧ c'.length = i ∧ c'.flatten.Perm ((c.take i).flatten.map (rnw nu tu)) ∧ RowsOf (rnw nu tu) c c' i) ⟨[], [], y5, none, none, none, rfl, TZ, rfl, List.Perm.refl _, RowsOf.nil _ _⟩ (fun i σ Z _ h => ?_) (fun i x σ Z Z' hi h hy => ?_) (fun σ Z h => ?_)⟩
      · obtain ⟨vs, c', y5, y6, y7, y8, rfl, TZ, _⟩ := h
        exact (same_dr TZ.dr).seq ht
      · clear TZ
        obtain ⟨vs, c', y5, y6, y7, y8, rfl, TZ, c'l, c'p, ro⟩ := h
        obtain ⟨rfl, hx⟩ := hy
        obtain ⟨a, ha, da⟩ := rows i x hx
        obtain ⟨ta, xs, rfl, hxs, lx, get1⟩ := row_l da
        refine at_g (σ' := [some (.ref b), some (.ref t), some (.ref Fo), some (.ref Nu), some (.ref Tu), y5, some (.ref ta), y7, y8, none]) rfl ?_
        have sZ := same_dr TZ.dr
        have al : a.length ≤ 200 := by
          have := congrArg List.length (congrArg List.flatten (List.take_append_drop (i + 1) c))
          rw [List.flatten_append, List.length_append, flat_snoc ha, List.length_append] at this
          omega
        refine ⟨_, rfl, ta, xs, true, fun Y => SqL K Y ta xs, rfl, sZ.seq hxs, fun _ h => h, fun J wk => lc_acc wk (fun k acc G => Same Z' G ∧ DpAll K G acc (((a.take k).map (rnw nu tu)).map enD)) (by rw [lx]; exact small2000 (by omega)) ⟨fun _ _ e => e, .nil⟩ (fun k G D' acc h nD' => ?_) (fun k x D' acc G H' hk nD1 h nD' hy B hB => ?_) (fun D' ys G nD1 h nD' hl => ?_)⟩
        · exact (h.1.trans (same_new nD')).seq (sZ.seq hxs)
        · obtain ⟨rfl, hx1⟩ := hy
          obtain ⟨sG, hacc⟩ := h
          obtain ⟨e, he, de⟩ := get1 k x hx1
          have dG : Dp K G x (enD e) := Dp.same sG _ (Dp.same sZ _ de)
          obtain ⟨p, rfl, hp⟩ := en_ref dG
          refine ⟨p, _, rfl, .inr (Same.tup (same_new nD') hp), rfl, ?_⟩
          refine ⟨_, _, rfl, ?_⟩
          refine at_g rfl ?_
          refine ⟨_, _, rfl, ?_⟩
          refine at_g rfl ?_
          refine ⟨rfl, ?_⟩
          refine hB _ _ rfl nD' fun Qt hQ => ?_
          have TG := TZ.next sG
          obtain ⟨g, hg, hge⟩ := wf.mem.mp (mem_at ha he)
          have e1 : e.1 = (g : Int) := by rcases hge with z | z <;> rw [z]
          have e2 : e.2 = 0 ∨ e.2 = 1 := by rcases hge with z | z <;> rw [z] <;> simp
          have nl : nu.length = n := by rw [an.p.length_eq, List.length_range]
          have an1 : atI (nu.map fun (x : Nat) => V.int (x : Int)) e.1 = some (.int ((nu.getD g 0 : Nat) : Int)) := by
            rw [e1]
            exact atI_nat (by rw [List.getElem?_map, List.getElem?_eq_getElem (by omega : g < nu.length)]; simp [List.getD, show g < nu.length by omega])
          have at1 : atI (tu.map V.int) e.1 = some (.int (tu.getD g 0)) := by
            rw [e1]
            exact atI_nat (by rw [List.getElem?_map, List.getElem?_eq_getElem (by rw [an.l]; exact hg : g < tu.length)]; simp [List.getD, show g < tu.length by rw [an.l]; exact hg])
          refine ⟨_, rfl, _, rfl, Nu, _, _, _, rfl, rfl, .inl (SqL.of TG.n), an1, _, rfl, _, rfl, _, rfl, Tu, _, _, _, rfl, rfl, .inl (SqL.of TG.t), at1, _, _, rfl, rfl, ?_⟩
          have er : rnw nu tu e = (((nu.getD g 0 : Nat) : Int), Builtin.bitXor e.2 (tu.getD g 0)) := by
            unfold rnw
            rw [e1, Int.toNat_natCast, xr_eq e2 (an.bit hg)]
          refine ⟨(by show 2 ≤ sizeLine; decide), fun p2 nP2 => hQ _ _ ⟨sG.trans (same_new nP2), ?_⟩⟩
          rw [take_snoc he, List.map_append, List.map_append]
          refine DpAll.app (DpAll.same (same_new nP2) _ hacc) (.cons ?_ .nil)
          rw [er]
          exact en_new (e := (((nu.getD g 0 : Nat) : Int), Builtin.bitXor e.2 (tu.getD g 0))) upd_same
        · obtain ⟨sG, hys⟩ := h
          rw [lx, List.take_length] at hys
          have TZ1 := (TZ.next sG).next (same_new nD' (o := .lst ys))
          have dys := DpAll.same (same_new nD' (o := .lst ys)) _ hys
          have eD : (upd G D' (.lst ys)) D' = some (.lst ys) := upd_same
          have nDb : D' ≠ b := bx_ne (TZ.next sG).dr.box nD'
          have nDF : D' ≠ Fo := fun z => by have := (TZ.next sG).f; rw [← z, nD'] at this; cases this
          refine at_g (σ' := [some (.ref b), some (.ref t), some (.ref Fo), some (.ref Nu), some (.ref Tu), y5, some (.ref ta), some (.ref D'), y8, none]) rfl ?_
          refine at_h (fun G => Tst K b H G Fo Nu Tu vs nu tu c' ∧ DpAll K G ys ((a.map (rnw nu tu)).map enD) ∧ G D' = some (.lst ys)) ⟨TZ1, dys, eD⟩ fun Z1 hZ1 => ?_
          clear TZ1 dys eD
          obtain ⟨TZ1, dys, eD⟩ := hZ1
          refine ⟨_, rfl, _, rfl, D', ys, rfl, .inl (SqL.of eD), _, _, rfl, b, _, rfl, TZ1.dr.box, ?_, ?_, fun y Z2 y0 y1 d2 => ?_⟩
          · split <;> omega
          · split <;> omega
          have yk : y = ((y.toNat : Nat) : Int) := by omega
          have yl : y.toNat ≤ ys.length := by split at y1 <;> omega
          have TZ2 := TZ1.draw d2
          have dys2 := DpAll.tp (dr_tp TZ1.dr.box d2) _ (by have := noL_rw (a.map (rnw nu tu)); exact this) dys
          have eD2 := d2.same _ _ nDb eD
          refine at_g (σ' := [some (.ref b), some (.ref t), some (.ref Fo), some (.ref Nu), some (.ref Tu), y5, some (.ref ta), some (.ref D'), some (.int y), none]) rfl ?_
          refine ⟨_, rfl, .inl ⟨rfl, _, SqL.of TZ2.f⟩, _, rfl, _, rfl, Fo, vs, rfl, .inl (SqL.of TZ2.f), _, _, rfl, rfl, b, _, rfl, TZ2.dr.box, by omega, ?_, fun x Z3 x0 x1 d3 => ?_⟩
          · have := DpAll.length TZ.v
            rw [List.length_map] at this
            have := (List.getElem?_eq_some_iff.mp ha).1
            omega
          have TZ3 := TZ2.draw d3
          have dys3 := DpAll.tp (dr_tp TZ2.dr.box d3) _ (by have := noL_rw (a.map (rnw nu tu)); exact this) dys2
          have eD3 := d3.same _ _ nDb eD2
          have vl := DpAll.length TZ.v
          rw [List.length_map] at vl
          have ic := (List.getElem?_eq_some_iff.mp ha).1
          refine ⟨_, rfl, _, rfl, y, rfl, D', ys, rfl, SqL.of eD3, fun L1 nL1 => ?_⟩
          have cf : cutV ys (some y) none = ys.drop y.toNat := by rw [yk, Int.toNat_natCast]; exact cutFrom _ _ yl
          have ct : cutV ys none (some y) = ys.take y.toNat := by rw [yk, Int.toNat_natCast]; exact cutTo _ _ yl
          rw [cf]
          have TZ4 := TZ3.next (same_new nL1 (o := .lst (ys.drop y.toNat)))
          have dys4 := DpAll.same (same_new nL1 (o := .lst (ys.drop y.toNat))) _ dys3
          have eD4 := same_new nL1 (o := .lst (ys.drop y.toNat)) _ _ eD3
          have e4 : (upd Z3 L1 (.lst (ys.drop y.toNat))) L1 = some (.lst (ys.drop y.toNat)) := upd_same
          generalize upd Z3 L1 (.lst (ys.drop y.toNat)) = Z4 at TZ4 dys4 eD4 e4
          refine ⟨_, rfl, _, rfl, y, rfl, D', ys, rfl, SqL.of eD4, fun L2 nL2 => ?_⟩
          rw [ct]
          have TZ5 := TZ4.next (same_new nL2 (o := .lst (ys.take y.toNat)))
          have dys5 := DpAll.same (same_new nL2 (o := .lst (ys.take y.toNat))) _ dys4
          have e5 := same_new nL2 (o := .lst (ys.take y.toNat)) _ _ e4
          have e5' : (upd Z4 L2 (.lst (ys.take y.toNat))) L2 = some (.lst (ys.take y.toNat)) := upd_same
          generalize upd Z4 L2 (.lst (ys.take y.toNat)) = Z5 at TZ5 dys5 e5 e5'
          have yl2 : ys.length = a.length := by have := DpAll.length dys; rw [List.length_map, List.length_map] at this; exact this
          refine ⟨L1, L2, _, _, rfl, rfl, e5, e5', by rw [List.length_drop, List.length_take, sizeLine_eq]; omega, fun L3 nL3 => ?_⟩
          have TZ6 := TZ5.next (same_new nL3 (o := .lst (ys.drop y.toNat ++ ys.take y.toNat)))
          have dys6 := DpAll.same (same_new nL3 (o := .lst (ys.drop y.toNat ++ ys.take y.toNat))) _ dys5
          have e6 : (upd Z5 L3 (.lst (ys.drop y.toNat ++ ys.take y.toNat))) L3 = some (.lst (ys.drop y.toNat ++ ys.take y.toNat)) := upd_same
          generalize upd Z5 L3 (.lst (ys.drop y.toNat ++ ys.take y.toNat)) = Z6 at TZ6 dys6 e6
          refine ⟨L3, _, rfl, .inl ⟨SqL.of e6, fun T nT => ?_⟩⟩
          have TZ7 := TZ6.next (same_new nT (o := .tup (ys.drop y.toNat ++ ys.take y.toNat)))
          have dys7 := DpAll.same (same_new nT (o := .tup (ys.drop y.toNat ++ ys.take y.toNat))) _ dys6
          have e7 : (upd Z6 T (.tup (ys.drop y.toNat ++ ys.take y.toNat))) T = some (.tup (ys.drop y.toNat ++ ys.take y.toNat)) := upd_same
          generalize upd Z6 T (.tup (ys.drop y.toNat ++ ys.take y.toNat)) = Z7 at TZ7 dys7 e7
          have row : Dp K Z7 (.ref T) (rwT ((a.map (rnw nu tu)).drop y.toNat ++ (a.map (rnw nu tu)).take y.toNat)) := by
            refine .tup (.inl (.inl e7)) ?_
            rw [List.map_append, List.map_drop, List.map_take]
            exact DpAll.app (dp_cut _ dys7).2 (dp_cut _ dys7).1
          refine ⟨Fo, vs, x, .ref T, rfl, rfl, TZ7.f, small2000 (by omega), x0, by omega, ?_⟩
          refine ⟨_, ins x.toNat ((a.map (rnw nu tu)).drop y.toNat ++ (a.map (rnw nu tu)).take y.toNat) c', y5, some (.ref ta), some (.ref D'), some (.int y), rfl, TZ7.row row x.toNat, by rw [ins_len, c'l], ?_, ro.more ha (turn_perm _ _)⟩
          refine (ins_perm _ _ _).flatten.trans ?_
          rw [List.flatten_cons, flat_snoc ha, List.map_append]
          exact ((turn_perm _ _).append c'p).trans List.perm_append_comm
      · clear TZ
        obtain ⟨vs, c', y5, y6, y7, y8, rfl, TZ, c'l, c'p, ro⟩ := h
        rw [lt] at c'l c'p ro
        rw [List.take_length] at c'p
        refine ⟨_, rfl, Fo, vs, rfl, .inl ⟨SqL.of TZ.f, fun T nT => ?_⟩⟩
        have T2 := TZ.next (same_new nT (o := .tup vs))
        exact q T c' _ T2.dr (dr_no TZ.dr hb nT) (.tup (.inl (.inl upd_same)) T2.v) (an.wf wf c'p) c'l (hng_told hg0 wf an ro)
end
end XL
namespace XL
open PySem PySem.Spec PyProof.Rows L2
abbrev sFl : Stmt := topS 27
theorem ifs_by {c : TT} {S1 S2 : TS} {D : Ends} {σ : L2.St} {H : Hp} (Xs : Bool → Hp → Prop) (hc : ∀ Qt : Bool → Hp → Prop, (∀ b H1, Xs b H1 → Qt b H1) → c σ H Qt) (h1 : ∀ H1, Xs true H1 → S1 D σ H1) (h2 : ∀ H1, Xs false H1 → S2 D σ H1) : tIfS c S1 S2 D σ H :=
  hc _ fun b H1 x => by
    cases b with
    | true => exact if_so rfl (h1 H1 x)
    | false => exact if_no rfl (h2 H1 x)
theorem row_le {c : Cht} {i : Nat} {a : List Tip} (ha : c[i]? = some a) : a.length ≤ c.flatten.length := by
  have := congrArg List.length (congrArg List.flatten (List.take_append_drop (i + 1) c))
  rw [List.flatten_append, List.length_append, flat_snoc ha, List.length_append] at this
  omega
/-- a map under way: a list of lists of ends, each at its own place, none there before -/
structure Bst (K : PySem.W.Frag) (b : Addr) (H Z : Hp) (Ba : Addr) (bs : List Addr) (c : Cht) : Prop where
  hb : Bx H b
  dr : Dr b H Z
  nB : H Ba = none
  nd : bs.Nodup
  nw : ∀ p ∈ bs, H p = none ∧ p ≠ Ba
  f : Z Ba = some (.lst (bs.map V.ref))
  l : FsL K Z bs c
section
variable {K : PySem.W.Frag} {b : Addr} {H Z Z' : Hp} {Ba : Addr} {bs : List Addr} {c : Cht}
theorem Bst.draw (h : Bst K b H Z Ba bs c) (d : Dr b Z Z') : Bst K b H Z' Ba bs c :=
  ⟨h.hb, h.dr.trans d, h.nB, h.nd, h.nw, d.same _ _ (bx_ne h.hb h.nB) h.f, h.l.move (dr_tp h.dr.box d) fun p hp o e => d.same _ _ (bx_ne h.hb (h.nw p hp).1) e⟩
theorem Bst.next (h : Bst K b H Z Ba bs c) (s : Same Z Z') : Bst K b H Z' Ba bs c := h.draw (Dr.of h.dr.box s)
theorem Bst.put (h : Bst K b H Z Ba bs c) {j i : Nat} {p : Addr} {xs : List V} {a : List Tip} {v : V} {e : Tip} (hp : bs[j]? = some p) (ha : c[j]? = some a) (ex : Z p = some (.lst xs)) (dx : DpAll K Z xs (a.map enD)) (dv : Dp K Z v (enD e)) :
    Bst K b H (upd Z p (.lst (xs.take i ++ [v] ++ xs.drop i))) Ba bs (c.set j (ins i e a)) := by
  have tp : Tp Z (upd Z p (.lst (xs.take i ++ [v] ++ xs.drop i))) := Tp.upd ex
  have hm := h.nw p (List.mem_iff_getElem?.mpr ⟨j, hp⟩)
  have hj := (List.getElem?_eq_some_iff.mp ha).1
  refine ⟨h.hb, dr_own h.hb h.dr hm.1, h.nB, h.nd, h.nw, by rw [upd_ne (Ne.symm hm.2)]; exact h.f, ⟨by rw [List.length_set]; exact h.l.l, fun m q hq => ?_⟩⟩
  by_cases z : m = j
  · subst z
    obtain rfl := Option.some.inj (hp.symm.trans hq)
    exact ⟨_, _, List.getElem?_set_self hj, upd_same, dp_ins (f := enD) (ens_tp tp dx) (Dp.tp tp _ (noL_en _) dv) i⟩
  · obtain ⟨ys, r, h1, h2, h3⟩ := h.l.d m q hq
    refine ⟨ys, r, by rw [List.getElem?_set_ne (Ne.symm z)]; exact h1, ?_, ens_tp tp h3⟩
    rw [upd_ne (fun w => by
      subst w
      exact z ((List.getElem?_inj (List.getElem?_eq_some_iff.mp hq).1 h.nd).mp (hq.trans hp.symm)))]
    exact h2
theorem Bst.snoc (h : Bst K b H Z Ba bs c) {p : Addr} {xs : List V} {a : List Tip} (np : H p = none) (nb : p ∉ bs) (ne : p ≠ Ba) (ex : Z p = some (.lst xs)) (dx : DpAll K Z xs (a.map enD)) : Bst K b H (upd Z Ba (.lst ((bs ++ [p]).map V.ref))) Ba (bs ++ [p]) (c ++ [a]) := by
  have tp : Tp Z (upd Z Ba (.lst ((bs ++ [p]).map V.ref))) := Tp.upd h.f
  refine ⟨h.hb, dr_own h.hb h.dr h.nB, h.nB, List.nodup_append.mpr ⟨h.nd, by simp, fun q hq r hr => ?_⟩, fun q hq => ?_, upd_same, ?_⟩
  · rw [List.mem_singleton.mp hr]
    exact fun z => nb (by rw [← z]; exact hq)
  · rcases List.mem_append.mp hq with hq | hq
    · exact h.nw q hq
    · rw [List.mem_singleton.mp hq]; exact ⟨np, ne⟩
  · exact (h.l.snoc ex dx).move tp fun q hq o e => by
      rw [upd_ne (fun z => by
        rw [z] at hq
        rcases List.mem_append.mp hq with hq | hq
        · exact (h.nw _ hq).2 rfl
        · exact ne (List.mem_singleton.mp hq).symm)]
      exact e
theorem tp_del {b : Addr} {Z : Hp} (h : Bx Z b) : Tp Z (delH Z b) := by
  obtain ⟨x, y, z, e⟩ := h
  exact ⟨fun a xs q => by rw [delH_ne (fun w => by rw [w, e] at q; cases q)]; exact q, fun a o xs q => by rw [delH_ne (fun w => by rw [w, e] at q; cases q)]; exact q⟩
theorem Bst.dp (h : Bst K b H Z Ba bs c) : Dp K (delH Z b) (.ref Ba) (chL c) := by
  have m : FsL K (delH Z b) bs c := h.l.move (tp_del h.dr.box) fun p hp o e => by rw [delH_ne (bx_ne h.hb (h.nw p hp).1)]; exact e
  exact m.whole (by rw [delH_ne (bx_ne h.hb h.nB)]; exact h.f)
theorem del_in {b : Addr} {Z : Hp} : Same (delH Z b) Z := fun a o e => by
  by_cases h : a = b
  · rw [h, delH_same] at e; cases e
  · rw [delH_ne h] at e; exact e
theorem Bst.at_ (h : Bst K b H Z Ba bs c) {j : Nat} (hj : j < c.length) : ∃ p xs a, bs[j]? = some p ∧ c[j]? = some a ∧ Z p = some (.lst xs) ∧ DpAll K Z xs (a.map enD) ∧ atI (bs.map V.ref) (j : Int) = some (.ref p) := by
  have hp : bs[j]? = some (bs[j]'(by rw [h.l.l]; exact hj)) := List.getElem?_eq_getElem _
  generalize bs[j]'(by rw [h.l.l]; exact hj) = p at hp
  obtain ⟨xs, a, h1, h2, h3⟩ := h.l.d j p hp
  exact ⟨p, xs, a, hp, h1, h2, h3, atI_nat (by rw [List.getElem?_map, hp]; rfl)⟩
end
section
variable {P : Program} {w : World} {K : PySem.W.Frag} {mg : Str → Option Value} {base : Heap}
/-! ### flat maps -/
abbrev nFl : List Str := ["_law_box_here", "_law_wide", "_law_utmost", "_law_basins", "_law_gate", "_law_side", "_law_lot", "_law_spot", "_law_place", "_law_there", "_law_k"]
theorem scFl : FnScope nFl ["_law_box_here", "_law_wide", "_law_utmost"] (defScope sFl) := ⟨rfl, rfl, rfl, by decide +kernel, rfl, by decide +kernel, by decide +kernel⟩
def spFl (K : PySem.W.Frag) : Sp := fun vs H Q _ => ∃ (b : Addr) (wide utmost : Nat), vs = [.ref b, .int (wide : Nat), .int (utmost : Nat)] ∧ Bx H b ∧ 1 ≤ wide ∧ wide ≤ 90 ∧ utmost ≤ 90 ∧
  ∀ (p : Addr) (c : Cht) (n : Nat) (H' : Hp), Dr b H H' → H p = none → Dp K H' (.ref p) (chT c) → WfC n c → n ≤ utmost → c ≠ [] → c.length ≤ wide → Hng c → Q (.ref p) H'
theorem ok_fl {f ft fo fc ff fa : Addr} {fd fdt fdo fdc fdf fda : FuncData} {k : Nat} (F : Fun K "_law_flat_chart" "_law_flat_chart" sFl f fd) (Tk : Fns P w K mg base k "_law_take" ["_law_box_here", "_law_size"] spTake ft fdt) (Of : Fns P w K mg base k "_law_of" ["_law_box_here", "_law_some"] (spOf K) fo fdo)
    (Co : Fns P w K mg base k "_law_corners" ["_law_rounds_here", "_law_chart_here"] (spCo K) fc fdc) (Fc : Fns P w K mg base k "_law_faces" ["_law_chart_here"] (spFc K) ff fdf) (Ta : Fns P w K mg base k "_law_told_anew" ["_law_box_here", "_law_basins"] (spTa K) fa fda)
    (m_range : mg "range" = none) (m_len : mg "len" = none) (m_int : mg "int" = none) : FnOk P w K mg base CX0 (k + 1) f fd ["_law_box_here", "_law_wide", "_law_utmost"] (spFl K) := by
  refine F.ok scFl (fun vs H Q E h => ?_) (fun cdv A outer s0 H vs Q E hr h => ?_)
  · obtain ⟨b, wide, utmost, rfl, _⟩ := h
    rfl
  obtain ⟨b, wide, utmost, rfl, hb, w1, w2, u2, q⟩ := h
  refine ⟨_, (pss_cons (ps_set (i := 3) scFl.nd rfl (.inl rfl) (pe_lst (pa_cons (pe_lst pa_nil) pa_nil)))
    (pss_cons (ps_for PassesOwn.never rfl (pi_range1 rfl m_range (pa_cons (pe_fn Tk hr rfl (pa_cons (pv 0) (pa_cons (pe_op op_add (pv 2) pe_int) pa_nil))) pa_nil)) (pg_name (i := 4) scFl.nd rfl (.inl rfl))
    (pss_cons (ps_par (i := 5) (j := 6) rfl scFl.nd rfl rfl (by decide) rfl rfl (pa_cons (pe_fn Tk hr rfl (pa_cons (pv 0) (pa_cons pe_int pa_nil))) (pa_cons (pe_fn Of hr rfl (pa_cons (pv 0) (pa_cons (pe_fn Co hr rfl (pa_cons (pe_fn Fc hr rfl (pa_cons (pv 3) pa_nil)) (pa_cons (pv 3) pa_nil))) pa_nil))) pa_nil)) rfl)
    (pss_cons (ps_asg (pe_fn Of hr rfl (pa_cons (pv 0) (pa_cons (pv 6) pa_nil))) (pg_any rfl (pgs_cons (pg_name (i := 7) scFl.nd rfl (.inl rfl)) (pgs_cons (pg_name (i := 8) scFl.nd rfl (.inl rfl)) pgs_nil))))
    (pss_one (ps_if (PW.pt (pw_and (pt_cmpR op_lt (pe_callB (r := rLenA K) call_lenA rfl m_len PySem.boot_len (pa_cons (pv 3) pa_nil)) (pv 1) (nomark _)) (pw_and1 (pt_cmpR op_eq (pe_fn Tk hr rfl (pa_cons (pv 0) (pa_cons pe_int pa_nil))) pe_int (nomark _))))) (pss_cons (ps_expr (pe_bm PySem.F.plainAttrs_list PySem.F.slot_list_insert PySem.F.type_list_insert mt_insert (pe_ix (r := rIxA K) ix_any (pv 3) (pv 7) (fun _ _ => rfl)) (pa_cons (pv 8) (pa_cons (pe_tup (pa_cons (pv 4) (pa_cons (pv 5) pa_nil))) pa_nil))))
    (pss_one (ps_expr (pe_bm PySem.F.plainAttrs_list PySem.F.slot_list_append PySem.F.type_list_append mt_append (pv 3) (pa_cons (pe_lst (pa_cons (pe_tup (pa_cons (pv 4) (pa_cons (pe_op op_sub pe_int (pv 5)) pa_nil))) pa_nil)) pa_nil))))) (pss_cons (ps_asg (pe_fn Of hr rfl (pa_cons (pv 0) (pa_cons (pv 6) pa_nil))) (pg_any rfl (pgs_cons (pg_name (i := 9) scFl.nd rfl (.inl rfl)) (pgs_cons (pg_name (i := 10) scFl.nd rfl (.inl rfl)) pgs_nil))))
    (pss_cons (ps_expr (pe_bm PySem.F.plainAttrs_list PySem.F.slot_list_insert PySem.F.type_list_insert mt_insert (pe_ix (r := rIxA K) ix_any (pv 3) (pv 7) (fun _ _ => rfl)) (pa_cons (pv 8) (pa_cons (pe_tup (pa_cons (pv 4) (pa_cons (pv 5) pa_nil))) pa_nil))))
    (pss_one (ps_expr (pe_bm PySem.F.plainAttrs_list PySem.F.slot_list_insert PySem.F.type_list_insert mt_insert (pe_ix (r := rIxA K) ix_any (pv 3) (pv 9) (fun _ _ => rfl)) (pa_cons (pe_op op_add (pv 10) (pe_callTy call_int1 rfl m_int boot_int' (pa_cons (pe_and (pe_cmpR op_eq (pv 9) (pv 7) (nomark _)) (pe_one (pe_cmpR op_gt (pv 10) (pv 8) (nomark _)))) pa_nil))) (pa_cons (pe_tup (pa_cons (pv 4) (pa_cons (pe_op op_sub pe_int (pv 5)) pa_nil))) pa_nil))))))))))))
    (pss_one (ps_ret (pe_fn Ta hr rfl (pa_cons (pv 0) (pa_cons (pv 3) pa_nil))))))), ?_⟩
  refine ⟨(by show 0 ≤ sizeLine; decide), fun B0 nB0 => ⟨(by show 1 ≤ sizeLine; decide), fun Ba nBa => ?_⟩⟩
  have s1 : Same H (upd H B0 (.lst [])) := same_new nB0
  have nBaH : H Ba = none := s1.free nBa
  have hne : B0 ≠ Ba := fun z => by rw [← z, upd_same] at nBa; cases nBa
  have s2 := s1.trans (same_new nBa (o := .lst [.ref B0]))
  have B1 : Bst K b H (upd (upd H B0 (.lst [])) Ba (.lst [.ref B0])) Ba [B0] [[]] :=
    ⟨hb, Dr.of hb s2, nBaH, by simp, fun p hp => by rw [List.mem_singleton.mp hp]; exact ⟨nB0, hne⟩, upd_same, ⟨rfl, fun j p hp => by
      cases j with
      | zero =>
        obtain rfl := Option.some.inj hp
        exact ⟨[], [], rfl, by rw [upd_ne hne, upd_same], .nil⟩
      | succ j => simp at hp⟩⟩
  refine at_g (σ' := [some (.ref b), some (.int (wide : Nat)), some (.int (utmost : Nat)), some (.ref Ba), none, none, none, none, none, none, none]) rfl ?_
  refine at_h (fun G => Bst K b H G Ba [B0] [[]]) B1 fun H1 B1 => ?_
  clear s1 s2 nBa
  refine ⟨_, rfl, _, rfl, _, _, rfl, rfl, b, _, rfl, B1.dr.box, by omega, by omega, fun x H2 x0 x1 d2 => ?_⟩
  have B2 := B1.draw d2
  refine ⟨x, rfl, by omega, by omega, ?_⟩
  refine for_it walk_range (fun g σ Z => ∃ (bs : List Addr) (c : Cht) (y4 y5 y6 y7 y8 y9 y10 : Option V), σ = [some (.ref b), some (.int (wide : Nat)), some (.int (utmost : Nat)), some (.ref Ba), y4, y5, y6, y7, y8, y9, y10] ∧ Bst K b H Z Ba bs c ∧ WfC g c ∧ c ≠ [] ∧ c.length ≤ wide ∧ Hng c) ⟨[B0], [[]], none, none, none, none, none, none, none, rfl, B2, List.Perm.refl _, by simp, w1, hng_bare⟩ (fun g σ Z _ h => trivial) (fun g x' σ Z Z' hi h hy => ?_) (fun σ Z h => ?_)
  · obtain ⟨bs, c, y4, y5, y6, y7, y8, y9, y10, rfl, BZ, wf, cne, cl, hg0⟩ := h
    obtain ⟨rfl, rfl⟩ := hy
    have h0g : (0 : Int) + (g : Int) = (g : Int) := Int.zero_add _
    have hg : g ≤ 100 := by omega
    refine at_g (σ' := [some (.ref b), some (.int (wide : Nat)), some (.int (utmost : Nat)), some (.ref Ba), some (.int (g : Int)), y5, y6, y7, y8, y9, y10]) (by show [some (.ref b), some (.int (wide : Nat)), some (.int (utmost : Nat)), some (.ref Ba), some (.int (0 + (g : Int))), y5, y6, y7, y8, y9, y10] = _; rw [h0g]) ?_
    refine ⟨_, rfl, b, 2, rfl, BZ.dr.box, by decide, by decide, fun s Z1 s0 s1 d1 => ?_⟩
    have BZ1 := BZ.draw d1
    have ch1 := chA_l (Dp.same del_in _ BZ1.dp)
    refine ⟨_, rfl, _, rfl, .ref Ba, c, g, rfl, ch1, wf, hg, fun pf fs Z2 sf npf df isf => ?_⟩
    have BZ2 := BZ1.next sf
    refine ⟨_, rfl, .ref pf, .ref Ba, c, fs, g, rfl, df, Dp.same del_in _ BZ2.dp, wf, isf, cne, by omega, hg, fun pc as xss Z3 sc npc epc asne asl lts xne => ?_⟩
    have BZ3 := BZ2.next sc
    have npb : pc ≠ b := bx_ne BZ2.dr.box npc
    refine ⟨b, pc, _, rfl, BZ3.dr.box, npb, SqL.of epc, by simpa using asne, by rw [List.length_map]; omega, fun j v Z4 hv d4 => ?_⟩
    rw [List.getElem?_map] at hv
    obtain ⟨pl, hpl, rfl⟩ := Option.map_eq_some_iff.mp hv
    have BZ4 := BZ3.draw d4
    have hpm : pl ∈ as := List.mem_iff_getElem?.mpr ⟨j, hpl⟩
    have plb : pl ≠ b := bx_ne BZ2.dr.box (lts.nw pl hpm)
    obtain ⟨xs, hx1, hx2⟩ := lts.d j pl hpl
    have xm : xs ∈ xss := List.mem_iff_getElem?.mpr ⟨j, hx1⟩
    have xn := xne xs xm
    obtain ⟨xl, xc⟩ := lts.ok xs xm
    have eP4 : Z4 pl = some (.lst xs) := d4.same _ _ plb hx2
    have c4 : ∀ v ∈ xs, Cor K Z4 c v := fun v hv => (xc v hv).tp (dr_tp BZ3.dr.box d4)
    have mne : (pl ∉ bs ∧ pl ≠ Ba) := by
      refine ⟨fun z => ?_, fun z => ?_⟩
      · obtain ⟨ys, e⟩ := BZ2.l.there pl z
        rw [lts.nw pl hpm] at e; cases e
      · have := BZ2.f
        rw [← z, lts.nw pl hpm] at this; cases this
    refine ⟨_, _, rfl, ?_⟩
    refine at_s (σ' := [some (.ref b), some (.int (wide : Nat)), some (.int (utmost : Nat)), some (.ref Ba), some (.int (g : Int)), some (.int s), some (.ref pl), y7, y8, y9, y10]) rfl ?_
    refine at_h (fun G => Bst K b H G Ba bs c ∧ G pl = some (.lst xs) ∧ ∀ v ∈ xs, Cor K G c v) ⟨BZ4, eP4, c4⟩ fun Z5 hZ5 => ?_
    clear BZ4 eP4 c4 BZ3 BZ2 BZ1 xc lts sc sf d4 d1 npc epc asne asl xne df hx1 hx2 ch1
    obtain ⟨B5, eP5, c5⟩ := hZ5
    refine ⟨_, rfl, _, rfl, b, pl, xs, rfl, B5.dr.box, plb, SqL.of eP5, xn, by omega, fun j2 v2 Z6 hv2 d6 => ?_⟩
    obtain ⟨sp, pk, a, dv, ha, hpk⟩ := (c5 v2 (List.mem_iff_getElem?.mpr ⟨j2, hv2⟩)).tp (dr_tp B5.dr.box d6)
    have B6 := B5.draw d6
    have eP6 := d6.same _ _ plb eP5
    have c6 : ∀ v ∈ xs, Cor K Z6 c v := fun v hv => (c5 v hv).tp (dr_tp B5.dr.box d6)
    obtain ⟨T, rfl, hT⟩ := en_ref dv
    have spl := (List.getElem?_eq_some_iff.mp ha).1
    refine ⟨T, _, rfl, .inr hT, rfl, ?_⟩
    refine ⟨_, _, rfl, ?_⟩
    refine at_g (σ' := [some (.ref b), some (.int (wide : Nat)), some (.int (utmost : Nat)), some (.ref Ba), some (.int (g : Int)), some (.int s), some (.ref pl), some (.int (sp : Int)), y8, y9, y10]) rfl ?_
    refine ⟨_, _, rfl, ?_⟩
    refine at_g (σ' := [some (.ref b), some (.int (wide : Nat)), some (.int (utmost : Nat)), some (.ref Ba), some (.int (g : Int)), some (.int s), some (.ref pl), some (.int (sp : Int)), some (.int (pk : Int)), y9, y10]) rfl ?_
    refine ⟨rfl, ?_⟩
    have sv : s = 0 ∨ s = 1 := by omega
    have pkl : pk ≤ 300 := by have := row_le ha; have := wf.len; omega
    have nxt : ∀ (bs' : List Addr) (c' : Cht) (y9 y10 : Option V) (Z : Hp), Bst K b H Z Ba bs' c' → WfC (g + 1) c' → c' ≠ [] → c'.length ≤ wide → Hng c' → ∃ (bs : List Addr) (c : Cht) (y4 y5 y6 y7 y8 z9 z10 : Option V), [some (.ref b), some (.int (wide : Nat)), some (.int (utmost : Nat)), some (.ref Ba), some (.int (g : Int)), some (.int s), some (.ref pl), some (.int (sp : Int)), some (.int (pk : Int)), y9, y10] = [some (.ref b), some (.int (wide : Nat)), some (.int (utmost : Nat)), some (.ref Ba), y4, y5, y6, y7, y8, z9, z10] ∧ Bst K b H Z Ba bs c ∧ WfC (g + 1) c ∧ c ≠ [] ∧ c.length ≤ wide ∧ Hng c :=
      fun bs' c' y9 y10 Z a1 a2 a3 a4 a5 => ⟨bs', c', _, _, _, _, _, y9, y10, rfl, a1, a2, a3, a4, a5⟩
    have rl : a.length ≤ 200 := by have := row_le ha; have := wf.len; omega
    dsimp only
    refine ifs_by (fun t Z => Bst K b H Z Ba bs c ∧ Z pl = some (.lst xs) ∧ (∀ v ∈ xs, Cor K Z c v) ∧ (t = true → c.length < wide)) (fun Qt hQ => ?_) (fun Z hZ => ?_) (fun Z hZ => ?_)
    · refine ⟨_, rfl, Ba, _, rfl, .inl (SqL.of B6.f), _, rfl, _, _, rfl, rfl, _, rfl, ?_⟩
      by_cases z : ((bs.map V.ref).length : Int) < (wide : Nat)
      · refine if_so (decide_eq_true z) ?_
        refine ⟨_, rfl, b, 2, rfl, B6.dr.box, by decide, by decide, fun y Z7 y0 y1 d7 => ?_⟩
        refine ⟨rfl, _, rfl, hQ _ _ ⟨B6.draw d7, d7.same _ _ plb eP6, fun v hv => (c6 v hv).tp (dr_tp B6.dr.box d7), fun _ => ?_⟩⟩
        have := B6.l.l
        rw [List.length_map] at z
        omega
      · refine if_no (decide_eq_false z) ?_
        exact hQ _ _ ⟨B6, eP6, c6, fun z => by cases z⟩
    · obtain ⟨B7, eP7, c7, less⟩ := hZ
      obtain ⟨p, ys, a', hp, ha', ey, dy, atp⟩ := B7.at_ spl
      obtain rfl := Option.some.inj (ha.symm.trans ha')
      have yl := DpAll.length dy
      rw [List.length_map] at yl
      refine ⟨_, rfl, _, rfl, Ba, _, _, .ref p, rfl, rfl, .inl (SqL.of B7.f), atp, .inl ⟨rfl, _, SqL.of ey⟩, _, rfl, _, rfl, _, rfl, (by show 2 ≤ sizeLine; decide), fun T1 nT1 => ?_⟩
      have B8 := B7.next (same_new nT1 (o := .tup [.int (g : Int), .int s]))
      have ey8 := same_new nT1 (o := .tup [.int (g : Int), .int s]) _ _ ey
      have dy8 := ens_tp (Tp.of (same_new nT1 (o := .tup [.int (g : Int), .int s]))) dy
      have dT : Dp K (upd Z T1 (.tup [.int (g : Int), .int s])) (.ref T1) (enD ((g : Int), s)) := en_new (e := ((g : Int), s)) upd_same
      generalize upd Z T1 (.tup [.int (g : Int), .int s]) = Z8 at B8 ey8 dy8 dT
      refine ⟨p, ys, (pk : Int), .ref T1, rfl, rfl, ey8, small2000 (by omega), by omega, by omega, ?_⟩
      have B9 := B8.put (i := ((pk : Int)).toNat) hp ha ey8 dy8 dT
      generalize upd Z8 p (.lst (ys.take ((pk : Int)).toNat ++ [V.ref T1] ++ ys.drop ((pk : Int)).toNat)) = Z9 at B9
      have p1 : (c.set sp (ins ((pk : Int)).toNat ((g : Int), s) a)).flatten.Perm (((g : Int), s) :: c.flatten) := set_flat ha (ins_perm _ _ _)
      have l1 : (c.set sp (ins ((pk : Int)).toNat ((g : Int), s) a)).length = c.length := List.length_set
      have pi1 : PutIn c (c.set sp (ins ((pk : Int)).toNat ((g : Int), s) a)) sp ((g : Int), s) := ⟨a, _, ha, rfl⟩
      generalize c.set sp (ins ((pk : Int)).toNat ((g : Int), s) a) = c1 at B9 p1 l1 pi1
      refine ⟨_, rfl, .inl ⟨rfl, _, SqL.of B9.f⟩, _, rfl, _, rfl, _, _, rfl, rfl, (by show 2 ≤ sizeLine; decide), fun T2 nT2 => ⟨(by show 1 ≤ sizeLine; decide), fun L nL => ?_⟩⟩
      have B10 := (B9.next (same_new nT2 (o := .tup [.int (g : Int), .int (1 - s)]))).next (same_new nL (o := .lst [.ref T2]))
      have dT2 : Dp K (upd (upd Z9 T2 (.tup [.int (g : Int), .int (1 - s)])) L (.lst [.ref T2])) (.ref T2) (enD ((g : Int), 1 - s)) := en_new (e := ((g : Int), 1 - s)) (same_new nL _ _ upd_same)
      have eL : (upd (upd Z9 T2 (.tup [.int (g : Int), .int (1 - s)])) L (.lst [.ref T2])) L = some (.lst [.ref T2]) := upd_same
      have nLH : H L = none := dr_no (B9.next (same_new nT2 (o := .tup [.int (g : Int), .int (1 - s)]))).dr hb nL
      have nLb : L ∉ bs := fun z => by
        obtain ⟨ws, e⟩ := (B9.next (same_new nT2 (o := .tup [.int (g : Int), .int (1 - s)]))).l.there L z
        rw [nL] at e; cases e
      have nLB : L ≠ Ba := fun z => by have := (B9.next (same_new nT2 (o := .tup [.int (g : Int), .int (1 - s)]))).f; rw [← z, nL] at this; cases this
      generalize upd (upd Z9 T2 (.tup [.int (g : Int), .int (1 - s)])) L (.lst [.ref T2]) = Z10 at B10 dT2 eL
      have bl := B10.l.l
      have less2 := less rfl
      refine ⟨Ba, _, .ref L, rfl, rfl, B10.f, by rw [List.length_map]; exact small2000 (by omega), ?_⟩
      have B11 := B10.snoc nLH nLb nLB eL (a := [((g : Int), 1 - s)]) (.cons dT2 .nil)
      rw [List.map_append] at B11
      refine nxt (bs ++ [L]) _ y9 y10 _ B11 (wf.more sv ?_) (by simp) (by rw [List.length_append]; show c1.length + 1 ≤ wide; omega) (hng_new hg0 pi1)
      rw [snoc_flat]
      exact List.perm_append_comm.trans ((p1.cons _).trans (List.Perm.swap _ _ _))
    · obtain ⟨B7, eP7, c7, less⟩ := hZ
      refine ⟨_, rfl, _, rfl, b, pl, xs, rfl, B7.dr.box, plb, SqL.of eP7, xn, by omega, fun j3 v3 Z8 hv3 d8 => ?_⟩
      obtain ⟨th, kk, a2, dv2, ha2, hkk⟩ := (c7 v3 (List.mem_iff_getElem?.mpr ⟨j3, hv3⟩)).tp (dr_tp B7.dr.box d8)
      have B8 := B7.draw d8
      obtain ⟨T0, rfl, hT0⟩ := en_ref dv2
      have thl := (List.getElem?_eq_some_iff.mp ha2).1
      have kl : kk ≤ 300 := by have := row_le ha2; have := wf.len; omega
      refine ⟨T0, _, rfl, .inr hT0, rfl, ?_⟩
      refine ⟨_, _, rfl, ?_⟩
      refine at_g (σ' := [some (.ref b), some (.int (wide : Nat)), some (.int (utmost : Nat)), some (.ref Ba), some (.int (g : Int)), some (.int s), some (.ref pl), some (.int (sp : Int)), some (.int (pk : Int)), some (.int (th : Int)), y10]) rfl ?_
      refine ⟨_, _, rfl, ?_⟩
      refine at_g (σ' := [some (.ref b), some (.int (wide : Nat)), some (.int (utmost : Nat)), some (.ref Ba), some (.int (g : Int)), some (.int s), some (.ref pl), some (.int (sp : Int)), some (.int (pk : Int)), some (.int (th : Int)), some (.int (kk : Int))]) rfl ?_
      refine ⟨rfl, ?_⟩
      obtain ⟨p, ys, a', hp, ha', ey, dy, atp⟩ := B8.at_ spl
      obtain rfl := Option.some.inj (ha.symm.trans ha')
      have yl := DpAll.length dy
      rw [List.length_map] at yl
      refine ⟨_, rfl, _, rfl, Ba, _, _, .ref p, rfl, rfl, .inl (SqL.of B8.f), atp, .inl ⟨rfl, _, SqL.of ey⟩, _, rfl, _, rfl, _, rfl, (by show 2 ≤ sizeLine; decide), fun T1 nT1 => ?_⟩
      have B9 := B8.next (same_new nT1 (o := .tup [.int (g : Int), .int s]))
      have ey9 := same_new nT1 (o := .tup [.int (g : Int), .int s]) _ _ ey
      have dy9 := ens_tp (Tp.of (same_new nT1 (o := .tup [.int (g : Int), .int s]))) dy
      have dT : Dp K (upd Z8 T1 (.tup [.int (g : Int), .int s])) (.ref T1) (enD ((g : Int), s)) := en_new (e := ((g : Int), s)) upd_same
      generalize upd Z8 T1 (.tup [.int (g : Int), .int s]) = Z9 at B9 ey9 dy9 dT
      refine ⟨p, ys, (pk : Int), .ref T1, rfl, rfl, ey9, small2000 (by omega), by omega, by omega, ?_⟩
      have B10 := B9.put (i := ((pk : Int)).toNat) hp ha ey9 dy9 dT
      generalize upd Z9 p (.lst (ys.take ((pk : Int)).toNat ++ [V.ref T1] ++ ys.drop ((pk : Int)).toNat)) = Z10 at B10
      have p1 : (c.set sp (ins ((pk : Int)).toNat ((g : Int), s) a)).flatten.Perm (((g : Int), s) :: c.flatten) := set_flat ha (ins_perm _ _ _)
      have l1 : (c.set sp (ins ((pk : Int)).toNat ((g : Int), s) a)).length = c.length := List.length_set
      have pi1 : PutIn c (c.set sp (ins ((pk : Int)).toNat ((g : Int), s) a)) sp ((g : Int), s) := ⟨a, _, ha, rfl⟩
      generalize c.set sp (ins ((pk : Int)).toNat ((g : Int), s) a) = c1 at B10 p1 l1 pi1
      obtain ⟨p2, zs, a3, hp2, ha3, ez, dz, atp2⟩ := B10.at_ (j := th) (by omega)
      have zl := DpAll.length dz
      rw [List.length_map] at zl
      have rl3 := row_le ha3
      rw [p1.length_eq, List.length_cons, wf.len] at rl3
      refine ⟨_, rfl, _, rfl, Ba, _, _, .ref p2, rfl, rfl, .inl (SqL.of B10.f), atp2, .inl ⟨rfl, _, SqL.of ez⟩, _, rfl, ?_⟩
      refine ⟨_, rfl, _, rfl, rfl, _, rfl, ?_⟩
      by_cases e : V.int (th : Int) = V.int (sp : Int)
      · refine if_so (decide_eq_true e) ?_
        refine ⟨_, rfl, _, rfl, _, _, rfl, rfl, .inr ⟨_, rfl, _, _, rfl, rfl, ?_⟩⟩
        refine ⟨_, rfl, _, rfl, _, _, rfl, rfl, (by show 2 ≤ sizeLine; decide), fun T2 nT2 => ?_⟩
        have B11 := B10.next (same_new nT2 (o := .tup [.int (g : Int), .int (1 - s)]))
        have ez11 := same_new nT2 (o := .tup [.int (g : Int), .int (1 - s)]) _ _ ez
        have dz11 := ens_tp (Tp.of (same_new nT2 (o := .tup [.int (g : Int), .int (1 - s)]))) dz
        have dT2 : Dp K (upd Z10 T2 (.tup [.int (g : Int), .int (1 - s)])) (.ref T2) (enD ((g : Int), 1 - s)) := en_new (e := ((g : Int), 1 - s)) upd_same
        generalize upd Z10 T2 (.tup [.int (g : Int), .int (1 - s)]) = Z11 at B11 ez11 dz11 dT2
        refine ⟨p2, zs, _, .ref T2, rfl, rfl, ez11, small2000 (by omega), ?_, ?_, ?_⟩
        · split <;> omega
        · split <;> omega
        refine nxt bs _ (some (.int (th : Int))) (some (.int (kk : Int))) _ (B11.put hp2 ha3 ez11 dz11 dT2) (wf.more sv ?_) (fun z => ?_) (by rw [List.length_set]; omega) (hng_two hg0 pi1 ⟨a3, _, ha3, rfl⟩)
        · exact (set_flat ha3 (ins_perm _ _ _)).trans ((p1.cons _).trans (List.Perm.swap _ _ _))
        · have := congrArg List.length z
          rw [List.length_set, l1] at this
          exact cne (List.length_eq_zero_iff.mp this)
      · refine if_no (decide_eq_false e) ?_
        refine .inr ⟨_, rfl, _, _, rfl, rfl, ?_⟩
        refine ⟨_, rfl, _, rfl, _, _, rfl, rfl, (by show 2 ≤ sizeLine; decide), fun T2 nT2 => ?_⟩
        have B11 := B10.next (same_new nT2 (o := .tup [.int (g : Int), .int (1 - s)]))
        have ez11 := same_new nT2 (o := .tup [.int (g : Int), .int (1 - s)]) _ _ ez
        have dz11 := ens_tp (Tp.of (same_new nT2 (o := .tup [.int (g : Int), .int (1 - s)]))) dz
        have dT2 : Dp K (upd Z10 T2 (.tup [.int (g : Int), .int (1 - s)])) (.ref T2) (enD ((g : Int), 1 - s)) := en_new (e := ((g : Int), 1 - s)) upd_same
        generalize upd Z10 T2 (.tup [.int (g : Int), .int (1 - s)]) = Z11 at B11 ez11 dz11 dT2
        refine ⟨p2, zs, _, .ref T2, rfl, rfl, ez11, small2000 (by omega), ?_, ?_, ?_⟩
        · split <;> omega
        · split <;> omega
        refine nxt bs _ (some (.int (th : Int))) (some (.int (kk : Int))) _ (B11.put hp2 ha3 ez11 dz11 dT2) (wf.more sv ?_) (fun z => ?_) (by rw [List.length_set]; omega) (hng_two hg0 pi1 ⟨a3, _, ha3, rfl⟩)
        · exact (set_flat ha3 (ins_perm _ _ _)).trans ((p1.cons _).trans (List.Perm.swap _ _ _))
        · have := congrArg List.length z
          rw [List.length_set, l1] at this
          exact cne (List.length_eq_zero_iff.mp this)
  · obtain ⟨bs, c, y4, y5, y6, y7, y8, y9, y10, rfl, BZ, wf, cne, cl, hg0⟩ := h
    refine ⟨_, rfl, _, rfl, b, .ref Ba, c, _, rfl, BZ.dr.box, BZ.dp, wf, by omega, by omega, hg0, fun p' c' H' dr' np' dp' wf' cl' hg' => ?_⟩
    exact q p' c' _ H' (BZ.dr.trans dr') (dr_no BZ.dr hb np') dp' wf' (by omega) (fun z => cne (by rw [z] at cl'; exact List.length_eq_zero_iff.mp cl'.symm)) (by omega) hg'
end
end XL
namespace XL
open PySem PySem.Spec PyProof.Rows L2
abbrev sAn : Stmt := topS 29
section
variable {P : Program} {w : World} {K : PySem.W.Frag} {mg : Str → Option Value} {base : Heap}
/-! ### maps of any kind -/
abbrev nAn : List Str := ["_law_box_here", "_law_wide", "_law_utmost", "_law_basins", "_law_size", "_law_gate", "_law_side", "_law_spot", "_law_there"]
theorem scAn : FnScope nAn ["_law_box_here", "_law_wide", "_law_utmost"] (defScope sAn) := ⟨rfl, rfl, rfl, by decide +kernel, rfl, by decide +kernel, by decide +kernel⟩
theorem ok_an {f ft fa : Addr} {fd fdt fda : FuncData} {k : Nat} (F : Fun K "_law_any_chart" "_law_any_chart" sAn f fd) (Tk : Fns P w K mg base k "_law_take" ["_law_box_here", "_law_size"] spTake ft fdt) (Ta : Fns P w K mg base k "_law_told_anew" ["_law_box_here", "_law_basins"] (spTa K) fa fda)
    (m_range : mg "range" = none) (m_len : mg "len" = none) : FnOk P w K mg base CX0 (k + 1) f fd ["_law_box_here", "_law_wide", "_law_utmost"] (spFl K) := by
  refine F.ok scAn (fun vs H Q E h => ?_) (fun cdv A outer s0 H vs Q E hr h => ?_)
  · obtain ⟨b, wide, utmost, rfl, _⟩ := h
    rfl
  obtain ⟨b, wide, utmost, rfl, hb, w1, w2, u2, q⟩ := h
  refine ⟨_, (pss_cons (ps_par (i := 3) (j := 4) rfl scAn.nd rfl rfl (by decide) rfl rfl (pa_cons (pe_lst (pa_cons (pe_lst pa_nil) pa_nil)) (pa_cons (pe_fn Tk hr rfl (pa_cons (pv 0) (pa_cons (pe_op op_add (pv 2) pe_int) pa_nil))) pa_nil)) rfl)
    (pss_cons (ps_for PassesOwn.never rfl (pi_range1 rfl m_range (pa_cons (pv 4) pa_nil)) (pg_name (i := 5) scAn.nd rfl (.inl rfl))
    (pss_cons (ps_par (i := 6) (j := 7) rfl scAn.nd rfl rfl (by decide) rfl rfl (pa_cons (pe_fn Tk hr rfl (pa_cons (pv 0) (pa_cons pe_int pa_nil))) (pa_cons (pe_fn Tk hr rfl (pa_cons (pv 0) (pa_cons (pe_callB (r := rLenA K) call_lenA rfl m_len PySem.boot_len (pa_cons (pv 3) pa_nil)) pa_nil))) pa_nil)) rfl)
    (pss_cons (ps_expr (pe_bm PySem.F.plainAttrs_list PySem.F.slot_list_insert PySem.F.type_list_insert mt_insert (pe_ix (r := rIxA K) ix_any (pv 3) (pv 7) (fun _ _ => rfl)) (pa_cons (pe_fn Tk hr rfl (pa_cons (pv 0) (pa_cons (pe_op op_add (pe_callB (r := rLenA K) call_lenA rfl m_len PySem.boot_len (pa_cons (pe_ix (r := rIxA K) ix_any (pv 3) (pv 7) (fun _ _ => rfl)) pa_nil)) pe_int) pa_nil))) (pa_cons (pe_tup (pa_cons (pv 5) (pa_cons (pv 6) pa_nil))) pa_nil))))
    (pss_cons (ps_if (PW.pt (pw_and (pt_cmpR op_lt (pe_callB (r := rLenA K) call_lenA rfl m_len PySem.boot_len (pa_cons (pv 3) pa_nil)) (pv 1) (nomark _)) (pw_and1 (pt_cmpR op_eq (pe_fn Tk hr rfl (pa_cons (pv 0) (pa_cons pe_int pa_nil))) pe_int (nomark _))))) (pss_cons (ps_expr (pe_bm PySem.F.plainAttrs_list PySem.F.slot_list_append PySem.F.type_list_append mt_append (pv 3) (pa_cons (pe_lst pa_nil) pa_nil)))
    (pss_one (ps_set (i := 8) scAn.nd rfl (.inl rfl) (pe_op op_sub (pe_callB (r := rLenA K) call_lenA rfl m_len PySem.boot_len (pa_cons (pv 3) pa_nil)) pe_int)))) (pss_one (ps_set (i := 8) scAn.nd rfl (.inl rfl) (pe_fn Tk hr rfl (pa_cons (pv 0) (pa_cons (pe_callB (r := rLenA K) call_lenA rfl m_len PySem.boot_len (pa_cons (pv 3) pa_nil)) pa_nil))))))
    (pss_one (ps_expr (pe_bm PySem.F.plainAttrs_list PySem.F.slot_list_insert PySem.F.type_list_insert mt_insert (pe_ix (r := rIxA K) ix_any (pv 3) (pv 8) (fun _ _ => rfl)) (pa_cons (pe_fn Tk hr rfl (pa_cons (pv 0) (pa_cons (pe_op op_add (pe_callB (r := rLenA K) call_lenA rfl m_len PySem.boot_len (pa_cons (pe_ix (r := rIxA K) ix_any (pv 3) (pv 8) (fun _ _ => rfl)) pa_nil)) pe_int) pa_nil))) (pa_cons (pe_tup (pa_cons (pv 5) (pa_cons (pe_op op_sub pe_int (pv 6)) pa_nil))) pa_nil)))))))))
    (pss_one (ps_ret (pe_fn Ta hr rfl (pa_cons (pv 0) (pa_cons (pv 3) pa_nil))))))), ?_⟩
  refine ⟨(by show 0 ≤ sizeLine; decide), fun B0 nB0 => ⟨(by show 1 ≤ sizeLine; decide), fun Ba nBa => ?_⟩⟩
  have s1 : Same H (upd H B0 (.lst [])) := same_new nB0
  have nBaH : H Ba = none := s1.free nBa
  have hne : B0 ≠ Ba := fun z => by rw [← z, upd_same] at nBa; cases nBa
  have s2 := s1.trans (same_new nBa (o := .lst [.ref B0]))
  have B1 : Bst K b H (upd (upd H B0 (.lst [])) Ba (.lst [.ref B0])) Ba [B0] [[]] :=
    ⟨hb, Dr.of hb s2, nBaH, by simp, fun p hp => by rw [List.mem_singleton.mp hp]; exact ⟨nB0, hne⟩, upd_same, ⟨rfl, fun j p hp => by
      cases j with
      | zero =>
        obtain rfl := Option.some.inj hp
        exact ⟨[], [], rfl, by rw [upd_ne hne, upd_same], .nil⟩
      | succ j => simp at hp⟩⟩
  have B2 := B1
  generalize upd (upd H B0 (.lst [])) Ba (.lst [.ref B0]) = H1 at B2
  clear B1 s1 s2
  refine ⟨_, rfl, _, rfl, _, _, rfl, rfl, b, _, rfl, B2.dr.box, by omega, by omega, fun x H2 x0 x1 d2 => ⟨_, _, rfl, ?_⟩⟩
  have B3 := B2.draw d2
  refine at_s (σ' := [some (.ref b), some (.int (wide : Nat)), some (.int (utmost : Nat)), some (.ref Ba), some (.int x), none, none, none, none]) rfl ?_
  refine ⟨_, rfl, x, rfl, by omega, by omega, ?_⟩
  refine for_it walk_range (fun g σ Z => ∃ (bs : List Addr) (c : Cht) (y5 y6 y7 y8 : Option V), σ = [some (.ref b), some (.int (wide : Nat)), some (.int (utmost : Nat)), some (.ref Ba), some (.int x), y5, y6, y7, y8] ∧ Bst K b H Z Ba bs c ∧ WfC g c ∧ c ≠ [] ∧ c.length ≤ wide ∧ Hng c) ⟨[B0], [[]], none, none, none, none, rfl, B3, List.Perm.refl _, by simp, w1, hng_bare⟩ (fun g σ Z _ h => trivial) (fun g x' σ Z Z' hi h hy => ?_) (fun σ Z h => ?_)
  · obtain ⟨bs, c, y5, y6, y7, y8, rfl, BZ, wf, cne, cl, hg0⟩ := h
    obtain ⟨rfl, rfl⟩ := hy
    have h0g : (0 : Int) + (g : Int) = (g : Int) := Int.zero_add _
    have hg : g ≤ 100 := by omega
    have cpos : 0 < c.length := List.length_pos_iff.mpr cne
    have bl := BZ.l.l
    refine at_g (σ' := [some (.ref b), some (.int (wide : Nat)), some (.int (utmost : Nat)), some (.ref Ba), some (.int x), some (.int (g : Int)), y6, y7, y8]) (by show [some (.ref b), some (.int (wide : Nat)), some (.int (utmost : Nat)), some (.ref Ba), some (.int x), some (.int (0 + (g : Int))), y6, y7, y8] = _; rw [h0g]) ?_
    refine ⟨_, rfl, b, 2, rfl, BZ.dr.box, by decide, by decide, fun s Z1 s0 s1 d1 => ?_⟩
    have B4 := BZ.draw d1
    refine ⟨_, rfl, _, rfl, Ba, _, rfl, .inl (SqL.of B4.f), b, _, rfl, B4.dr.box, by rw [List.length_map]; omega, by rw [List.length_map]; omega, fun sp Z2 sp0 sp1 d2 => ⟨_, _, rfl, ?_⟩⟩
    have B5 := B4.draw d2
    have spn : sp = ((sp.toNat : Nat) : Int) := by omega
    rw [List.length_map] at sp1
    have spl : sp.toNat < c.length := by omega
    generalize sp.toNat = m at spn spl
    subst spn
    have sv : s = 0 ∨ s = 1 := by omega
    refine at_s (σ' := [some (.ref b), some (.int (wide : Nat)), some (.int (utmost : Nat)), some (.ref Ba), some (.int x), some (.int (g : Int)), some (.int s), some (.int (m : Int)), y8]) rfl ?_
    obtain ⟨p, ys, a, hp, ha, ey, dy, atp⟩ := B5.at_ spl
    have yl := DpAll.length dy
    rw [List.length_map] at yl
    have rl := row_le ha
    rw [wf.len] at rl
    refine ⟨_, rfl, _, rfl, Ba, _, _, .ref p, rfl, rfl, .inl (SqL.of B5.f), atp, .inl ⟨rfl, _, SqL.of ey⟩, ?_⟩
    refine ⟨_, rfl, _, rfl, _, rfl, Ba, _, _, .ref p, rfl, rfl, .inl (SqL.of B5.f), atp, p, ys, rfl, .inl (SqL.of ey), _, _, rfl, rfl, b, _, rfl, B5.dr.box, by omega, by omega, fun y Z6 y0 y1 d6 => ?_⟩
    have hm := B5.nw p (List.mem_iff_getElem?.mpr ⟨m, hp⟩)
    have ey6 := d6.same _ _ (bx_ne hb hm.1) ey
    have dy6 := ens_tp (dr_tp B5.dr.box d6) dy
    have B6 := B5.draw d6
    refine ⟨_, rfl, _, rfl, (by show 2 ≤ sizeLine; decide), fun T1 nT1 => ?_⟩
    have B7 := B6.next (same_new nT1 (o := .tup [.int (g : Int), .int s]))
    have ey7 := same_new nT1 (o := .tup [.int (g : Int), .int s]) _ _ ey6
    have dy7 := ens_tp (Tp.of (same_new nT1 (o := .tup [.int (g : Int), .int s]))) dy6
    have dT : Dp K (upd Z6 T1 (.tup [.int (g : Int), .int s])) (.ref T1) (enD ((g : Int), s)) := en_new (e := ((g : Int), s)) upd_same
    generalize upd Z6 T1 (.tup [.int (g : Int), .int s]) = Z7 at B7 ey7 dy7 dT
    refine ⟨p, ys, y, .ref T1, rfl, rfl, ey7, small2000 (by omega), y0, by omega, ?_⟩
    have B8 := B7.put (i := y.toNat) hp ha ey7 dy7 dT
    generalize upd Z7 p (.lst (ys.take y.toNat ++ [V.ref T1] ++ ys.drop y.toNat)) = Z8 at B8
    have p1 : (c.set m (ins y.toNat ((g : Int), s) a)).flatten.Perm (((g : Int), s) :: c.flatten) := set_flat ha (ins_perm _ _ _)
    have l1 : (c.set m (ins y.toNat ((g : Int), s) a)).length = c.length := List.length_set
    have pi1 : PutIn c (c.set m (ins y.toNat ((g : Int), s) a)) m ((g : Int), s) := ⟨a, _, ha, rfl⟩
    generalize c.set m (ins y.toNat ((g : Int), s) a) = c1 at B8 p1 l1 pi1
    clear B7 B6 B5 B4 BZ
    dsimp only
    refine ifs_by (fun t Z => Bst K b H Z Ba bs c1 ∧ (t = true → c.length < wide)) (fun Qt hQ => ?_) (fun Z hZ => ?_) (fun Z hZ => ?_)
    · refine ⟨_, rfl, Ba, _, rfl, .inl (SqL.of B8.f), _, rfl, _, _, rfl, rfl, _, rfl, ?_⟩
      by_cases z : ((bs.map V.ref).length : Int) < (wide : Nat)
      · refine if_so (decide_eq_true z) ?_
        refine ⟨_, rfl, b, 3, rfl, B8.dr.box, by decide, by decide, fun y Z7 y0 y1 d7 => ?_⟩
        refine ⟨rfl, _, rfl, hQ _ _ ⟨B8.draw d7, fun _ => ?_⟩⟩
        rw [List.length_map] at z
        omega
      · refine if_no (decide_eq_false z) ?_
        exact hQ _ _ ⟨B8, fun z => by cases z⟩
    · obtain ⟨B9, less⟩ := hZ
      have less2 := less rfl
      refine ⟨_, rfl, .inl ⟨rfl, _, SqL.of B9.f⟩, (by show 0 ≤ sizeLine; decide), fun L nL => ?_⟩
      have B10 := B9.next (same_new nL (o := .lst []))
      have eL : (upd Z L (.lst [])) L = some (.lst []) := upd_same
      have nLH : H L = none := dr_no B9.dr hb nL
      have nLb : L ∉ bs := fun z => by
        obtain ⟨ws, e⟩ := B9.l.there L z
        rw [nL] at e; cases e
      have nLB : L ≠ Ba := fun z => by have := B9.f; rw [← z, nL] at this; cases this
      generalize upd Z L (.lst []) = Z10 at B10 eL
      refine ⟨Ba, _, .ref L, rfl, rfl, B10.f, by rw [List.length_map]; exact small2000 (by omega), ?_⟩
      have B11 : Bst K b H (upd Z10 Ba (.lst (bs.map V.ref ++ [V.ref L]))) Ba (bs ++ [L]) (c1 ++ [[]]) := by
        have := B10.snoc nLH nLb nLB eL (a := []) .nil
        rw [List.map_append] at this
        exact this
      have PP : (c1 ++ [[]]).flatten.Perm (((g : Int), s) :: c.flatten) := by rw [snoc_flat, List.append_nil]; exact p1
      have l2 : (c1 ++ [[]]).length = c.length + 1 := by rw [List.length_append, l1]; rfl
      have bl2 : (bs ++ [L]).length = c.length + 1 := by rw [List.length_append, bl]; rfl
      generalize upd Z10 Ba (.lst (bs.map V.ref ++ [V.ref L])) = Z11 at B11
      generalize bs ++ [L] = bs2 at B11 bl2 ⊢
      generalize hc2 : c1 ++ [[]] = c2 at B11 PP l2
      obtain ⟨th, hth⟩ : ∃ th : Nat, th = c.length := ⟨_, rfl⟩
      have tl : th < c2.length := by omega
      refine ⟨_, rfl, Ba, _, rfl, .inl (SqL.of B11.f), _, _, rfl, rfl, ?_⟩
      refine at_g (σ' := [some (.ref b), some (.int (wide : Nat)), some (.int (utmost : Nat)), some (.ref Ba), some (.int x), some (.int (g : Int)), some (.int s), some (.int (m : Int)), some (.int (th : Int))]) (by
        have : ((bs2.map V.ref).length : Int) - 1 = (th : Int) := by rw [List.length_map]; omega
        exact congrArg (fun z : Int => ([some (V.ref b), some (V.int (wide : Nat)), some (V.int (utmost : Nat)), some (V.ref Ba), some (V.int x), some (V.int (g : Int)), some (V.int s), some (V.int (m : Int)), some (V.int z)] : List (Option V))) this) ?_
      obtain ⟨p2, zs, a3, hp2, ha3, ez, dz, atp2⟩ := B11.at_ (j := th) tl
      have zl := DpAll.length dz
      rw [List.length_map] at zl
      have rl3 := row_le ha3
      rw [PP.length_eq, List.length_cons, wf.len] at rl3
      refine ⟨_, rfl, _, rfl, Ba, _, _, .ref p2, rfl, rfl, .inl (SqL.of B11.f), atp2, .inl ⟨rfl, _, SqL.of ez⟩, ?_⟩
      refine ⟨_, rfl, _, rfl, _, rfl, Ba, _, _, .ref p2, rfl, rfl, .inl (SqL.of B11.f), atp2, p2, zs, rfl, .inl (SqL.of ez), _, _, rfl, rfl, b, _, rfl, B11.dr.box, by omega, by omega, fun y2 Z12 y20 y21 d12 => ?_⟩
      have hm2 := B11.nw p2 (List.mem_iff_getElem?.mpr ⟨th, hp2⟩)
      have ez12 := d12.same _ _ (bx_ne hb hm2.1) ez
      have dz12 := ens_tp (dr_tp B11.dr.box d12) dz
      have B12 := B11.draw d12
      refine ⟨_, rfl, _, rfl, _, _, rfl, rfl, (by show 2 ≤ sizeLine; decide), fun T2 nT2 => ?_⟩
      have B13 := B12.next (same_new nT2 (o := .tup [.int (g : Int), .int (1 - s)]))
      have ez13 := same_new nT2 (o := .tup [.int (g : Int), .int (1 - s)]) _ _ ez12
      have dz13 := ens_tp (Tp.of (same_new nT2 (o := .tup [.int (g : Int), .int (1 - s)]))) dz12
      have dT2 : Dp K (upd Z12 T2 (.tup [.int (g : Int), .int (1 - s)])) (.ref T2) (enD ((g : Int), 1 - s)) := en_new (e := ((g : Int), 1 - s)) upd_same
      generalize upd Z12 T2 (.tup [.int (g : Int), .int (1 - s)]) = Z13 at B13 ez13 dz13 dT2
      refine ⟨p2, zs, y2, .ref T2, rfl, rfl, ez13, small2000 (by omega), y20, by omega, ?_⟩
      refine ⟨_, _, _, _, _, _, rfl, B13.put hp2 ha3 ez13 dz13 dT2, wf.more sv ?_, fun z => ?_, by rw [List.length_set]; omega, by subst hc2; subst hth; exact hng_new2 hg0 pi1 ⟨a3, _, ha3, rfl⟩⟩
      · exact (set_flat ha3 (ins_perm _ _ _)).trans ((PP.cons _).trans (List.Perm.swap _ _ _))
      · have := congrArg List.length z
        rw [List.length_set, List.length_nil] at this
        omega
    · obtain ⟨B9, _⟩ := hZ
      refine ⟨_, rfl, _, rfl, Ba, _, rfl, .inl (SqL.of B9.f), b, _, rfl, B9.dr.box, by rw [List.length_map]; omega, by rw [List.length_map]; omega, fun tv Z10 t0 t1 d10 => ?_⟩
      have B10 := B9.draw d10
      have tn : tv = ((tv.toNat : Nat) : Int) := by omega
      rw [List.length_map] at t1
      have tl : tv.toNat < c1.length := by omega
      generalize tv.toNat = th at tn tl
      subst tn
      refine at_g (σ' := [some (.ref b), some (.int (wide : Nat)), some (.int (utmost : Nat)), some (.ref Ba), some (.int x), some (.int (g : Int)), some (.int s), some (.int (m : Int)), some (.int (th : Int))]) rfl ?_
      obtain ⟨p2, zs, a3, hp2, ha3, ez, dz, atp2⟩ := B10.at_ (j := th) tl
      have zl := DpAll.length dz
      rw [List.length_map] at zl
      have rl3 := row_le ha3
      rw [p1.length_eq, List.length_cons, wf.len] at rl3
      refine ⟨_, rfl, _, rfl, Ba, _, _, .ref p2, rfl, rfl, .inl (SqL.of B10.f), atp2, .inl ⟨rfl, _, SqL.of ez⟩, ?_⟩
      refine ⟨_, rfl, _, rfl, _, rfl, Ba, _, _, .ref p2, rfl, rfl, .inl (SqL.of B10.f), atp2, p2, zs, rfl, .inl (SqL.of ez), _, _, rfl, rfl, b, _, rfl, B10.dr.box, by omega, by omega, fun y2 Z12 y20 y21 d12 => ?_⟩
      have hm2 := B10.nw p2 (List.mem_iff_getElem?.mpr ⟨th, hp2⟩)
      have ez12 := d12.same _ _ (bx_ne hb hm2.1) ez
      have dz12 := ens_tp (dr_tp B10.dr.box d12) dz
      have B12 := B10.draw d12
      refine ⟨_, rfl, _, rfl, _, _, rfl, rfl, (by show 2 ≤ sizeLine; decide), fun T2 nT2 => ?_⟩
      have B13 := B12.next (same_new nT2 (o := .tup [.int (g : Int), .int (1 - s)]))
      have ez13 := same_new nT2 (o := .tup [.int (g : Int), .int (1 - s)]) _ _ ez12
      have dz13 := ens_tp (Tp.of (same_new nT2 (o := .tup [.int (g : Int), .int (1 - s)]))) dz12
      have dT2 : Dp K (upd Z12 T2 (.tup [.int (g : Int), .int (1 - s)])) (.ref T2) (enD ((g : Int), 1 - s)) := en_new (e := ((g : Int), 1 - s)) upd_same
      generalize upd Z12 T2 (.tup [.int (g : Int), .int (1 - s)]) = Z13 at B13 ez13 dz13 dT2
      refine ⟨p2, zs, y2, .ref T2, rfl, rfl, ez13, small2000 (by omega), y20, by omega, ?_⟩
      refine ⟨_, _, _, _, _, _, rfl, B13.put hp2 ha3 ez13 dz13 dT2, wf.more sv ?_, fun z => ?_, by rw [List.length_set]; omega, hng_two hg0 pi1 ⟨a3, _, ha3, rfl⟩⟩
      · exact (set_flat ha3 (ins_perm _ _ _)).trans ((p1.cons _).trans (List.Perm.swap _ _ _))
      · have := congrArg List.length z
        rw [List.length_set, List.length_nil] at this
        omega
  · obtain ⟨bs, c, y5, y6, y7, y8, rfl, BZ, wf, cne, cl, hg0⟩ := h
    refine ⟨_, rfl, _, rfl, b, .ref Ba, c, _, rfl, BZ.dr.box, BZ.dp, wf, by omega, by omega, hg0, fun p' c' H' dr' np' dp' wf' cl' hg' => ?_⟩
    exact q p' c' _ H' (BZ.dr.trans dr') (dr_no BZ.dr hb np') dp' wf' (by omega) (fun z => cne (by rw [z] at cl'; exact List.length_eq_zero_iff.mp cl'.symm)) (by omega) hg'
end
end XL
namespace XL
open PySem PySem.Spec PyProof.Rows L2
abbrev sEi : Stmt := topS 12
section
variable {P : Program} {w : World} {K : PySem.W.Frag} {mg : Str → Option Value} {base : Heap}
/-! ### all ends as they stand -/
abbrev nEi : List Str := ["chart", "basin", "end"]
theorem scEi : FnScope nEi ["chart"] (defScope sEi) := ⟨rfl, rfl, rfl, by decide +kernel, rfl, by decide +kernel, by decide +kernel⟩
/-- a list or tuple of lists or tuples, whatever is in these -/
structure Raw2 (K : PySem.W.Frag) (H : Hp) (v : V) (xss : List (List V)) : Prop where
  ex : ∃ t us, v = .ref t ∧ Sq2 K H t us ∧ us.length = xss.length ∧ ∀ (i : Nat) (u : V), us[i]? = some u → ∃ ta xs, u = .ref ta ∧ xss[i]? = some xs ∧ Sq2 K H ta xs
theorem Raw2.same {H H' : Hp} {v : V} {xss : List (List V)} (h : Raw2 K H v xss) (s : Same H H') : Raw2 K H' v xss := by
  obtain ⟨t, us, e, q, l, d⟩ := h.ex
  exact ⟨t, us, e, Same.sq2 s q, l, fun i u hu => let ⟨ta, xs, e, a, b⟩ := d i u hu; ⟨ta, xs, e, a, Same.sq2 s b⟩⟩
theorem ChA.raw {H : Hp} {v : V} {c : Cht} (h : ChA K H v c) : ∃ xss, Raw2 K H v xss ∧ DpAll K H xss.flatten (c.flatten.map enD) := by
  obtain ⟨t, us, rfl, ht, lt, rows⟩ := h.ex
  have key : ∀ (us : List V) (c : Cht), us.length = c.length → (∀ (i : Nat) (u : V), us[i]? = some u → ∃ a, c[i]? = some a ∧ RwA K H u a) →
      ∃ xss : List (List V), us.length = xss.length ∧ (∀ (i : Nat) (u : V), us[i]? = some u → ∃ ta xs, u = .ref ta ∧ xss[i]? = some xs ∧ Sq2 K H ta xs) ∧ DpAll K H xss.flatten (c.flatten.map enD) := by
    intro us
    induction us with
    | nil => intro c l _; cases c with
      | nil => exact ⟨[], rfl, fun i u h => by simp at h, .nil⟩
      | cons _ _ => simp at l
    | cons u us ih => intro c l hh; cases c with
      | nil => simp at l
      | cons a c =>
        obtain ⟨xss, e1, e2, e3⟩ := ih c (by simpa using l) fun i w hw => by simpa using hh (i + 1) w (by simpa using hw)
        obtain ⟨a', ea, ra⟩ := hh 0 u rfl
        obtain rfl : a = a' := Option.some.inj ea
        obtain ⟨ta, xs, rfl, hq, hd⟩ := ra.ex
        refine ⟨xs :: xss, by simp [e1], fun i w hw => ?_, ?_⟩
        · cases i with
          | zero =>
            obtain rfl := Option.some.inj hw
            exact ⟨ta, xs, rfl, rfl, hq⟩
          | succ i => simpa using e2 i w (by simpa using hw)
        · rw [List.flatten_cons, List.flatten_cons, List.map_append]
          exact DpAll.app hd e3
  obtain ⟨xss, e1, e2, e3⟩ := key us c lt rows
  exact ⟨xss, ⟨t, us, rfl, ht, e1, e2⟩, e3⟩
def spEi (K : PySem.W.Frag) : Sp := fun vs H Q _ => ∃ (v : V) (xss : List (List V)), vs = [v] ∧ Raw2 K H v xss ∧ xss.flatten.length ≤ 1000 ∧
  ∀ (p : Addr) (H' : Hp), Same H H' → H p = none → H' p = some (.lst xss.flatten) → Q (.ref p) H'
theorem take_cat {xss : List (List V)} {i : Nat} {xs : List V} (h : xss[i]? = some xs) : (xss.take (i + 1)).flatten = (xss.take i).flatten ++ xs := by rw [take_snoc h, List.flatten_append]; simp
theorem cat_lt {xss : List (List V)} {i k : Nat} {xs : List V} {x : V} (h : xss[i]? = some xs) (hx : xs[k]? = some x) : ((xss.take i).flatten ++ xs.take k).length < xss.flatten.length := by
  have e := congrArg List.length (congrArg List.flatten (List.take_append_drop (i + 1) xss))
  rw [List.flatten_append, List.length_append, take_cat h, List.length_append] at e
  have hk := (List.getElem?_eq_some_iff.mp hx).1
  rw [List.length_append, List.length_take]
  omega
theorem ok_ei {f : Addr} {fd : FuncData} {k : Nat} (F : Fun K "ends_in" "ends_in" sEi f fd) : FnOk P w K mg base CX0 (k + 1) f fd ["chart"] (spEi K) := by
  refine F.ok scEi (fun vs H Q E h => ?_) (fun cdv A outer s0 H vs Q E hr h => ?_)
  · obtain ⟨v, c, rfl, _⟩ := h
    rfl
  obtain ⟨v, xss, rfl, hc, few, q⟩ := h
  refine ⟨_, pss_one (ps_ret (pe_lc2 (own := [("basin", 1), ("end", 2)]) (vs1 := [2]) (g := gName 1) (g1 := gName 2) (tt := tYes) (tt1 := tYes) (wi1 := iSeqA K (tVar 1)) rfl scEi.nd (pi_seqA (K := K) rfl (pv 0))
    (blkOk_by (own := [("basin", 1), ("end", 2)]) (N := nEi) (sc := defScope sEi) (by decide +kernel)) (by decide) (fun _ _ _ _ _ => pg_name (i := 1) scEi.nd rfl (.inl rfl)) (fun _ _ _ _ _ => pts_nil)
    (fun _ _ _ _ _ => pi_seqA rfl (pv 1)) (fun _ _ _ _ _ => pg_name (i := 2) scEi.nd rfl (.inl rfl)) (fun _ _ _ _ _ => pts_nil) (fun _ _ _ _ _ => pv 2))), ?_⟩
  obtain ⟨t, us, rfl, ht, lt, rows⟩ := hc.ex
  obtain ⟨bt, htB⟩ := sqB_of ht
  refine ⟨_, rfl, t, us, bt, fun Y => SqB K bt Y t us, rfl, htB, fun _ h => h, fun J wk D nD => ?_⟩
  refine ⟨fun i m Z => m = us.length - i ∧ i ≤ us.length ∧ Same H Z ∧ Z D = some (.lst (xss.take i).flatten), ⟨us.length, rfl, Nat.zero_le _, same_new nD, upd_same⟩, ?_⟩
  rintro i m Z ⟨rfl, hi, sZ, eD⟩
  have g := Same.sqB sZ htB
  by_cases hlt : i < us.length
  · refine .inr ⟨wk.goes i Z hlt g, fun Z' => Same H Z' ∧ Z' D = some (.lst (xss.take (i + 1)).flatten), fun Z' h => ⟨us.length - (i + 1), by omega, rfl, hlt, h⟩, fun x Z' hy => ?_⟩
    obtain ⟨rfl, hx⟩ := wk.yields i Z x Z' hlt g hy
    obtain ⟨ta, xs, rfl, ha, hxs⟩ := rows i x hx
    obtain ⟨bb, hbb⟩ := sqB_of hxs
    refine at_g rfl ?_
    refine ⟨rfl, ?_⟩
    unfold tYes
    dsimp only
    rw [if_pos rfl]
    refine ⟨_, rfl, ta, xs, bb, fun Y => SqB K bb Y ta xs, rfl, Same.sqB sZ hbb, fun _ h => h, fun J1 wk1 => ?_⟩
    refine ⟨fun k m Y => m = xs.length - k ∧ k ≤ xs.length ∧ Same H Y ∧ Y D = some (.lst ((xss.take i).flatten ++ xs.take k)), ⟨xs.length, rfl, Nat.zero_le _, sZ, by rw [List.take_zero, List.append_nil]; exact eD⟩, ?_⟩
    rintro k m Y ⟨rfl, hk, sY, eD⟩
    have g1 := Same.sqB sY hbb
    by_cases hlt1 : k < xs.length
    · refine .inr ⟨wk1.goes k Y hlt1 g1, fun Y' => Same H Y' ∧ Y' D = some (.lst ((xss.take i).flatten ++ xs.take (k + 1))), fun Y' h => ⟨xs.length - (k + 1), by omega, rfl, hlt1, h⟩, fun x1 Y' hy1 => ?_⟩
      obtain ⟨rfl, hx1⟩ := wk1.yields k Y x1 Y' hlt1 g1 hy1
      refine at_g rfl ?_
      refine ⟨rfl, ?_⟩
      rw [if_pos rfl]
      have la := cat_lt ha hx1
      refine ⟨_, rfl, _, eD, small2000 (by omega), fun q o e => ?_, ?_⟩
      · rw [upd_ne (fun z => by rw [z, nD] at e; cases e)]
        exact sY _ _ e
      · rw [take_snoc hx1, ← List.append_assoc]
        exact upd_same
    · have e : k = xs.length := by omega
      subst e
      rw [List.take_length] at eD
      exact .inl ⟨wk1.stops Y g1, sY, by rw [take_cat ha]; exact eD⟩
  · have e : i = us.length := by omega
    subst e
    rw [lt, List.take_length] at eD
    exact .inl ⟨wk.stops Z g, q D Z sZ nD eD⟩
end
end XL
namespace XL
open PySem PySem.Spec PyProof.Rows L2
abbrev sBb : Stmt := topS 14
section
variable {P : Program} {w : World} {K : PySem.W.Frag} {mg : Str → Option Value} {base : Heap}
/-! ### for each end its basin -/
abbrev nBb : List Str := ["chart", "basin", "ends", "end"]
theorem scBb : FnScope nBb ["chart"] (defScope sBb) := ⟨rfl, rfl, rfl, by decide +kernel, rfl, by decide +kernel, by decide +kernel⟩
def spBb (P : Program) (w : World) (K : PySem.W.Frag) : Sp := fun vs H Q _ => ∃ (v : V) (c : Cht), vs = [v] ∧ ChA K H v c ∧ c.flatten.Nodup ∧ c.flatten.length ≤ 1000 ∧
  ∀ (D : Addr) (es : List NE) (H' : Hp), H D = none → Same H H' → H' D = some (DNo P w D es) → EnE K H' RN es (bbE c) → Q (.ref D) H'
theorem ok_bb {f : Addr} {fd : FuncData} {k : Nat} (F : Fun K "basins_by_end" "basins_by_end" sBb f fd) (m_enumerate : mg "enumerate" = none) : FnOk P w K mg base CX0 (k + 1) f fd ["chart"] (spBb P w K) := by
  refine F.ok scBb (fun vs H Q E h => ?_) (fun cdv A outer s0 H vs Q E hr h => ?_)
  · obtain ⟨v, c, rfl, _⟩ := h
    rfl
  obtain ⟨v, c, rfl, hc, nd, few, q⟩ := h
  refine ⟨_, pss_one (ps_ret (pe_dc2 (own := [("basin", 1), ("ends", 2), ("end", 3)]) (us := [3]) (g := gAny K 2 (gCons (gName 1) (gCons (gName 2) gNil))) (gj := gName 3) (wj := iSeqA K (tVar 2)) (tk := tVar 3) (tv := tVar 1)
    ⟨hu10 hr.units, rfl, scBb.nd, pi_enumA rfl m_enumerate (pa_cons (pv 0) pa_nil), blkOk_by (own := [("basin", 1), ("ends", 2), ("end", 3)]) (N := nBb) (sc := defScope sBb) (by decide +kernel), by decide,
      fun _ _ _ _ _ => pg_any rfl (pgs_cons (pg_name (i := 1) scBb.nd rfl (.inl rfl)) (pgs_cons (pg_name (i := 2) scBb.nd rfl (.inl rfl)) pgs_nil)), fun _ _ _ _ _ => pi_seqA rfl (pv 2), fun _ _ _ _ _ => pg_name (i := 3) scBb.nd rfl (.inl rfl),
      fun _ _ _ _ _ => pv 3, fun _ _ _ _ _ => pv 1, fun _ => rfl, fun _ _ => rfl⟩)), ?_⟩
  obtain ⟨t, us, rfl, ht, lt, rows⟩ := hc.ex
  obtain ⟨bt, htB⟩ := sqB_of ht
  refine ⟨_, rfl, t, us, bt, fun Y => SqB K bt Y t us, rfl, htB, fun _ h => h, fun J wk D nD => ?_⟩
  refine ⟨fun i m Z => m = us.length - i ∧ i ≤ us.length ∧ Same H Z ∧ ∃ es, Z D = some (DNo P w D es) ∧ EnE K Z RN es (bbE (c.take i)), ⟨us.length, rfl, Nat.zero_le _, same_new nD, [], upd_same, EnE.nil⟩, ?_⟩
  rintro i m Z ⟨rfl, hi, sZ, es, eD, fe⟩
  have g := Same.sqB sZ htB
  by_cases hlt : i < us.length
  · refine .inr ⟨wk.goes i Z hlt g, fun x Z' hy => ?_⟩
    obtain ⟨T, x0, x1, rfl, nT, rfl, hi0, hx⟩ := wk.yields i Z x Z' hlt g hy
    obtain rfl := Option.some.inj hi0
    obtain ⟨a, ha, ra⟩ := rows i x1 hx
    obtain ⟨ta, xs, rfl, hxs, lx, get1, _⟩ := ra.at_
    obtain ⟨bb, hbb⟩ := sqB_of hxs
    have sT := same_new nT (o := .tup [.int (i : Int), .ref ta])
    have sZ1 := sZ.trans sT
    have eD1 := sT _ _ eD
    have fe1 := fe.move (Tp.of sT) RN.mono
    have uT : (upd Z T (.tup [.int (i : Int), .ref ta])) T = some (.tup [.int (i : Int), .ref ta]) := upd_same
    generalize upd Z T (.tup [.int (i : Int), .ref ta]) = Z1 at sZ1 eD1 fe1 uT
    refine ⟨T, _, rfl, .inr (.inl (.inl uT)), rfl, ?_⟩
    refine ⟨_, _, rfl, ?_⟩
    refine at_g rfl ?_
    refine ⟨_, _, rfl, ?_⟩
    refine at_g rfl ?_
    refine ⟨rfl, ?_⟩
    refine ⟨rfl, ?_⟩
    refine ⟨_, rfl, ta, xs, bb, fun Y => SqB K bb Y ta xs, rfl, Same.sqB sZ1 hbb, fun _ h => h, fun J1 wk1 => ?_⟩
    refine ⟨fun k m Y => m = xs.length - k ∧ k ≤ xs.length ∧ Same H Y ∧ ∃ es, Y D = some (DNo P w D es) ∧ EnE K Y RN es (bbE (c.take i) ++ (a.take k).map fun e => (e, i)), ⟨xs.length, rfl, Nat.zero_le _, sZ1, es, eD1, by rw [List.take_zero, List.map_nil, List.append_nil]; exact fe1⟩, ?_⟩
    rintro k m Y ⟨rfl, hk, sY, es', eY, ge⟩
    have g1 := Same.sqB sY hbb
    by_cases hlt1 : k < xs.length
    · refine .inr ⟨wk1.goes k Y hlt1 g1, fun x2 Y' hy1 => ?_⟩
      obtain ⟨rfl, hx1⟩ := wk1.yields k Y x2 Y' hlt1 g1 hy1
      obtain ⟨e, he, de⟩ := get1 k x2 hx1
      obtain ⟨b, rfl, _⟩ := en_ref de
      have dY := Dp.same sY _ de
      have no : atN es' (kyE e) = none := ge.none (by rw [bb_pre]; exact new_at nd ha he)
      have len : es'.length < c.flatten.length := by
        rw [ge.l, ← List.length_map (f := Prod.fst), bb_pre]
        exact len_at ha he
      refine at_g rfl ?_
      refine ⟨rfl, _, rfl, _, rfl, _, xs.length - (k + 1), ⟨es', kyE e, b, eY, ge.ky, rfl, en_at dY, no, small2000 (by omega), rfl⟩, by omega, rfl, hlt1, fun q o e => ?_, es' ++ [(kyE e, b, .int (i : Nat))], upd_same, ?_⟩
      · rw [upd_ne (fun z => by rw [z, nD] at e; cases e)]
        exact sY _ _ e
      · have tp := tp_dno (o := DNo P w D (es' ++ [(kyE e, b, .int (i : Nat))])) eY
        rw [take_snoc he, List.map_append, ← List.append_assoc]
        exact (ge.snoc (e := e) (y := i) dY rfl).move tp RN.mono
    · have e : k = xs.length := by omega
      subst e
      rw [lx, List.take_length] at ge
      exact .inl ⟨wk1.stops Y g1, us.length - (i + 1), by omega, rfl, hlt, sY, es', eY, by rw [bb_at ha]; exact ge⟩
  · have e : i = us.length := by omega
    subst e
    rw [lt, List.take_length] at fe
    exact .inl ⟨wk.stops Z g, q D es Z nD sZ eD fe⟩
end
end XL
namespace XL
open PySem PySem.Spec PyProof.Rows L2
/-! ### sorted(a set of tuples that their first numbers tell apart) -/
structure Hds (h : Heap) (vs : List Value) : Prop where
  tup : ∀ v ∈ vs, ∃ n ns, TS.TupInts h v (n :: ns)
  one : ∀ u ∈ vs, ∀ v ∈ vs, ∀ n ns ms, TS.TupInts h u (n :: ns) → TS.TupInts h v (n :: ms) → ns = ms
theorem TupInts_eq {h : Heap} {v : Value} {ns ms : List Int} (a : TS.TupInts h v ns) (b : TS.TupInts h v ms) : ns = ms := a.ints.symm.trans b.ints
theorem Hds.keeps {h h' : Heap} {vs : List Value} (x : Hds h vs) (k : ∀ b o, h.get? b = some o → o.cls = .type "tuple" → h'.get? b = some o) : Hds h' vs := by
  have back : ∀ v ∈ vs, ∀ n ns, TS.TupInts h' v (n :: ns) → TS.TupInts h v (n :: ns) := fun v hv n ns t => by
    obtain ⟨n0, ns0, t0⟩ := x.tup v hv
    rw [TupInts_eq t (t0.keeps k)]; exact t0
  refine ⟨fun v hv => ?_, fun u hu v hv n ns ms a b => x.one u hu v hv n ns ms (back u hu n ns a) (back v hv n ms b)⟩
  obtain ⟨n, ns, t⟩ := x.tup v hv
  exact ⟨n, ns, t.keeps k⟩
def hd0 : List Int → Int
  | [] => 0
  | n :: _ => n
def rk (h : Heap) (v : Value) : Int := hd0 (TS.intsOf h v)
theorem rk_of {h : Heap} {v : Value} {n : Int} {ns : List Int} (t : TS.TupInts h v (n :: ns)) : rk h v = n := by
  unfold rk
  rw [t.ints]; rfl
section
variable {prog : Program} {w : World} {A : Around} {E : Value → Shared → Prop} {s : Shared} {QB : Bool → Shared → Prop}
theorem lex_eq {b fin : Bool} {xs : List Value} {ns : List Int} (hx : IntsAre xs ns) : ∀ {ys : List Value} (i : Nat), IntsAre ys ns → QB fin s → PySem.W.KatLex prog w A b fin QB (xs.zip ys) i s := by
  induction hx with
  | nil =>
    intro ys i hy q
    cases hy
    exact PySem.W.kat_nil q
  | @cons p t xs ns hx ih =>
    intro ys i hy q
    cases hy with
    | @cons _ u ys _ hy =>
      refine PySem.W.kat_cons (wpAny_eqBool_int ?_)
      rw [beq_self_eq_true]
      exact PySem.W.kat_yes (ih (i + 1) hy q)
theorem ints_cons {xs : List Value} {n : Int} {ns : List Int} (h : IntsAre xs (n :: ns)) : ∃ t ys, xs = .int n t :: ys ∧ IntsAre ys ns := by
  cases h with
  | cons p t r => exact ⟨t, _, rfl, r⟩
theorem firsts_h {h : Heap} : ∀ vs : List Value, (∀ v ∈ vs, ∃ n ns, TS.TupInts h v (n :: ns)) → ∃ fs, PySem.W.KatTups h vs fs ∧ fs.length = vs.length ∧ ∀ f ∈ fs, ∃ n t, f = Value.int n t
  | [], _ => ⟨[], trivial, rfl, fun f hf => by simp at hf⟩
  | v :: vs, x => by
    obtain ⟨fs, k, hl, hi⟩ := firsts_h vs fun u hu => x u (List.mem_cons_of_mem _ hu)
    obtain ⟨n, ns, a, xs, e, ⟨o, ho, hc, c, hdt⟩, i⟩ := x v (List.mem_cons_self ..)
    obtain ⟨t, ys, ey, _⟩ := ints_cons i
    subst e
    have h0 : xs[0]? = some (.int n t) := by rw [← Array.getElem?_toList, ey]; rfl
    refine ⟨.int n t :: fs, ⟨⟨a, o, xs, c, rfl, ho, hc, hdt, h0⟩, k⟩, by simp [hl], fun f hf => ?_⟩
    rcases List.mem_cons.mp hf with z | z
    · exact ⟨n, t, z⟩
    · exact hi f z
theorem kind_h {vs : List Value} (h2 : 2 ≤ vs.length) (x : Hds s.heap vs) (r : Value → Int) (hr : ∀ v ∈ vs, ∀ n ns, TS.TupInts s.heap v (n :: ns) → r v = n) (Q : SortKind → Shared → Prop)
    (h : ∀ κ, TS.Cmp prog w A s κ (pairsOf vs) r → Q κ s) : wpAny (model prog w) A (keyKind' vs.toArray) Q E s := by
  obtain ⟨fs, k, hl, hi⟩ := firsts_h vs x.tup
  refine PySem.W.kat_kind (T := Value.type "int") k (by rw [hl]; omega) (fun f hf => ?_) rfl (h _ fun p q hp hq Q' E' hQ => ?_)
  · obtain ⟨n, t, rfl⟩ := hi f hf
    exact PySem.W.Looks.of_pure rfl
  · rw [pairsOf_toList] at hp hq
    have mp := (mem_zip_self hp).2
    have mq := (mem_zip_self hq).2
    obtain ⟨n, ns, tp⟩ := x.tup _ mp
    obtain ⟨m, ms, tq⟩ := x.tup _ mq
    rw [hr _ mp _ _ tp, hr _ mq _ _ tq] at hQ
    have same : n = m → ns = ms := fun e => by subst e; exact x.one _ mp _ mq n ns ms tp tq
    obtain ⟨a, xs, e1, ⟨o, ho, hc, c, hdt⟩, i⟩ := tp
    obtain ⟨a', ys, e2, ⟨o', ho', hc', c', hdt'⟩, i'⟩ := tq
    rw [e1, e2]
    refine PySem.W.kat_lt ho hdt ho' hdt' ?_
    by_cases e : n = m
    · have e' := same e
      subst e e'
      have sz : decide (xs.size < ys.size) = false := by
        have l1 := i.length; have l2 := i'.length
        rw [Array.length_toList] at l1 l2
        exact decide_eq_false (by omega)
      rw [sz]
      rw [decide_eq_false (Int.lt_irrefl n)] at hQ
      exact lex_eq i 0 i' hQ
    · obtain ⟨t, xs', ex, _⟩ := ints_cons i
      obtain ⟨t', ys', ey, _⟩ := ints_cons i'
      rw [ex, ey]
      refine PySem.W.kat_cons (wpAny_eqBool_int ?_)
      rw [show (n == m) = false from beq_eq_false_iff_ne.mpr e]
      exact PySem.W.kat_no (TS.oneLt_ints _ hQ)
theorem sort_h {a : Addr} {vs : List Value} {c : Nat} {Q : Value → Shared → Prop} (ho : s.heap.get? a = some (seqObj "list" vs.toArray c)) (h64 : vs.length < 64) (x : Hds s.heap vs)
    (h : ∀ out : Array Value, out.toList.Perm vs → out.toList.Pairwise (fun u v => rk s.heap u ≤ rk s.heap v) → Q .none { s with heap := sortedHeap s.heap a vs out }) :
    wpAny (model prog w) A (call (.builtin "list.sort") [.ref a]) Q E s := by
  have keep : ∀ b o, s.heap.get? b = some o → o.cls = .type "tuple" → (TS.midHeap s.heap a vs).get? b = some o := fun b o e hc => by
    refine TS.midHeap_old (fun z => ?_) e
    rw [z, ho] at e
    cases e
    exact absurd (Value.type.inj hc) (by decide)
  refine wpAny_call_entry slot_list_sort ⟨_, ho, rfl⟩ entry_list_sort (SK.plain_sort (r := rk s.heap) ho h64 (fun h2 Q1 hQ1 => ?_) fun ps out h1 h2 h3 => ⟨_, rfl, ?_⟩) (args_list_sort _)
  · refine kind_h (s := { s with heap := TS.midHeap s.heap a vs }) h2 (x.keeps keep) _ (fun v hv n ns t => ?_) Q1 hQ1
    obtain ⟨n0, ns0, t0⟩ := x.tup v hv
    have e := TupInts_eq t (t0.keeps keep)
    cases e
    exact rk_of t0
  · obtain ⟨p1, p2⟩ := TS.out_rank h1 h2 h3
    exact h out p1 p2
variable {P : Program}
theorem sorted_setH {a : Addr} {L : List (Addr × List Int)} {es : Array (Int × Value)} {ep : Nat} {t : SetTable} {Q : Value → Shared → Prop} (R : SetTR P w s.heap a L es ep t) (hh : A.handled = none)
    (hn : ∀ p ∈ L, ∃ n ns, p.2 = n :: ns) (h1 : ∀ p ∈ L, ∀ q ∈ L, hd0 p.2 = hd0 q.2 → p.2 = q.2)
    (hQ : ∀ s' p (out : Array Value) (c : Nat) (L' : List (Addr × List Int)), (∀ b o, s.heap.get? b = some o → s'.heap.get? b = some o) → s'.gens = s.gens → s'.os = s.os → s.heap.objs.size ≤ p →
      s'.heap.get? p = some (seqObj "list" out c) → out.toList = L'.map (fun q => Value.ref q.1) → L'.Perm L → L'.Pairwise (fun q r => hd0 q.2 ≤ hd0 r.2) → Q (.ref p) s') :
    wpAny (model P w) A (call (.builtin "sorted") [.ref a]) Q E s := by
  obtain ⟨o, ho, hex, hd⟩ := R.ob
  have hsz := R.size
  have hfew := R.few
  refine Calls.call_function_entry kind_sorted plain_sorted entry_sorted (args_sorted1 _) ?_
  unfold Builtin.«sorted»
  refine wpAny_bind (m := checkCount "sorted" 1 1 _) (wpAny_pure (wpAny_bind (collect_set (A := A.in1) hh ⟨o, ho, hex.1, hd⟩ R.fits (by unfold scanBound; omega) R.tab.ris R.led fun s1 vs k1 hz g1 o1 pm => ?_)))
  have hes : es.toList.map (·.2) = L.map fun q => Value.ref q.1 := by
    rw [R.rows]; unfold rowsOf; rw [List.map_map]; rfl
  rw [hes] at pm
  have back : ∀ us : List Value, (∀ v ∈ us, ∃ q ∈ L, v = Value.ref q.1) → ∃ M : List (Addr × List Int), us = M.map (fun q => Value.ref q.1) ∧ ∀ q ∈ M, q ∈ L := by
    intro us
    induction us with
    | nil => exact fun _ => ⟨[], rfl, fun q h => by cases h⟩
    | cons v us ih =>
      intro hv
      obtain ⟨q, hq, e⟩ := hv v List.mem_cons_self
      obtain ⟨M, e1, hs⟩ := ih fun u hu => hv u (List.mem_cons_of_mem _ hu)
      exact ⟨q :: M, by rw [List.map_cons, e, e1], fun r hr => by rcases List.mem_cons.mp hr with z | z; rw [z]; exact hq; exact hs r z⟩
  have key : ∀ q ∈ L, ∀ r ∈ L, q.1 = r.1 → q = r := fun q hq r hr e => by
    have u1 := R.tup q hq
    rw [e] at u1
    exact Prod.ext e (u1.inj (R.tup r hr))
  have nL : L.Nodup := nodup_of_map R.nd
  have nR : (L.map fun q => Value.ref q.1).Nodup := List.pairwise_map.mpr (List.Pairwise.imp_of_mem (fun {q r} hq hr hne e => hne (key q hq r hr (Value.ref.inj e))) nL)
  have pof : ∀ M : List (Addr × List Int), (∀ q ∈ M, q ∈ L) → (M.map (fun q => Value.ref q.1)).Perm (L.map fun q => Value.ref q.1) → M.Perm L := by
    intro M hs pM
    refine (List.perm_ext_iff_of_nodup (nodup_of_map (pM.nodup_iff.mpr nR)) nL).mpr fun q => ⟨hs q, fun hq => ?_⟩
    obtain ⟨r, hr, e⟩ := List.mem_map.mp (pM.mem_iff.mpr (List.mem_map.mpr ⟨q, hq, rfl⟩))
    rw [← key r (hs r hr) q hq (Value.ref.inj e)]; exact hr
  have hvl : vs.length < 64 := by rw [pm.length_eq, List.length_map]; exact hfew
  refine wpAny_bind (wpAny_newList ?_ (by rw [sizeLine_eq]; omega))
  have hL0 : (s1.heap.push (seqObj "list" vs.toArray 0)).get? s1.heap.objs.size = some (seqObj "list" vs.toArray 0) := Heap.get?_push_size _ rfl
  have tk : ∀ q ∈ L, TS.TupInts (s1.heap.push (seqObj "list" vs.toArray 0)) (.ref q.1) q.2 := fun q hq =>
    tupInts_of (P := P) (w := w) (isT_keep (R.tup q hq) fun b u e => Heap.get?_push_of_some _ (k1 b u e))
  have of : ∀ v ∈ vs, ∃ q ∈ L, v = Value.ref q.1 := fun v hv => by
    obtain ⟨q, hq, e⟩ := List.mem_map.mp (pm.mem_iff.mp hv)
    exact ⟨q, hq, e.symm⟩
  have x : Hds (s1.heap.push (seqObj "list" vs.toArray 0)) vs := by
    refine ⟨fun v hv => ?_, fun u hu v hv n ns ms a1 a2 => ?_⟩
    · obtain ⟨q, hq, e⟩ := of v hv
      obtain ⟨n, ns, en⟩ := hn q hq
      refine ⟨n, ns, ?_⟩
      rw [e, ← en]; exact tk q hq
    · obtain ⟨q, hq, e⟩ := of u hu
      obtain ⟨r, hr, e'⟩ := of v hv
      subst e e'
      have z1 := TupInts_eq a1 (tk q hq)
      have z2 := TupInts_eq a2 (tk r hr)
      have z3 := h1 q hq r hr (by rw [← z1, ← z2]; rfl)
      rw [← z1, ← z2] at z3
      exact (List.cons.inj z3).2
  refine wpAny_bind (wpAny_holding (sort_h (s := { s1 with heap := s1.heap.push (seqObj "list" vs.toArray 0) }) hL0 hvl x fun out a1 a2 => ?_))
  obtain ⟨c, hc⟩ := sortedHeap_at (vs := vs) (out := out) hL0
  obtain ⟨M, e', hs'⟩ := back out.toList fun v hv => of v (a1.mem_iff.mp hv)
  have pL : M.Perm L := pof M hs' (by rw [← e']; exact a1.trans pm)
  have pw : M.Pairwise (fun q r => hd0 q.2 ≤ hd0 r.2) := by
    rw [e'] at a2
    refine List.Pairwise.imp_of_mem (fun {q r} hq hr hle => ?_) (List.pairwise_map.mp a2)
    have f1 : rk (s1.heap.push (seqObj "list" vs.toArray 0)) (.ref q.1) = hd0 q.2 := by unfold rk; rw [(tk q (hs' q hq)).ints]
    have f2 : rk (s1.heap.push (seqObj "list" vs.toArray 0)) (.ref r.1) = hd0 r.2 := by unfold rk; rw [(tk r (hs' r hr)).ints]
    rw [← f1, ← f2]; exact hle
  refine wpAny_pure ⟨_, rfl, hQ _ s1.heap.objs.size out c M (fun b u e => ?_) g1 o1 hz hc e' pL pw⟩
  have hlt := Heap.lt_size (k1 b u e)
  show (sortedHeap (s1.heap.push (seqObj "list" vs.toArray 0)) s1.heap.objs.size vs out).get? b = some u
  rw [sortedHeap_old (Nat.ne_of_lt hlt) (by rw [size_push']; exact Nat.lt_succ_of_lt hlt)]
  exact Heap.get?_push_of_some _ (k1 b u e)
end
def rSetH (K : PySem.W.Frag) (P : Program) (w : World) : List V → Hp → VK → Prop := fun vs H Q => ∃ (a : Addr) (L : List (Addr × List Int)), vs = [V.ref a] ∧ H a = some (SetTO P w a L) ∧ (∀ p ∈ L, SqT K H p.1 (p.2.map V.int)) ∧
  (∀ p ∈ L, ∃ n ns, p.2 = n :: ns) ∧ (∀ p ∈ L, ∀ q ∈ L, hd0 p.2 = hd0 q.2 → p.2 = q.2) ∧
  ∀ (M : List (Addr × List Int)) (p : Addr), M.Perm L → (M.map (·.2)).Nodup → M.length < 64 → M.Pairwise (fun q r => hd0 q.2 ≤ hd0 r.2) → H p = none → Q (.ref p) (upd H p (.lst (M.map fun q => V.ref q.1)))
theorem cr_setH {X : Cx} (hc : X.calm = true) : CallR X (.builtin "sorted") (rSetH X.K X.prog X.w) := by
  intro pins s σ H vs us Q I r h
  obtain ⟨a, L, rfl, ha, hk, hn, h1, q⟩ := h
  have R0 : SetT0 X.prog X.w s.heap a L := (I.hok a _ ha).1
  obtain ⟨es, ep, t, R⟩ := R0.full fun p hp => I.isT (hk p hp)
  rw [Vals.ref1 r]
  refine sorted_setH R (I.ok.hd hc) hn h1 fun s' p out c M k g o hp hg hout pm pw => ?_
  have few : M.length < 64 := by rw [pm.length_eq]; exact R.few
  have hv : Vals (M.map fun q => V.ref q.1) out.toList := by rw [hout]; exact vals_of_refs M
  have nP : H p = none := I.hok.fresh hp
  have J : Inv X pins σ (upd H p (.lst (M.map fun q => V.ref q.1))) { s with heap := s'.heap, gens := s'.gens, drawn := s'.drawn, toks := s'.toks } :=
    I.call (ch := []) (Un.laid k hp nP) (I.hok.laid k hp ⟨by rw [List.length_map, sizeLine_eq]; omega, out.toList, c, hv, hg⟩) (by rw [g]; exact I.bare) (fun _ z => nomatch z)
  have e : s' = { s with heap := s'.heap, gens := s'.gens, drawn := s'.drawn, toks := s'.toks } := by
    cases s'; cases s; cases o; rfl
  rw [e]
  exact ⟨.ref p, _, J, rfl, q M p pm ((pm.map (·.2)).nodup_iff.mpr R.nd) few pw nP⟩
end XL
namespace XL
open PySem PySem.Spec PyProof.Rows L2
/-! ### what hangs together: marks, closures, groups -/
def rng (n : Nat) : List Int := (List.range n).map fun i : Nat => (i : Int)
theorem mem_rng {n : Nat} {x : Int} : x ∈ rng n ↔ 0 ≤ x ∧ x < n := by
  unfold rng
  constructor
  · intro h
    obtain ⟨i, hi, rfl⟩ := List.mem_map.mp h
    have := List.mem_range.mp hi
    omega
  · intro ⟨h0, h1⟩
    exact List.mem_map.mpr ⟨x.toNat, List.mem_range.mpr (by omega), by omega⟩
theorem rng_len (n : Nat) : (rng n).length = n := by unfold rng; rw [List.length_map, List.length_range]
theorem rng_get {n i : Nat} (h : i < n) : (rng n)[i]? = some (i : Int) := by
  unfold rng
  rw [List.getElem?_map, List.getElem?_range h]; rfl
theorem rng_succ (n : Nat) : rng (n + 1) = rng n ++ [(n : Int)] := by
  unfold rng
  rw [List.range_succ, List.map_append]; rfl
theorem rng_lt : ∀ n : Nat, (rng n).Pairwise (· < ·)
  | 0 => List.Pairwise.nil
  | n + 1 => by
    rw [rng_succ, List.pairwise_append]
    refine ⟨rng_lt n, List.pairwise_singleton _ _, fun a ha b hb => ?_⟩
    rw [List.mem_singleton.mp hb]
    exact (mem_rng.mp ha).2
def mkOf (ms : List Int) (j : Int) : Int := ms.getD j.toNat 0
theorem mkOf_get {ms : List Int} {j : Int} (h0 : 0 ≤ j) (h1 : j < ms.length) : ms[j.toNat]? = some (mkOf ms j) := by
  unfold mkOf
  rw [List.getD_eq_getElem?_getD, List.getElem?_eq_getElem (show j.toNat < ms.length by omega)]; rfl
theorem mkOf_map {ms : List Int} {f : Int → Int} {j : Int} (h0 : 0 ≤ j) (h1 : j < ms.length) : mkOf (ms.map f) j = f (mkOf ms j) := by
  have e := mkOf_get h0 h1
  unfold mkOf at e ⊢
  rw [List.getD_eq_getElem?_getD, List.getElem?_map, e]; rfl
theorem mkOf_rng {n : Nat} {j : Int} (h0 : 0 ≤ j) (h1 : j < n) : mkOf (rng n) j = j := by
  unfold mkOf
  rw [List.getD_eq_getElem?_getD, rng_get (show j.toNat < n by omega)]
  show ((j.toNat : Nat) : Int) = j
  omega
abbrev Prs := List (Int × Int)
def okPrs (n : Nat) (es : Prs) : Prop := ∀ p ∈ es, (0 ≤ p.1 ∧ p.1 < n) ∧ (0 ≤ p.2 ∧ p.2 < n)
inductive Cc (es : Prs) (a : Int) : Int → Prop
  | refl : Cc es a a
  | fw {x y : Int} : Cc es a x → (x, y) ∈ es → Cc es a y
  | bw {x y : Int} : Cc es a y → (x, y) ∈ es → Cc es a x
theorem Cc.trans {es : Prs} {a b c : Int} (h : Cc es a b) (k : Cc es b c) : Cc es a c := by
  induction k with
  | refl => exact h
  | fw _ m ih => exact ih.fw m
  | bw _ m ih => exact ih.bw m
theorem Cc.symm {es : Prs} {a b : Int} (h : Cc es a b) : Cc es b a := by
  induction h with
  | refl => exact .refl
  | fw _ m ih => exact (Cc.bw .refl m).trans ih
  | bw _ m ih => exact (Cc.fw .refl m).trans ih
theorem Cc.mono {es fs : Prs} (hs : ∀ p ∈ es, p ∈ fs) {a b : Int} (h : Cc es a b) : Cc fs a b := by
  induction h with
  | refl => exact .refl
  | fw _ m ih => exact ih.fw (hs _ m)
  | bw _ m ih => exact ih.bw (hs _ m)
theorem Cc.inn {n : Nat} {es : Prs} (ok : okPrs n es) {a b : Int} (h : Cc es a b) (h0 : 0 ≤ a ∧ a < n) : 0 ≤ b ∧ b < n := by
  cases h with
  | refl => exact h0
  | fw _ m => exact (ok _ m).2
  | bw _ m => exact (ok _ m).1
/-- one lock: all of the dropped mark get the kept one -/
def rel (ms : List Int) (p : Int × Int) : List Int := ms.map fun m => if m = mkOf ms p.2 then mkOf ms p.1 else m
structure Mks (n : Nat) (es : Prs) (ms : List Int) : Prop where
  len : ms.length = n
  p1 : ∀ p ∈ es, mkOf ms p.1 = mkOf ms p.2
  p2 : ∀ i j : Int, 0 ≤ i → i < n → 0 ≤ j → j < n → mkOf ms i = mkOf ms j → Cc es i j
theorem Mks.start (n : Nat) : Mks n [] (rng n) := by
  refine ⟨rng_len n, fun p h => by simp at h, fun i j i0 i1 j0 j1 e => ?_⟩
  rw [mkOf_rng i0 i1, mkOf_rng j0 j1] at e
  rw [e]; exact .refl
theorem Mks.step {n : Nat} {es : Prs} {ms : List Int} {p : Int × Int} (h : Mks n es ms) (ok : okPrs n es) (op : (0 ≤ p.1 ∧ p.1 < n) ∧ (0 ≤ p.2 ∧ p.2 < n)) : Mks n (es ++ [p]) (rel ms p) := by
  obtain ⟨⟨a0, a1⟩, c0, c1⟩ := op
  have at_ : ∀ i : Int, 0 ≤ i → i < n → mkOf (rel ms p) i = if mkOf ms i = mkOf ms p.2 then mkOf ms p.1 else mkOf ms i := fun i i0 i1 => by
    unfold rel
    rw [mkOf_map i0 (by rw [h.len]; exact i1)]
  have up : ∀ {i j : Int}, Cc es i j → Cc (es ++ [p]) i j := fun c => c.mono fun q hq => List.mem_append_left _ hq
  have lk : Cc (es ++ [p]) p.1 p.2 := Cc.fw .refl (List.mem_append_right _ (List.mem_singleton.mpr rfl))
  refine ⟨by unfold rel; rw [List.length_map, h.len], fun q hq => ?_, fun i j i0 i1 j0 j1 e => ?_⟩
  · rcases List.mem_append.mp hq with hq | hq
    · obtain ⟨⟨b0, b1⟩, d0, d1⟩ := ok q hq
      rw [at_ _ b0 b1, at_ _ d0 d1, h.p1 q hq]
    · rw [List.mem_singleton.mp hq, at_ _ a0 a1, at_ _ c0 c1, if_pos rfl]
      split <;> rfl
  · rw [at_ _ i0 i1, at_ _ j0 j1] at e
    by_cases e1 : mkOf ms i = mkOf ms p.2
    · have k1 := up (h.p2 i p.2 i0 i1 c0 c1 e1)
      rw [if_pos e1] at e
      by_cases e2 : mkOf ms j = mkOf ms p.2
      · exact up (h.p2 i j i0 i1 j0 j1 (e1.trans e2.symm))
      · rw [if_neg e2] at e
        exact (k1.trans lk.symm).trans (up (h.p2 p.1 j a0 a1 j0 j1 e))
    · rw [if_neg e1] at e
      by_cases e2 : mkOf ms j = mkOf ms p.2
      · rw [if_pos e2] at e
        exact ((up (h.p2 i p.1 i0 i1 a0 a1 e)).trans lk).trans (up (h.p2 p.2 j c0 c1 j0 j1 e2.symm))
      · rw [if_neg e2] at e
        exact up (h.p2 i j i0 i1 j0 j1 e)
theorem Mks.iff {n : Nat} {es : Prs} {ms : List Int} (h : Mks n es ms) (ok : okPrs n es) {i j : Int} (hi : 0 ≤ i ∧ i < n) : Cc es i j ↔ (0 ≤ j ∧ j < n) ∧ mkOf ms j = mkOf ms i := by
  constructor
  · intro c
    refine ⟨c.inn ok hi, ?_⟩
    induction c with
    | refl => rfl
    | fw _ m ih => rw [← ih]; exact (h.p1 _ m).symm
    | bw _ m ih => rw [← ih]; exact h.p1 _ m
  · intro ⟨⟨j0, j1⟩, e⟩
    exact h.p2 i j hi.1 hi.2 j0 j1 e.symm
/-! ### the closure by turns -/
def hstep (f : List Int) (p : Int × Int) : List Int := if decide (p.1 ∈ f) ≠ decide (p.2 ∈ f) then f ++ [if p.1 ∈ f then p.2 else p.1] else f
def hpass (es : Prs) (f : List Int) : List Int := es.foldl hstep f
def hturns (es : Prs) : Nat → List Int → List Int
  | 0, f => f
  | k + 1, f => hpass es (hturns es k f)
theorem hstep_sub {f : List Int} {p : Int × Int} {x : Int} (h : x ∈ f) : x ∈ hstep f p := by
  unfold hstep
  split
  · exact List.mem_append_left _ h
  · exact h
theorem hpass_sub : ∀ (es : Prs) {f : List Int} {x : Int}, x ∈ f → x ∈ hpass es f
  | [], f, x, h => h
  | p :: es, f, x, h => hpass_sub es (f := hstep f p) (hstep_sub h)
theorem hstep_both {f : List Int} {p : Int × Int} (h : hstep f p ≠ f) : (p.1 ∈ hstep f p ∧ p.2 ∈ hstep f p) ∧ ¬ (p.1 ∈ f ∧ p.2 ∈ f) := by
  unfold hstep at h ⊢
  by_cases c : decide (p.1 ∈ f) ≠ decide (p.2 ∈ f)
  · rw [if_pos c]
    by_cases a : p.1 ∈ f
    · have b : p.2 ∉ f := fun b => c (by rw [decide_eq_true a, decide_eq_true b])
      rw [if_pos a]
      exact ⟨⟨List.mem_append_left _ a, List.mem_append_right _ (List.mem_singleton.mpr rfl)⟩, fun z => b z.2⟩
    · have b : p.2 ∈ f := Classical.byContradiction fun b => c (by rw [decide_eq_false a, decide_eq_false b])
      rw [if_neg a]
      exact ⟨⟨List.mem_append_right _ (List.mem_singleton.mpr rfl), List.mem_append_left _ b⟩, fun z => a z.1⟩
  · rw [if_neg c] at h; exact absurd rfl h
theorem hstep_same {f : List Int} {p : Int × Int} (h : hstep f p = f) : p.1 ∈ f ↔ p.2 ∈ f := by
  unfold hstep at h
  by_cases c : decide (p.1 ∈ f) ≠ decide (p.2 ∈ f)
  · rw [if_pos c] at h
    have := congrArg List.length h
    simp at this
  · have c' : decide (p.1 ∈ f) = decide (p.2 ∈ f) := Classical.byContradiction c
    exact decide_eq_decide.mp c'
/-- a pass changes nothing and all is closed, or some pair is newly within -/
theorem hpass_or : ∀ (es : Prs) (f : List Int), (hpass es f = f ∧ ∀ p ∈ es, (p.1 ∈ f ↔ p.2 ∈ f)) ∨ ∃ p ∈ es, (p.1 ∈ hpass es f ∧ p.2 ∈ hpass es f) ∧ ¬ (p.1 ∈ f ∧ p.2 ∈ f)
  | [], f => .inl ⟨rfl, fun p h => by simp at h⟩
  | p :: es, f => by
    by_cases c : hstep f p = f
    · rcases hpass_or es f with ⟨h1, h2⟩ | ⟨q, hq, h⟩
      · refine .inl ⟨?_, fun q hq => ?_⟩
        · show hpass es (hstep f p) = f
          rw [c]; exact h1
        · rcases List.mem_cons.mp hq with e | hq
          · rw [e]; exact hstep_same c
          · exact h2 q hq
      · refine .inr ⟨q, List.mem_cons_of_mem _ hq, ?_⟩
        show (q.1 ∈ hpass es (hstep f p) ∧ q.2 ∈ hpass es (hstep f p)) ∧ _
        rw [c]; exact h
    · obtain ⟨⟨a, b⟩, d⟩ := hstep_both c
      exact .inr ⟨p, List.mem_cons_self .., ⟨hpass_sub es a, hpass_sub es b⟩, d⟩
def cnt (es : Prs) (f : List Int) : Nat := es.countP fun p => decide (p.1 ∈ f ∧ p.2 ∈ f)
theorem countP_le {α : Type} {p q : α → Bool} : ∀ {l : List α}, (∀ a ∈ l, p a = true → q a = true) → l.countP p ≤ l.countP q
  | [], _ => Nat.le_refl _
  | a :: l, h => by
    have ih := countP_le (l := l) fun b hb => h b (List.mem_cons_of_mem _ hb)
    rw [List.countP_cons, List.countP_cons]
    have h0 := h a (List.mem_cons_self ..)
    cases e : p a with
    | true => rw [h0 e]; simpa using ih
    | false => simp; omega
theorem countP_lt {α : Type} {p q : α → Bool} : ∀ {l : List α} {x : α}, (∀ a ∈ l, p a = true → q a = true) → x ∈ l → q x = true → p x = false → l.countP p < l.countP q
  | [], x, _, h, _, _ => by simp at h
  | a :: l, x, h, hx, hq, hp => by
    have hl : ∀ b ∈ l, p b = true → q b = true := fun b hb => h b (List.mem_cons_of_mem _ hb)
    rw [List.countP_cons, List.countP_cons]
    rcases List.mem_cons.mp hx with e | hx
    · subst e
      have := countP_le hl
      rw [hq, hp]; simp; omega
    · have ih := countP_lt hl hx hq hp
      have h0 := h a (List.mem_cons_self ..)
      cases e : p a with
      | true => rw [h0 e]; simpa using ih
      | false => simp; omega
theorem hturns_or (es : Prs) (f : List Int) : ∀ k : Nat, (∀ p ∈ es, (p.1 ∈ hturns es k f ↔ p.2 ∈ hturns es k f)) ∨ k ≤ cnt es (hturns es k f)
  | 0 => .inr (Nat.zero_le _)
  | k + 1 => by
    rcases hpass_or es (hturns es k f) with ⟨h1, h2⟩ | ⟨q, hq, h3, h4⟩
    · refine .inl ?_
      show ∀ p ∈ es, (p.1 ∈ hpass es (hturns es k f) ↔ p.2 ∈ hpass es (hturns es k f))
      rw [h1]; exact h2
    · have lt : cnt es (hturns es k f) < cnt es (hturns es (k + 1) f) := countP_lt (x := q) (fun p hp e => by
        have e' := of_decide_eq_true e
        exact decide_eq_true ⟨hpass_sub es e'.1, hpass_sub es e'.2⟩) hq (decide_eq_true h3) (decide_eq_false h4)
      rcases hturns_or es f k with h | h
      · exfalso
        -- closed: nothing is newly within
        have cl : ∀ (es' : Prs) , (∀ p ∈ es', p ∈ es) → hpass es' (hturns es k f) = hturns es k f := by
          intro es'
          induction es' with
          | nil => intro _; rfl
          | cons p es' ih =>
            intro hs
            have c : hstep (hturns es k f) p = hturns es k f := by
              unfold hstep
              rw [if_neg (fun c => c (decide_eq_decide.mpr (h p (hs p (List.mem_cons_self ..)))))]
            show hpass es' (hstep (hturns es k f) p) = _
            rw [c]
            exact ih fun q hq => hs q (List.mem_cons_of_mem _ hq)
        rw [cl es fun p hp => hp] at h3
        exact h4 h3
      · exact .inr (by omega)
theorem hturns_closed (es : Prs) (f : List Int) : ∀ p ∈ es, (p.1 ∈ hturns es (es.length + 1) f ↔ p.2 ∈ hturns es (es.length + 1) f) := by
  rcases hturns_or es f (es.length + 1) with h | h
  · exact h
  · have : cnt es (hturns es (es.length + 1) f) ≤ es.length := List.countP_le_length
    omega
/-- what is found hangs by the first, and is found once -/
structure Fd (es : Prs) (b : Int) (f : List Int) : Prop where
  nd : f.Nodup
  bm : b ∈ f
  c : ∀ x ∈ f, Cc es b x
theorem Fd.start (es : Prs) (b : Int) : Fd es b [b] := ⟨by simp, List.mem_singleton.mpr rfl, fun x h => by rw [List.mem_singleton.mp h]; exact .refl⟩
theorem Fd.step {es : Prs} {b : Int} {f : List Int} {p : Int × Int} (h : Fd es b f) (hp : p ∈ es) : Fd es b (hstep f p) := by
  unfold hstep
  by_cases c : decide (p.1 ∈ f) ≠ decide (p.2 ∈ f)
  · rw [if_pos c]
    by_cases a : p.1 ∈ f
    · have nb : p.2 ∉ f := fun b => c (by rw [decide_eq_true a, decide_eq_true b])
      rw [if_pos a]
      refine ⟨List.nodup_append.mpr ⟨h.nd, by simp, fun x hx y hy e => nb (by rw [← List.mem_singleton.mp hy, ← e]; exact hx)⟩, List.mem_append_left _ h.bm, fun x hx => ?_⟩
      rcases List.mem_append.mp hx with hx | hx
      · exact h.c x hx
      · rw [List.mem_singleton.mp hx]; exact (h.c _ a).fw hp
    · have bb : p.2 ∈ f := Classical.byContradiction fun b => c (by rw [decide_eq_false a, decide_eq_false b])
      rw [if_neg a]
      refine ⟨List.nodup_append.mpr ⟨h.nd, by simp, fun x hx y hy e => a (by rw [← List.mem_singleton.mp hy, ← e]; exact hx)⟩, List.mem_append_left _ h.bm, fun x hx => ?_⟩
      rcases List.mem_append.mp hx with hx | hx
      · exact h.c x hx
      · rw [List.mem_singleton.mp hx]; exact (h.c _ bb).bw hp
  · rw [if_neg c]; exact h
theorem Fd.all {es : Prs} {b : Int} {f : List Int} (h : Fd es b f) (cl : ∀ p ∈ es, (p.1 ∈ f ↔ p.2 ∈ f)) {x : Int} : x ∈ f ↔ Cc es b x := by
  refine ⟨h.c x, fun c => ?_⟩
  induction c with
  | refl => exact h.bm
  | fw _ m ih => exact (cl _ m).mp ih
  | bw _ m ih => exact (cl _ m).mpr ih
/-- all of one mark -/
def cls (n : Nat) (ms : List Int) (m : Int) : List Int := (rng n).filter fun j => decide (mkOf ms j = m)
theorem mem_cls {n : Nat} {ms : List Int} {m x : Int} : x ∈ cls n ms m ↔ (0 ≤ x ∧ x < n) ∧ mkOf ms x = m := by
  unfold cls
  rw [List.mem_filter, mem_rng, decide_eq_true_eq]
theorem cls_lt (n : Nat) (ms : List Int) (m : Int) : (cls n ms m).Pairwise (· < ·) := (rng_lt n).filter _
theorem sorted_uniq : ∀ {a b : List Int}, a.Pairwise (· < ·) → b.Pairwise (· < ·) → (∀ x, x ∈ a ↔ x ∈ b) → a = b
  | [], [], _, _, _ => rfl
  | [], y :: b, _, _, h => by have := (h y).mpr (List.mem_cons_self ..); simp at this
  | x :: a, [], _, _, h => by have := (h x).mp (List.mem_cons_self ..); simp at this
  | x :: a, y :: b, ha, hb, h => by
    obtain ⟨a1, a2⟩ := List.pairwise_cons.mp ha
    obtain ⟨b1, b2⟩ := List.pairwise_cons.mp hb
    have e : x = y := by
      have h1 := (h x).mp (List.mem_cons_self ..)
      have h2 := (h y).mpr (List.mem_cons_self ..)
      rcases List.mem_cons.mp h1 with e | h1
      · exact e
      · rcases List.mem_cons.mp h2 with e | h2
        · exact e.symm
        · have := b1 x h1; have := a1 y h2; omega
    subst e
    rw [sorted_uniq a2 b2 fun z => ?_]
    constructor
    · intro hz
      have lt := a1 z hz
      rcases List.mem_cons.mp ((h z).mp (List.mem_cons_of_mem _ hz)) with e | q
      · omega
      · exact q
    · intro hz
      have lt := b1 z hz
      rcases List.mem_cons.mp ((h z).mpr (List.mem_cons_of_mem _ hz)) with e | q
      · omega
      · exact q
/-- the closure, sorted, is the class of the mark -/
theorem hung_eq {n : Nat} {es : Prs} {ms ns : List Int} {b : Int} {f : List Int} (M : Mks n es ms) (ok : okPrs n es) (hb : 0 ≤ b ∧ b < n) (F : Fd es b f) (cl : ∀ p ∈ es, (p.1 ∈ f ↔ p.2 ∈ f)) (pm : ns.Perm f) (pw : ns.Pairwise (· ≤ ·)) : ns = cls n ms (mkOf ms b) := by
  have nd : ns.Nodup := pm.nodup_iff.mpr F.nd
  have lt : ns.Pairwise (· < ·) := by
    refine (List.Pairwise.and pw nd).imp fun {x y} h => ?_
    have h1 := h.1; have h2 := h.2
    have h3 : x ≠ y := h2
    omega
  refine sorted_uniq lt (cls_lt n ms _) fun x => ?_
  rw [pm.mem_iff, F.all cl, M.iff ok hb, mem_cls]
/-! ### groups in the order of their first ones -/
abbrev Gr := List (Int × List Int)
def gput : Gr → Int → Int → Gr
  | [], m, x => [(m, [x])]
  | (k, l) :: r, m, x => if k = m then (k, l ++ [x]) :: r else (k, l) :: gput r m x
structure Grp (ms : List Int) (i : Nat) (g : Gr) : Prop where
  nd : (g.map (·.1)).Nodup
  l : ∀ p ∈ g, p.2 = cls i ms p.1 ∧ p.2 ≠ []
  k : ∀ j : Int, 0 ≤ j → j < i → ∃ p ∈ g, p.1 = mkOf ms j
  h : g.Pairwise fun p q => hd0 p.2 < hd0 q.2
theorem Grp.start (ms : List Int) : Grp ms 0 [] := ⟨List.Pairwise.nil, fun p h => by simp at h, fun j h0 h1 => by omega, List.Pairwise.nil⟩
theorem gput_keys : ∀ {g : Gr} {m x : Int}, m ∈ g.map (·.1) → (gput g m x).map (·.1) = g.map (·.1)
  | [], m, x, h => by simp at h
  | (k, l) :: r, m, x, h => by
    unfold gput
    by_cases e : k = m
    · rw [if_pos e]; rfl
    · rw [if_neg e, List.map_cons, List.map_cons, gput_keys (g := r)]
      rcases List.mem_cons.mp h with q | q
      · exact absurd q.symm e
      · exact q
theorem gput_new : ∀ {g : Gr} {m x : Int}, m ∉ g.map (·.1) → gput g m x = g ++ [(m, [x])]
  | [], m, x, _ => rfl
  | (k, l) :: r, m, x, h => by
    unfold gput
    have e : k ≠ m := fun e => h (by rw [← e]; exact List.mem_cons_self ..)
    rw [if_neg e, gput_new (g := r) fun q => h (List.mem_cons_of_mem _ q)]; rfl
theorem cls_succ (i : Nat) (ms : List Int) (m : Int) : cls (i + 1) ms m = cls i ms m ++ if mkOf ms (i : Int) = m then [(i : Int)] else [] := by
  unfold cls
  rw [rng_succ, List.filter_append]
  congr 1
  by_cases e : mkOf ms (i : Int) = m
  · rw [if_pos e]; simp [e]
  · rw [if_neg e]; simp [e]
theorem hd0_app {l r : List Int} (h : l ≠ []) : hd0 (l ++ r) = hd0 l := by
  cases l with
  | nil => exact absurd rfl h
  | cons a l => rfl
theorem gput_mem : ∀ {g : Gr} {m x : Int} {p : Int × List Int}, (g.map (·.1)).Nodup → m ∈ g.map (·.1) → p ∈ gput g m x → (p.1 ≠ m ∧ p ∈ g) ∨ (p.1 = m ∧ ∃ l, (m, l) ∈ g ∧ p.2 = l ++ [x])
  | [], m, x, p, _, h, _ => by simp at h
  | (k, l) :: r, m, x, p, nd, h, hp => by
    unfold gput at hp
    obtain ⟨n1, n2⟩ := List.nodup_cons.mp nd
    by_cases e : k = m
    · rw [if_pos e] at hp
      rcases List.mem_cons.mp hp with q | q
      · exact .inr ⟨by rw [q]; exact e, l, by rw [← e]; exact List.mem_cons_self .., by rw [q]⟩
      · refine .inl ⟨fun z => n1 ?_, List.mem_cons_of_mem _ q⟩
        show k ∈ r.map (·.1)
        rw [e, ← z]; exact List.mem_map.mpr ⟨p, q, rfl⟩
    · rw [if_neg e] at hp
      rcases List.mem_cons.mp hp with q | q
      · exact .inl ⟨by rw [q]; exact e, by rw [q]; exact List.mem_cons_self ..⟩
      · have hm : m ∈ r.map (·.1) := by
          rcases List.mem_cons.mp h with z | z
          · exact absurd z.symm e
          · exact z
        rcases gput_mem n2 hm q with ⟨a, b⟩ | ⟨a, l', b, c⟩
        · exact .inl ⟨a, List.mem_cons_of_mem _ b⟩
        · exact .inr ⟨a, l', List.mem_cons_of_mem _ b, c⟩
theorem gput_hd : ∀ {g : Gr} {m x : Int}, (∀ p ∈ g, p.2 ≠ []) → m ∈ g.map (·.1) → (gput g m x).map (fun p => hd0 p.2) = g.map fun p => hd0 p.2
  | [], m, x, _, h => by simp at h
  | (k, l) :: r, m, x, ne, h => by
    unfold gput
    by_cases e : k = m
    · rw [if_pos e, List.map_cons, List.map_cons, hd0_app (ne (k, l) (List.mem_cons_self ..))]
    · have hm : m ∈ r.map (·.1) := by
        rcases List.mem_cons.mp h with z | z
        · exact absurd z.symm e
        · exact z
      rw [if_neg e, List.map_cons, List.map_cons, gput_hd (fun p hp => ne p (List.mem_cons_of_mem _ hp)) hm]
theorem Grp.step {ms : List Int} {i : Nat} {g : Gr} (h : Grp ms i g) : Grp ms (i + 1) (gput g (mkOf ms (i : Int)) (i : Int)) := by
  by_cases hm : mkOf ms (i : Int) ∈ g.map (·.1)
  · refine ⟨by rw [gput_keys hm]; exact h.nd, fun p hp => ?_, fun j j0 j1 => ?_, ?_⟩
    · rcases gput_mem h.nd hm hp with ⟨a, b⟩ | ⟨a, l, b, c⟩
      · obtain ⟨e1, e2⟩ := h.l p b
        refine ⟨?_, e2⟩
        rw [cls_succ, if_neg (fun z => a z.symm), List.append_nil]; exact e1
      · obtain ⟨e1, e2⟩ := h.l _ b
        refine ⟨?_, by rw [c]; simp⟩
        rw [c, a, cls_succ, if_pos rfl]
        have e1' : l = cls i ms (mkOf ms (i : Int)) := e1
        rw [e1']
    · have key : mkOf ms j ∈ (gput g (mkOf ms (i : Int)) (i : Int)).map (·.1) := by
        rw [gput_keys hm]
        by_cases e : j = i
        · rw [e]; exact hm
        · obtain ⟨p, hp, e⟩ := h.k j j0 (by omega)
          exact List.mem_map.mpr ⟨p, hp, e⟩
      obtain ⟨p, hp, e⟩ := List.mem_map.mp key
      exact ⟨p, hp, e⟩
    · have := gput_hd (x := (i : Int)) (fun p hp => (h.l p hp).2) hm
      have h2 : (g.map fun p => hd0 p.2).Pairwise (· < ·) := List.pairwise_map.mpr h.h
      rw [← this] at h2
      exact List.pairwise_map.mp h2
  · rw [gput_new hm]
    have old : ∀ p ∈ g, p.1 ≠ mkOf ms (i : Int) := fun p hp e => hm (List.mem_map.mpr ⟨p, hp, e⟩)
    have none : cls i ms (mkOf ms (i : Int)) = [] := by
      cases e : cls i ms (mkOf ms (i : Int)) with
      | nil => rfl
      | cons y r =>
        exfalso
        have hy : y ∈ cls i ms (mkOf ms (i : Int)) := by rw [e]; exact List.mem_cons_self ..
        obtain ⟨⟨y0, y1⟩, ey⟩ := mem_cls.mp hy
        obtain ⟨p, hp, ep⟩ := h.k y y0 y1
        exact old p hp (ep.trans ey)
    refine ⟨?_, fun p hp => ?_, fun j j0 j1 => ?_, ?_⟩
    · rw [List.map_append]
      refine List.nodup_append.mpr ⟨h.nd, by simp, fun x hx y hy e => ?_⟩
      have e2 : y = mkOf ms (i : Int) := by simpa using hy
      exact hm (by rw [← e2, ← e]; exact hx)
    · rcases List.mem_append.mp hp with hp | hp
      · obtain ⟨e1, e2⟩ := h.l p hp
        refine ⟨?_, e2⟩
        rw [cls_succ, if_neg (fun z => old p hp z.symm), List.append_nil]; exact e1
      · rw [List.mem_singleton.mp hp]
        refine ⟨?_, by simp⟩
        show [(i : Int)] = cls (i + 1) ms (mkOf ms (i : Int))
        rw [cls_succ, if_pos rfl, none]; rfl
    · by_cases e : j = i
      · exact ⟨_, List.mem_append_right _ (List.mem_singleton.mpr rfl), by rw [e]⟩
      · obtain ⟨p, hp, e⟩ := h.k j j0 (by omega)
        exact ⟨p, List.mem_append_left _ hp, e⟩
    · rw [List.pairwise_append]
      refine ⟨h.h, List.pairwise_singleton _ _, fun p hp q hq => ?_⟩
      rw [List.mem_singleton.mp hq]
      show hd0 p.2 < (i : Int)
      obtain ⟨e1, e2⟩ := h.l p hp
      cases e3 : p.2 with
      | nil => exact absurd e3 e2
      | cons y r =>
        have hy : y ∈ cls i ms p.1 := by rw [← e1, e3]; exact List.mem_cons_self ..
        exact (mem_cls.mp hy).1.2
/-- two lists of lists that rise by their first ones and hold the same are the same -/
theorem heads_uniq : ∀ {a b : List (List Int)}, a.Pairwise (fun x y => hd0 x < hd0 y) → b.Pairwise (fun x y => hd0 x < hd0 y) → (∀ x, x ∈ a ↔ x ∈ b) → a = b
  | [], [], _, _, _ => rfl
  | [], y :: b, _, _, h => by have := (h y).mpr (List.mem_cons_self ..); simp at this
  | x :: a, [], _, _, h => by have := (h x).mp (List.mem_cons_self ..); simp at this
  | x :: a, y :: b, ha, hb, h => by
    obtain ⟨a1, a2⟩ := List.pairwise_cons.mp ha
    obtain ⟨b1, b2⟩ := List.pairwise_cons.mp hb
    have e : x = y := by
      have h1 := (h x).mp (List.mem_cons_self ..)
      have h2 := (h y).mpr (List.mem_cons_self ..)
      rcases List.mem_cons.mp h1 with e | h1
      · exact e
      · rcases List.mem_cons.mp h2 with e | h2
        · exact e.symm
        · have := b1 x h1; have := a1 y h2; omega
    subst e
    rw [heads_uniq a2 b2 fun z => ?_]
    constructor
    · intro hz
      have lt := a1 z hz
      rcases List.mem_cons.mp ((h z).mp (List.mem_cons_of_mem _ hz)) with e | q
      · rw [e] at lt; omega
      · exact q
    · intro hz
      have lt := b1 z hz
      rcases List.mem_cons.mp ((h z).mpr (List.mem_cons_of_mem _ hz)) with e | q
      · rw [e] at lt; omega
      · exact q
theorem Grp.eq {n : Nat} {ms : List Int} {g : Gr} {cs : List (List Int)} (h : Grp ms n g) (hm : ∀ x, x ∈ cs ↔ ∃ b : Int, (0 ≤ b ∧ b < n) ∧ x = cls n ms (mkOf ms b)) (nd : cs.Nodup) (pw : cs.Pairwise fun x y => hd0 x ≤ hd0 y) : cs = g.map (·.2) := by
  have key : ∀ x ∈ cs, ∃ b : Int, (0 ≤ b ∧ b < n) ∧ x = cls n ms (mkOf ms b) ∧ hd0 x ∈ x := fun x hx => by
    obtain ⟨b, hb, e⟩ := (hm x).mp hx
    refine ⟨b, hb, e, ?_⟩
    have hb' : b ∈ x := by rw [e]; exact mem_cls.mpr ⟨hb, rfl⟩
    cases x with
    | nil => simp at hb'
    | cons y r => exact List.mem_cons_self ..
  refine heads_uniq ?_ (List.pairwise_map.mpr h.h) fun x => ?_
  · refine (List.Pairwise.and pw nd).imp_of_mem fun {x y} hx hy hh => ?_
    have h1 := hh.1
    have h2 : x ≠ y := hh.2
    obtain ⟨b, hb, ex, mx⟩ := key x hx
    obtain ⟨c, hc, ey, my⟩ := key y hy
    have ne : hd0 x ≠ hd0 y := fun e => h2 (by
      have m1 := (mem_cls.mp (ex ▸ mx)).2
      have m2 := (mem_cls.mp (ey ▸ my)).2
      rw [ex, ey, ← m1, ← m2, ← ex, ← ey, e])
    omega
  · rw [hm]
    constructor
    · intro ⟨b, hb, e⟩
      obtain ⟨p, hp, ep⟩ := h.k b hb.1 hb.2
      exact List.mem_map.mpr ⟨p, hp, by rw [(h.l p hp).1, ep, e]⟩
    · intro hx
      obtain ⟨p, hp, e⟩ := List.mem_map.mp hx
      obtain ⟨e1, e2⟩ := h.l p hp
      cases e3 : p.2 with
      | nil => exact absurd e3 e2
      | cons y r =>
        have hy : y ∈ cls n ms p.1 := by rw [← e1, e3]; exact List.mem_cons_self ..
        obtain ⟨hb, ey⟩ := mem_cls.mp hy
        exact ⟨y, hb, by rw [← e, e1, ey]⟩
theorem cls_heads {n : Nat} {ms : List Int} {b c : Int} (hb : 0 ≤ b ∧ b < n) (hc : 0 ≤ c ∧ c < n) (e : hd0 (cls n ms (mkOf ms b)) = hd0 (cls n ms (mkOf ms c))) : cls n ms (mkOf ms b) = cls n ms (mkOf ms c) := by
  have key : ∀ d : Int, 0 ≤ d ∧ d < n → hd0 (cls n ms (mkOf ms d)) ∈ cls n ms (mkOf ms d) := fun d hd => by
    have h : d ∈ cls n ms (mkOf ms d) := mem_cls.mpr ⟨hd, rfl⟩
    cases q : cls n ms (mkOf ms d) with
    | nil => rw [q] at h; simp at h
    | cons y r => exact List.mem_cons_self ..
  have m1 := (mem_cls.mp (key b hb)).2
  have m2 := (mem_cls.mp (key c hc)).2
  rw [← m1, ← m2, e]
end XL
namespace XL
open PySem PySem.Spec PyProof.Rows L2
section
variable {K : PySem.W.Frag}
def endsV (l : Lk) : List V := [.int l.1, .int l.2.1, .int l.2.2.1, .int l.2.2.2]
theorem dp_lk {H : Hp} {a : Addr} {l : Lk} (h : SqT K H a (endsV l)) : Dp K H (.ref a) (lkD l) := .tup h (.cons (.int _) (.cons (.int _) (.cons (.int _) (.cons (.int _) .nil))))
end
abbrev sBas : Stmt := topS 6
abbrev sEnds : Stmt := topS 7
section
variable {P : Program} {w : World} {K : PySem.W.Frag} {mg : Str → Option Value} {base : Heap}
/-- a canal of tuples or of lists -/
structure CnAny (K : PySem.W.Frag) (H : Hp) (v : V) (c : Cn) : Prop where
  ex : ∃ a g vs, v = .ref a ∧ Sq2 K H a [.int c.r, .int c.b, .ref g] ∧ Sq2 K H g vs ∧ vs.length = c.ls.length ∧ ∀ (i : Nat) u, vs[i]? = some u → ∃ l t, c.ls[i]? = some l ∧ u = .ref t ∧ Sq2 K H t (endsV l)
theorem ends_of {H : Hp} {v : V} {l : Lk} (h : Dp K H v (lkD l)) : ∃ a, v = .ref a ∧ SqT K H a (endsV l) := by
  cases h with
  | tup hs ha =>
    cases ha with
    | cons p1 ha => cases p1; cases ha with
      | cons p2 ha => cases p2; cases ha with
        | cons p3 ha => cases p3; cases ha with
          | cons p4 ha => cases p4; cases ha; exact ⟨_, rfl, hs⟩
theorem ends_of' {H : Hp} {v : V} {l : Lk} (h : Dp K H v (lstD (lkD l))) : ∃ a, v = .ref a ∧ SqL K H a (endsV l) := by
  have e : lstD (lkD l) = .list [.int l.1, .int l.2.1, .int l.2.2.1, .int l.2.2.2] := rfl
  rw [e] at h
  cases h with
  | lst hs ha =>
    cases ha with
    | cons p1 ha => cases p1; cases ha with
      | cons p2 ha => cases p2; cases ha with
        | cons p3 ha => cases p3; cases ha with
          | cons p4 ha => cases p4; cases ha; exact ⟨_, rfl, hs⟩
theorem cn_of {H : Hp} {v : V} {c : Cn} (h : Dp K H v (cnD c)) : ∃ a g vs, v = .ref a ∧ SqT K H a [.int c.r, .int c.b, .ref g] ∧ SqT K H g vs ∧ DpAll K H vs (c.ls.map lkD) := by
  cases h with
  | tup hs ha =>
    cases ha with
    | cons p1 ha => cases p1; cases ha with
      | cons p2 ha => cases p2; cases ha with
        | cons p3 ha =>
          cases ha
          cases p3 with
          | tup hg hl => exact ⟨_, _, _, rfl, hs, hg, hl⟩
theorem cnAny_t {H : Hp} {v : V} {c : Cn} (h : Dp K H v (cnD c)) : CnAny K H v c := by
  obtain ⟨a, g, vs, e, ha, hg, hl⟩ := cn_of h
  refine ⟨a, g, vs, e, .inr ha, .inr hg, by rw [DpAll.length hl, List.length_map], fun i u hu => ?_⟩
  obtain ⟨d, ed, pd⟩ := DpAll.get hl hu
  rw [List.getElem?_map] at ed
  cases el : c.ls[i]? with
  | none => rw [el] at ed; cases ed
  | some l =>
    rw [el] at ed
    cases ed
    obtain ⟨t, et, ht⟩ := ends_of pd
    exact ⟨l, t, rfl, et, .inr ht⟩
theorem cnAny_l {H : Hp} {v : V} {c : Cn} (h : Dp K H v (lstD (cnD c))) : CnAny K H v c := by
  have e : lstD (cnD c) = .list [.int c.r, .int c.b, .list ((c.ls.map lkD).map lstD)] := by
    show PyData.list [.int c.r, .int c.b, .list (lstDs (c.ls.map lkD))] = _
    rw [lstDs_eq]
  rw [e] at h
  cases h with
  | lst hs ha =>
    cases ha with
    | cons p1 ha => cases p1; cases ha with
      | cons p2 ha => cases p2; cases ha with
        | cons p3 ha =>
          cases ha
          cases p3 with
          | lst hg hl =>
            refine ⟨_, _, _, rfl, .inl hs, .inl hg, by rw [DpAll.length hl, List.length_map, List.length_map], fun i u hu => ?_⟩
            obtain ⟨d, ed, pd⟩ := DpAll.get hl hu
            rw [List.map_map, List.getElem?_map] at ed
            cases el : c.ls[i]? with
            | none => rw [el] at ed; cases ed
            | some l =>
              rw [el] at ed
              cases ed
              obtain ⟨t, et, ht⟩ := ends_of' pd
              exact ⟨l, t, rfl, et, .inl ht⟩
theorem CnAny.same {H H' : Hp} {v : V} {c : Cn} (h : CnAny K H v c) (s : Same H H') : CnAny K H' v c := by
  obtain ⟨a, g, vs, e, ha, hg, hl, hv⟩ := h.ex
  refine ⟨a, g, vs, e, Same.sq2 s ha, Same.sq2 s hg, hl, fun i u hu => ?_⟩
  obtain ⟨l, t, h1, h2, h3⟩ := hv i u hu
  exact ⟨l, t, h1, h2, Same.sq2 s h3⟩
/-! ### basins_of, ends_of -/
def isRed (w : Str) : Bool := decide (V.str w = V.str "red")
def basW (r : Bool) (c : Cn) : Int := if r = true then c.r else c.b
def endW (r : Bool) (l : Lk) : Int × Int := if r = true then (l.1, l.2.1) else (l.2.2.1, l.2.2.2)
abbrev nBas : List Str := ["canal", "water"]
theorem scBas : FnScope nBas ["canal", "water"] (defScope sBas) := ⟨rfl, rfl, rfl, by decide +kernel, rfl, by decide +kernel, by decide +kernel⟩
def spBas (K : PySem.W.Frag) : Sp := fun vs H Q _ => ∃ (v : V) (w : Str) (c : Cn), vs = [v, .str w] ∧ CnAny K H v c ∧ Q (.int (basW (isRed w) c)) H
theorem ok_bas {f : Addr} {fd : FuncData} {k : Nat} {tR : Tok} (F : Fun K "basins_of" "basins_of" sBas f fd) (gRED : mg "RED" = some (.str "red" tR)) : FnOk P w K mg base CX0 (k + 1) f fd ["canal", "water"] (spBas K) := by
  refine F.ok scBas (fun vs H Q E h => ?_) (fun cdv A outer s H vs Q E hr h => ?_)
  · obtain ⟨v, w, c, rfl, _⟩ := h
    rfl
  obtain ⟨v, w, c, rfl, hc, q⟩ := h
  obtain ⟨a, g, vs, rfl, ha, hg, hl, hv⟩ := hc.ex
  refine ⟨_, (pss_one (ps_ret (pe_ifExp (pt_cmpR op_eq (pv 1) (pe_glob (v := .str "red") rfl gRED ⟨_, rfl⟩) (nomark _)) (pe_ix (r := rIxA K) ix_any (pv 0) pe_int (fun _ _ => rfl)) (pe_ix (r := rIxA K) ix_any (pv 0) pe_int (fun _ _ => rfl))))), ?_⟩
  refine ⟨_, rfl, rfl, _, rfl, ite2 (fun e => ?_) (fun e => ?_)⟩
  · have q' : Q (.int c.r) H := by
      have e2 : isRed w = true := e
      rw [e2] at q; exact q
    exact ⟨_, rfl, a, _, _, _, rfl, rfl, ha, rfl, q'⟩
  · have q' : Q (.int c.b) H := by
      have e2 : isRed w = false := by cases z : isRed w; rfl; exact absurd z e
      rw [e2] at q; exact q
    exact ⟨_, rfl, a, _, _, _, rfl, rfl, ha, rfl, q'⟩
abbrev nEnds : List Str := ["lock", "water", "a", "c", "x", "y"]
theorem scEnds : FnScope nEnds ["lock", "water"] (defScope sEnds) := ⟨rfl, rfl, rfl, by decide +kernel, rfl, by decide +kernel, by decide +kernel⟩
def prV (p : Int × Int) : List V := [.int p.1, .int p.2]
def spEnds (K : PySem.W.Frag) : Sp := fun vs H Q _ => ∃ (t : Addr) (w : Str) (l : Lk), vs = [.ref t, .str w] ∧ Sq2 K H t (endsV l) ∧ ∀ p, H p = none → Q (.ref p) (upd H p (.tup (prV (endW (isRed w) l))))
theorem ok_ends {f : Addr} {fd : FuncData} {k : Nat} {tR : Tok} (F : Fun K "ends_of" "ends_of" sEnds f fd) (gRED : mg "RED" = some (.str "red" tR)) : FnOk P w K mg base CX0 (k + 1) f fd ["lock", "water"] (spEnds K) := by
  refine F.ok scEnds (fun vs H Q E h => ?_) (fun cdv A outer s H vs Q E hr h => ?_)
  · obtain ⟨v, w, c, rfl, _⟩ := h
    rfl
  obtain ⟨t, w, l, rfl, ht, q⟩ := h
  refine ⟨_, (pss_cons (ps_asg (pv 0) (pg_any rfl (pgs_cons (pg_name (i := 2) scEnds.nd rfl (.inl rfl)) (pgs_cons (pg_name (i := 3) scEnds.nd rfl (.inl rfl)) (pgs_cons (pg_name (i := 4) scEnds.nd rfl (.inl rfl)) (pgs_cons (pg_name (i := 5) scEnds.nd rfl (.inl rfl)) pgs_nil))))))
    (pss_one (ps_ret (pe_ifExp (pt_cmpR op_eq (pv 1) (pe_glob (v := .str "red") rfl gRED ⟨_, rfl⟩) (nomark _)) (pe_tup (pa_cons (pv 2) (pa_cons (pv 3) pa_nil))) (pe_tup (pa_cons (pv 4) (pa_cons (pv 5) pa_nil))))))), ?_⟩
  refine ⟨_, rfl, t, _, rfl, ht, rfl, _, _, rfl, _, _, rfl, _, _, rfl, _, _, rfl, rfl, ?_⟩
  refine at_s (σ' := [some (.ref t), some (.str w), some (.int l.1), some (.int l.2.1), some (.int l.2.2.1), some (.int l.2.2.2)]) rfl ?_
  refine ⟨_, rfl, rfl, _, rfl, ite2 (fun e => ?_) (fun e => ?_)⟩
  · refine ⟨_, rfl, _, rfl, (by show 2 ≤ sizeLine; decide), fun p np => ?_⟩
    have q' := q p np
    have e2 : isRed w = true := e
    rw [e2] at q'; exact q'
  · refine ⟨_, rfl, _, rfl, (by show 2 ≤ sizeLine; decide), fun p np => ?_⟩
    have q' := q p np
    have e2 : isRed w = false := by cases z : isRed w; rfl; exact absurd z e
    rw [e2] at q'; exact q'
end
end XL
namespace XL
open PySem PySem.Spec PyProof.Rows L2
abbrev sPieces : Stmt := topS 8
/-! ### a dict of lists -/
abbrev G3 := List (Int × List Int × Addr)
def kvsOf (g : G3) : List (Key × V) := g.map fun t => (Sum.inl t.1, V.ref t.2.2)
def grOf (g : G3) : Gr := g.map fun t => (t.1, t.2.1)
def gapp : G3 → Int → Int → G3
  | [], _, _ => []
  | t :: r, m, x => if t.1 = m then (t.1, t.2.1 ++ [x], t.2.2) :: r else t :: gapp r m x
theorem kvs_gapp : ∀ (g : G3) (m x : Int), kvsOf (gapp g m x) = kvsOf g
  | [], _, _ => rfl
  | t :: r, m, x => by
    unfold gapp
    by_cases e : t.1 = m
    · rw [if_pos e]; rfl
    · rw [if_neg e]
      show (Sum.inl t.1, V.ref t.2.2) :: kvsOf (gapp r m x) = _
      rw [kvs_gapp r m x]; rfl
theorem adr_gapp : ∀ (g : G3) (m x : Int), (gapp g m x).map (·.2.2) = g.map (·.2.2)
  | [], _, _ => rfl
  | t :: r, m, x => by
    unfold gapp
    by_cases e : t.1 = m
    · rw [if_pos e]; rfl
    · rw [if_neg e, List.map_cons, List.map_cons, adr_gapp r m x]
theorem gr_gapp : ∀ {g : G3} {m : Int} (x : Int), m ∈ g.map (·.1) → grOf (gapp g m x) = gput (grOf g) m x
  | [], m, x, h => by simp at h
  | t :: r, m, x, h => by
    unfold gapp
    show _ = gput ((t.1, t.2.1) :: grOf r) m x
    unfold gput
    by_cases e : t.1 = m
    · rw [if_pos e, if_pos e]; rfl
    · rw [if_neg e, if_neg e]
      show (t.1, t.2.1) :: grOf (gapp r m x) = _
      rw [gr_gapp (g := r) x (by rcases List.mem_cons.mp h with q | q; exact absurd q.symm e; exact q)]
theorem gr_gnew {g : G3} {m : Int} (x : Int) (l : Addr) (h : m ∉ g.map (·.1)) : grOf (gapp (g ++ [(m, [], l)]) m x) = gput (grOf g) m x := by
  have hk : m ∉ (grOf g).map (·.1) := by
    intro q
    apply h
    unfold grOf at q
    rw [List.map_map] at q; exact q
  rw [gput_new hk]
  induction g with
  | nil =>
    show grOf (if m = m then _ else _) = _
    rw [if_pos rfl]; rfl
  | cons t r ih =>
    have e : t.1 ≠ m := fun e => h (by rw [← e]; exact List.mem_cons_self ..)
    show grOf (if t.1 = m then _ else _) = _
    rw [if_neg e]
    show (t.1, t.2.1) :: grOf (gapp (r ++ [(m, [], l)]) m x) = (t.1, t.2.1) :: (grOf r ++ [(m, [x])])
    rw [ih (fun q => h (List.mem_cons_of_mem _ q)) (fun q => hk (List.mem_cons_of_mem _ q))]
structure Mem (H : Hp) (d : Addr) (g : G3) : Prop where
  ed : H d = some (.dK (kvsOf g))
  el : ∀ t ∈ g, H t.2.2 = some (.lst (t.2.1.map V.int))
  nd : (g.map (·.2.2)).Nodup
theorem key_iff {g : G3} {m : Int} : (valV (kvsOf g) (Sum.inl m : Key)) = none ↔ m ∉ g.map (·.1) := by
  induction g with
  | nil => simp [kvsOf, valV]
  | cons t r ih =>
    by_cases e : t.1 = m
    · have e' : (Sum.inl t.1 : Key) = Sum.inl m := by rw [e]
      rw [show kvsOf (t :: r) = ((Sum.inl t.1, V.ref t.2.2) :: kvsOf r) from rfl, valV_pos e']
      constructor
      · intro z; cases z
      · intro z; exact absurd (by rw [← e]; exact List.mem_cons_self ..) z
    · have e' : ¬ (Sum.inl t.1 : Key) = Sum.inl m := fun z => e (Sum.inl.inj z)
      rw [show kvsOf (t :: r) = ((Sum.inl t.1, V.ref t.2.2) :: kvsOf r) from rfl, valV_neg e', ih, List.map_cons, List.mem_cons]
      constructor
      · intro z q; rcases q with q | q; exact e q.symm; exact z q
      · intro z q; exact z (.inr q)
/-- the entry, its list, and what stands behind an append to it -/
theorem entry_of : ∀ {g : G3} {m : Int}, m ∈ g.map (·.1) → (g.map (·.2.2)).Nodup → ∃ t, t ∈ g ∧ valV (kvsOf g) (Sum.inl m : Key) = some (.ref t.2.2) ∧ ∀ x u, u ∈ gapp g m x → (u ∈ g ∧ u.2.2 ≠ t.2.2) ∨ (u.2.2 = t.2.2 ∧ u.2.1 = t.2.1 ++ [x])
  | [], m, h, _ => by simp at h
  | t :: r, m, h, nd => by
    obtain ⟨n1, n2⟩ := List.nodup_cons.mp nd
    by_cases e : t.1 = m
    · refine ⟨t, List.mem_cons_self .., by rw [show kvsOf (t :: r) = ((Sum.inl t.1, V.ref t.2.2) :: kvsOf r) from rfl, valV_pos (by rw [e])], fun x u hu => ?_⟩
      unfold gapp at hu
      rw [if_pos e] at hu
      rcases List.mem_cons.mp hu with q | q
      · exact .inr ⟨by rw [q], by rw [q]⟩
      · exact .inl ⟨List.mem_cons_of_mem _ q, fun z => n1 (List.mem_map.mpr ⟨u, q, z⟩)⟩
    · have hm : m ∈ r.map (·.1) := by rcases List.mem_cons.mp h with q | q; exact absurd q.symm e; exact q
      obtain ⟨t', ht, ev, hs⟩ := entry_of hm n2
      refine ⟨t', List.mem_cons_of_mem _ ht, by rw [show kvsOf (t :: r) = ((Sum.inl t.1, V.ref t.2.2) :: kvsOf r) from rfl, valV_neg (fun z => e (Sum.inl.inj z))]; exact ev, fun x u hu => ?_⟩
      unfold gapp at hu
      rw [if_neg e] at hu
      rcases List.mem_cons.mp hu with q | q
      · exact .inl ⟨by rw [q]; exact List.mem_cons_self .., fun z => n1 (List.mem_map.mpr ⟨t', ht, by rw [← z, q]⟩)⟩
      · rcases hs x u q with ⟨a, b⟩ | a
        · exact .inl ⟨List.mem_cons_of_mem _ a, b⟩
        · exact .inr a
theorem Mem.app {H : Hp} {d : Addr} {g : G3} {m : Int} (M : Mem H d g) (hm : m ∈ g.map (·.1)) : ∃ (a : Addr) (l : List Int), valV (kvsOf g) (Sum.inl m : Key) = some (.ref a) ∧ (m, l, a) ∈ g.map (fun t => (m, t.2.1, t.2.2)) ∧ H a = some (.lst (l.map V.int)) ∧
    ∀ x : Int, Mem (upd H a (.lst (l.map V.int ++ [.int x]))) d (gapp g m x) := by
  obtain ⟨t, ht, ev, hs⟩ := entry_of hm M.nd
  have ea := M.el t ht
  refine ⟨t.2.2, t.2.1, ev, List.mem_map.mpr ⟨t, ht, rfl⟩, ea, fun x => ⟨?_, fun u hu => ?_, by rw [adr_gapp]; exact M.nd⟩⟩
  · rw [upd_ne (ne_of M.ed ea (by intro z; cases z)), kvs_gapp]; exact M.ed
  · rcases hs x u hu with ⟨a, b⟩ | ⟨a, b⟩
    · rw [upd_ne b]; exact M.el u a
    · rw [a, upd_same, b, List.map_append]; rfl
theorem putK_new {kvs : List (Key × V)} {k : Key} {v : V} (h : valV kvs k = none) : putK kvs k v = kvs ++ [(k, v)] := by
  unfold putK
  rw [if_neg]
  rw [valV_any, h]; simp
/-! ### the pieces of a water -/
def marksOf (n : Nat) (es : Prs) : List Int := es.foldl rel (rng n)
def grpOf (ms : List Int) : Nat → Gr
  | 0 => []
  | i + 1 => gput (grpOf ms i) (mkOf ms (i : Int)) (i : Int)
def piecesOf (n : Nat) (es : Prs) : List (List Int) := (grpOf (marksOf n es) n).map (·.2)
theorem grp_of (ms : List Int) : ∀ i : Nat, Grp ms i (grpOf ms i)
  | 0 => Grp.start ms
  | i + 1 => (grp_of ms i).step
theorem mks_app {n : Nat} : ∀ (fs es : Prs) (ms : List Int), Mks n es ms → okPrs n es → okPrs n fs → Mks n (es ++ fs) (fs.foldl rel ms)
  | [], es, ms, h, _, _ => by rw [List.append_nil]; exact h
  | p :: fs, es, ms, h, oe, of => by
    have e : es ++ p :: fs = (es ++ [p]) ++ fs := by simp
    rw [e]
    exact mks_app fs (es ++ [p]) (rel ms p) (h.step oe (of p (List.mem_cons_self ..))) (fun q hq => by
      rcases List.mem_append.mp hq with z | z
      · exact oe q z
      · rw [List.mem_singleton.mp z]; exact of p (List.mem_cons_self ..)) fun q hq => of q (List.mem_cons_of_mem _ hq)
theorem marks_ok {n : Nat} {es : Prs} (ok : okPrs n es) : Mks n es (marksOf n es) := by
  exact mks_app es [] (rng n) (Mks.start n) (fun p h => by simp at h) ok
theorem rel_len (ms : List Int) (p : Int × Int) : (rel ms p).length = ms.length := by unfold rel; rw [List.length_map]
theorem fold_len : ∀ (es : Prs) (ms : List Int), (es.foldl rel ms).length = ms.length
  | [], _ => rfl
  | p :: es, ms => by rw [List.foldl_cons, fold_len es, rel_len]
theorem fold_take {es : Prs} {ms : List Int} {i : Nat} {p : Int × Int} (h : es[i]? = some p) : (es.take (i + 1)).foldl rel ms = rel ((es.take i).foldl rel ms) p := by
  rw [List.take_succ, h, List.foldl_append]; rfl
def tupI (l : List Int) : PyData := .tuple (l.map PyData.int)
theorem dp_ints {K : PySem.W.Frag} {H : Hp} : ∀ l : List Int, DpAll K H (l.map V.int) (l.map PyData.int)
  | [] => .nil
  | x :: l => .cons (.int x) (dp_ints l)
def prsW (r : Bool) (c : Cn) : Prs := c.ls.map (endW r)
section
variable {P : Program} {w : World} {K : PySem.W.Frag} {mg : Str → Option Value} {base : Heap}
abbrev nPieces : List Str := ["canal", "water", "marks", "lock", "start", "end", "kept", "dropped", "members", "basin", "mark", "basins"]
theorem scPieces : FnScope nPieces ["canal", "water"] (defScope sPieces) := ⟨rfl, rfl, rfl, by decide +kernel, rfl, by decide +kernel, by decide +kernel⟩
/-- a canal, without basins too -/
structure okC0 (c : Cn) : Prop where
  r1 : 0 ≤ c.r
  r2 : c.r ≤ 100
  b1 : 0 ≤ c.b
  b2 : c.b ≤ 100
  n : c.ls.length ≤ 500
  l : ∀ l ∈ c.ls, okLk c.r c.b l
def spPieces (K : PySem.W.Frag) : Sp := fun vs H Q _ => ∃ (v : V) (w : Str) (c : Cn), vs = [v, .str w] ∧ CnAny K H v c ∧ okC0 c ∧
  ∀ (p : Addr) (us : List V) (H' : Hp), Same H H' → H p = none → H' p = some (.lst us) → DpAll K H' us ((piecesOf (basW (isRed w) c).toNat (prsW (isRed w) c)).map tupI) → Q (.ref p) H'
theorem okEnd {c : Cn} (ok : okC0 c) (r : Bool) : okPrs (basW r c).toNat (prsW r c) := fun p hp => by
  obtain ⟨l, hl, rfl⟩ := List.mem_map.mp hp
  have o := ok.l l hl
  have := o.a0; have := o.a1; have := o.c0; have := o.c1; have := o.x0; have := o.x1; have := o.y0; have := o.y1
  cases r with
  | true =>
    show (0 ≤ l.1 ∧ l.1 < (c.r.toNat : Int)) ∧ (0 ≤ l.2.1 ∧ l.2.1 < (c.r.toNat : Int))
    omega
  | false =>
    show (0 ≤ l.2.2.1 ∧ l.2.2.1 < (c.b.toNat : Int)) ∧ (0 ≤ l.2.2.2 ∧ l.2.2.2 < (c.b.toNat : Int))
    omega
theorem ints_of_eq : ∀ {ys : List V} {zs : List Int}, ys.length = zs.length → (∀ (i : Nat) y, ys[i]? = some y → ∃ z, zs[i]? = some z ∧ y = .int z) → ys = zs.map V.int
  | [], [], _, _ => rfl
  | [], _ :: _, h, _ => by simp at h
  | _ :: _, [], h, _ => by simp at h
  | y :: ys, z :: zs, h, hi => by
    obtain ⟨z', e, p⟩ := hi 0 y rfl
    have e' : z = z' := by simpa using e
    subst e'
    rw [p, List.map_cons, ints_of_eq (ys := ys) (zs := zs) (by simpa using h) fun i y q => by simpa using hi (i + 1) y (by simpa using q)]
theorem ok_pieces {f fb fe : Addr} {fd fdb fde : FuncData} {k : Nat} (F : Fun K "pieces" "pieces" sPieces f fd) (B : Fns P w K mg base k "basins_of" ["canal", "water"] (spBas K) fb fdb) (Ef : Fns P w K mg base k "ends_of" ["lock", "water"] (spEnds K) fe fde)
    (m_list : mg "list" = none) (m_range : mg "range" = none) (m_enumerate : mg "enumerate" = none) (m_tuple : mg "tuple" = none) : FnOk P w K mg base CX0 (k + 1) f fd ["canal", "water"] (spPieces K) := by
  refine F.ok scPieces (fun vs H Q E h => ?_) (fun cdv A outer s H vs Q E hr h => ?_)
  · obtain ⟨v, w, c, rfl, _⟩ := h
    rfl
  obtain ⟨v, w, c, rfl, hc, okc, q⟩ := h
  have hc0 := hc
  obtain ⟨a, g, vs, rfl, ha, hg, hl, hv⟩ := hc.ex
  refine ⟨_, (pss_cons (ps_set (i := 2) scPieces.nd rfl (.inl rfl) (pe_listRg rfl rfl m_list (prg_1 rfl m_range (pe_fn B hr rfl (pa_cons (pv 0) (pa_cons (pv 1) pa_nil))))))
    (pss_cons (ps_for PassesOwn.never rfl (pi_seq (pe_ix (r := rIxA K) ix_any (pv 0) pe_int (fun _ _ => rfl))) (pg_name (i := 3) scPieces.nd rfl (.inl rfl))
    (pss_cons (ps_asg (pe_fn Ef hr rfl (pa_cons (pv 3) (pa_cons (pv 1) pa_nil))) (pg_any rfl (pgs_cons (pg_name (i := 4) scPieces.nd rfl (.inl rfl)) (pgs_cons (pg_name (i := 5) scPieces.nd rfl (.inl rfl)) pgs_nil))))
    (pss_cons (ps_asg (pe_tup (pa_cons (pe_ix (r := rIxA K) ix_any (pv 2) (pv 4) (fun _ _ => rfl)) (pa_cons (pe_ix (r := rIxA K) ix_any (pv 2) (pv 5) (fun _ _ => rfl)) pa_nil))) (pg_any rfl (pgs_cons (pg_name (i := 6) scPieces.nd rfl (.inr rfl)) (pgs_cons (pg_name (i := 7) scPieces.nd rfl (.inr rfl)) pgs_nil))))
    (pss_one (ps_setLc (i := 2) (own := [("mark", 10)]) (g := gName 10) (tt := tYes) rfl scPieces.nd rfl rfl (sw_true rfl rfl rfl (by decide +kernel)) (pi_seq (pv 2)) (blkOk_by (own := [("mark", 10)]) (N := nPieces) (sc := defScope sPieces) (by decide +kernel)) (fun _ _ _ _ _ => (pg_name (i := 10) scPieces.nd rfl (.inl rfl))) (fun _ _ _ _ _ => pts_nil) (fun _ _ _ _ _ => pe_hide (pe_ifExp (pt_cmpR op_eq (pv 10) (pv 7) (nomark _)) (pv 6) (pv 10))))))))
    (pss_cons (ps_set (i := 8) scPieces.nd rfl (.inl rfl) pe_dnewK)
    (pss_cons (ps_for PassesOwn.never rfl (pi_enum (by rfl) m_enumerate (pa_cons (pv 2) pa_nil)) (pg_any rfl (pgs_cons (pg_name (i := 9) scPieces.nd rfl (.inl rfl)) (pgs_cons (pg_name (i := 10) scPieces.nd rfl (.inl rfl)) pgs_nil)))
    (pss_cons (ps_if (pt_cmp (pc_dnotin (hu_of hr) (pv 10) (pv 8))) (pss_one (ps_dput (hu_of hr) (pv 8) (pv 10) (pe_lst pa_nil) rfl)) pss_nil)
    (pss_one (ps_expr (pe_bm PySem.F.plainAttrs_list PySem.F.slot_list_append PySem.F.type_list_append mt_append (pe_dget (hu_of hr) (pv 8) (pv 10) (fun _ _ => rfl)) (pa_cons (pv 9) pa_nil))))))
    (pss_one (ps_ret (pe_lock (pe_lc (own := [("basins", 11)]) (g := gName 11) (tt := tYes) rfl scPieces.nd (pi_values (pv 8)) (blkOk_by (own := [("basins", 11)]) (N := nPieces) (sc := defScope sPieces) (by decide +kernel)) (fun _ _ _ _ _ => (pg_name (i := 11) scPieces.nd rfl (.inl rfl))) (fun _ _ _ _ _ => pts_nil) (fun _ _ _ _ _ => pe_hide (pe_callTy (r := rTupA K) call_tupleA rfl m_tuple boot_tuple (pa_cons (pv 11) pa_nil))))))))))), ?_⟩
  generalize hrd : isRed w = r at q
  have okE := okEnd okc r
  have hn : 0 ≤ basW r c ∧ basW r c ≤ 100 := by
    have := okc.r1; have := okc.r2; have := okc.b1; have := okc.b2
    cases r with
    | true => show 0 ≤ c.r ∧ c.r ≤ 100; omega
    | false => show 0 ≤ c.b ∧ c.b ≤ 100; omega
  generalize hN : (basW r c).toNat = n at q okE
  have hN' : basW r c = (n : Int) := by omega
  have hn2 : n ≤ 100 := by omega
  -- marks = list(range(..))
  refine ⟨_, rfl, _, rfl, .ref a, w, c, rfl, hc0, _, rfl, ?_⟩
  rw [hrd, hN']
  refine ⟨RgOk.of_le (by omega) (by omega) (by omega) (by omega), fun m nm => ?_⟩
  have erg : rgV 0 (n : Int) = (rng n).map V.int := by
    unfold rgV rng
    rw [List.map_map]
    have e2 : ((n : Int) - 0).toNat = n := by omega
    rw [e2]
    exact List.map_congr_left fun i _ => by show V.int (0 + (i : Int)) = V.int (i : Int); rw [Int.zero_add]
  rw [erg]
  have s1 : Same H (upd H m (.lst ((rng n).map V.int))) := same_new nm
  refine at_g (σ' := [some (.ref a), some (.str w), some (.ref m), none, none, none, none, none, none, none, none, none]) rfl ?_
  -- the locks
  refine ⟨_, rfl, a, _, _, _, rfl, rfl, Same.sq2 s1 ha, rfl, g, vs, rfl, Same.sq2 s1 hg, fun J wk => for_it wk (fun i σ H3 => ∃ (m : Addr) (y3 y4 y5 y6 y7 y10 : Option V), σ = [some (.ref a), some (.str w), some (.ref m), y3, y4, y5, y6, y7, none, none, y10, none] ∧ Same H H3 ∧ H m = none ∧ H3 m = some (.lst ((((prsW r c).take i).foldl rel (rng n)).map V.int)))
    ⟨m, none, none, none, none, none, none, rfl, s1, nm, upd_same⟩ (fun i σ H3 _ h => ?_) (fun i x σ H3 H4 hi h hy => ?_) (fun σ H3 h => ?_)⟩
  · obtain ⟨_, _, _, _, _, _, _, _, sm, _⟩ := h
    exact ⟨fun _ _ => sm.seq (by rcases hg with z | z; exact z; rename_i nt _; exact absurd (Same.tup s1 z) nt), fun z => by
      rcases z with (z | ⟨o, z⟩) | z
      · by_cases gm : g = m
        · rw [gm, upd_same] at z; cases z
        · rw [upd_ne gm] at z; exact .inl (.inl (sm _ _ z))
      · by_cases gm : g = m
        · rw [gm, upd_same] at z; cases z
        · rw [upd_ne gm] at z; exact .inl (.inr ⟨o, sm _ _ z⟩)
      · exact .inr z⟩
  · obtain ⟨m, y3, y4, y5, y6, y7, y10, rfl, sm, nm, em⟩ := h
    obtain ⟨rfl, hx⟩ := hy
    obtain ⟨l, t, el, rfl, ht⟩ := hv i x hx
    have ep : (prsW r c)[i]? = some (endW r l) := by unfold prsW; rw [List.getElem?_map, el]; rfl
    generalize hms : ((prsW r c).take i).foldl rel (rng n) = ms at em
    have mlen : ms.length = n := by rw [← hms, fold_len, rng_len]
    obtain ⟨⟨b0, b1⟩, d0, d1⟩ := okE _ (List.mem_of_getElem? ep)
    refine ⟨_, rfl, _, rfl, t, w, l, rfl, Same.sq2 sm ht, fun p np => ?_⟩
    rw [hrd]
    have sp : Same H4 (upd H4 p (.tup (prV (endW r l)))) := same_new np
    refine ⟨p, _, rfl, .inr (.inl (.inl upd_same)), rfl, _, _, rfl, _, _, rfl, rfl, ?_⟩
    refine at_s (σ' := [some (.ref a), some (.str w), some (.ref m), some (.ref t), some (.int (endW r l).1), some (.int (endW r l).2), y6, y7, none, none, y10, none]) rfl ?_
    have em2 := sp _ _ em
    have g1 : atI (ms.map V.int) (endW r l).1 = some (.int (mkOf ms (endW r l).1)) := atI_int b0 (by rw [List.getElem?_map, mkOf_get b0 (by rw [mlen]; exact b1)]; rfl)
    have g2 : atI (ms.map V.int) (endW r l).2 = some (.int (mkOf ms (endW r l).2)) := atI_int d0 (by rw [List.getElem?_map, mkOf_get d0 (by rw [mlen]; exact d1)]; rfl)
    refine ⟨_, rfl, _, rfl, m, _, _, _, rfl, rfl, .inl (SqL.of em2), g1, _, rfl, _, rfl, m, _, _, _, rfl, rfl, .inl (SqL.of em2), g2, (by show 2 ≤ sizeLine; decide), fun p2 np2 => ?_⟩
    have sp2 := sp.trans (same_new np2 (o := .tup [.int (mkOf ms (endW r l).1), .int (mkOf ms (endW r l).2)]))
    refine ⟨p2, _, rfl, .inr (.inl (.inl upd_same)), rfl, _, _, rfl, _, _, rfl, rfl, ?_⟩
    refine at_s (σ' := [some (.ref a), some (.str w), some (.ref m), some (.ref t), some (.int (endW r l).1), some (.int (endW r l).2), some (.int (mkOf ms (endW r l).1)), some (.int (mkOf ms (endW r l).2)), none, none, y10, none]) rfl ?_
    have em3 := sp2 _ _ em
    refine ⟨_, rfl, m, ms.map V.int, rfl, .inl (SqL.of em3), fun J wk => lc_map wk Same (fun a b => a.trans b) (fun i y F => ∃ z, (rel ms (endW r l))[i]? = some z ∧ y = .int z) (fun i y A B s p => p) (by rw [List.length_map, mlen]; exact small1000 (by omega)) (Same.refl _) (fun F D acc sF nF => ?_) (fun j x D acc F H' hj nD sF nF hy B hB => ?_) (fun D ys F nD sF nF hyl hR => ?_)⟩
    · have sD : Same _ (upd F D (.lst acc)) := sF.trans (same_new nF)
      exact ⟨fun _ z => sD.seq z, fun z => Same.tup sD z⟩
    · obtain ⟨rfl, hx⟩ := hy
      have hj' : j < ms.length := by rw [List.length_map] at hj; exact hj
      rw [List.getElem?_map, List.getElem?_eq_getElem hj'] at hx
      cases hx
      have er : (rel ms (endW r l))[j]? = some (if ms[j] = mkOf ms (endW r l).2 then mkOf ms (endW r l).1 else ms[j]) := by
        unfold rel
        rw [List.getElem?_map, List.getElem?_eq_getElem hj']; rfl
      refine hB _ F rfl nF fun Qt hq => ?_
      refine ⟨_, rfl, _, rfl, rfl, _, rfl, ite2 (fun e => ?_) (fun e => ?_)⟩
      · have e' : ms[j] = mkOf ms (endW r l).2 := V.int.inj (of_decide_eq_true e)
        rw [if_pos e'] at er
        exact ⟨_, rfl, hq _ _ (Same.refl _) ⟨_, er, rfl⟩⟩
      · have e' : ¬ ms[j] = mkOf ms (endW r l).2 := fun z => e (decide_eq_true (by rw [z]))
        rw [if_neg e'] at er
        exact ⟨_, rfl, hq _ _ (Same.refl _) ⟨_, er, rfl⟩⟩
    · have ey : ys = (rel ms (endW r l)).map V.int := ints_of_eq (by rw [hyl, List.length_map, rel_len]) hR
      have sD : Same H4 (upd F D (.lst ys)) := sp2.trans (sF.trans (same_new nF))
      refine ⟨D, _, _, _, _, _, _, rfl, sm.trans sD, sm.free (sp2.free nD), ?_⟩
      rw [upd_same, ey, fold_take ep, hms]
  · obtain ⟨m, y3, y4, y5, y6, y7, y10, rfl, sm, nm, em⟩ := h
    have etk : (prsW r c).take vs.length = prsW r c := by
      rw [List.take_of_length_le]
      unfold prsW
      rw [List.length_map, hl]; exact Nat.le_refl _
    rw [etk] at em
    have em' : H3 m = some (.lst ((marksOf n (prsW r c)).map V.int)) := em
    have Mk := marks_ok okE
    unfold piecesOf at q
    generalize marksOf n (prsW r c) = ms at em' Mk q
    have mlen : ms.length = n := Mk.len
    -- members = {}
    refine fun d nd => ?_
    have s2 : Same H3 (upd H3 d (.dK [])) := same_new nd
    refine at_g (σ' := [some (.ref a), some (.str w), some (.ref m), y3, y4, y5, y6, y7, some (.ref d), none, y10, none]) rfl ?_
    have hmd : m ≠ d := ne_of_none em' nd
    refine ⟨_, rfl, m, ms.map V.int, rfl, SqL.of (by rw [upd_ne hmd]; exact em'), for_it (walk_enum (xs := ms.map V.int)) (fun i σ H5 => ∃ (G : G3) (y9 y10 : Option V), σ = [some (.ref a), some (.str w), some (.ref m), y3, y4, y5, y6, y7, some (.ref d), y9, y10, none] ∧ Same H3 H5 ∧ Mem H5 d G ∧ grOf G = grpOf ms i ∧ G.length ≤ i ∧ (∀ t ∈ G, H3 t.2.2 = none) ∧ ∀ t ∈ G, t.2.1.length ≤ i)
      ⟨[], none, y10, rfl, s2, ⟨upd_same, fun t ht => by simp at ht, List.Pairwise.nil⟩, rfl, Nat.le_refl _, fun t ht => by simp at ht, fun t ht => by simp at ht⟩ (fun i σ H5 _ h => ?_) (fun i x σ H5 H6 hi h hy => ?_) (fun σ H5 h => ?_)⟩
    · obtain ⟨_, _, _, _, sm5, _⟩ := h
      exact SqL.of (sm5 _ _ em')
    · obtain ⟨G, y9, y10, rfl, sm5, M, eG, lG, nG, wG⟩ := h
      obtain ⟨T, x1, x2, rfl, nT, rfl, e1, e2⟩ := hy
      have hi' : i < ms.length := by rw [List.length_map] at hi; exact hi
      have e1' : x1 = .int (i : Nat) := (Option.some.inj e1).symm
      have e2' : x2 = .int (mkOf ms (i : Int)) := by
        have e3 : (ms.map V.int)[i]? = some x2 := e2
        rw [List.getElem?_map] at e3
        have e4 := mkOf_get (ms := ms) (j := (i : Int)) (by omega) (by omega)
        have e5 : ((i : Int)).toNat = i := by omega
        rw [e5] at e4
        rw [e4] at e3
        exact (Option.some.inj e3).symm
      subst e1' e2'
      have sT : Same H5 (upd H5 T (.tup [.int (i : Nat), .int (mkOf ms (i : Int))])) := same_new nT
      refine ⟨T, _, rfl, .inr (.inl (.inl upd_same)), rfl, _, _, rfl, _, _, rfl, rfl, ?_⟩
      refine at_s (σ' := [some (.ref a), some (.str w), some (.ref m), y3, y4, y5, y6, y7, some (.ref d), some (.int (i : Nat)), some (.int (mkOf ms (i : Int))), none]) rfl ?_
      have MT : Mem (upd H5 T (.tup [.int (i : Nat), .int (mkOf ms (i : Int))])) d G := ⟨sT _ _ M.ed, fun t ht => sT _ _ (M.el t ht), M.nd⟩
      generalize hT6 : upd H5 T (.tup [.int (i : Nat), .int (mkOf ms (i : Int))]) = H6 at sT MT
      have s36 := sm5.trans sT
      have hdn : H3 d = none := nd
      -- the append
      have fin : ∀ (H7 : Hp) (G1 : G3),
          Same H3 H7 → Mem H7 d G1 → mkOf ms (i : Int) ∈ G1.map (·.1) → grOf (gapp G1 (mkOf ms (i : Int)) (i : Int)) = grpOf ms (i + 1) → G1.length ≤ i + 1 → (∀ t ∈ G1, H3 t.2.2 = none) → (∀ t ∈ G1, t.2.1.length ≤ i) →
          ∃ (b : Addr) (l : List Int), DGet H7 d (.int (mkOf ms (i : Int))) (some (.ref b)) ∧ H7 b = some (.lst (l.map V.int)) ∧ (l.map V.int).length < sizeLine ∧ ∃ (G : G3) (y9 y10 : Option V), [some (.ref a), some (.str w), some (.ref m), y3, y4, y5, y6, y7, some (.ref d), some (.int (i : Nat)), some (.int (mkOf ms (i : Int))), none] = [some (.ref a), some (.str w), some (.ref m), y3, y4, y5, y6, y7, some (.ref d), y9, y10, none] ∧ Same H3 (upd H7 b (.lst (l.map V.int ++ [.int (i : Nat)]))) ∧ Mem (upd H7 b (.lst (l.map V.int ++ [.int (i : Nat)]))) d G ∧ grOf G = grpOf ms (i + 1) ∧ G.length ≤ i + 1 ∧ (∀ t ∈ G, H3 t.2.2 = none) ∧ ∀ t ∈ G, t.2.1.length ≤ i + 1 := by
        intro H7 G1 s37 M7 hk eg lg ng wg
        obtain ⟨b, l, ev, hbl, eb, hM⟩ := M7.app hk
        obtain ⟨t, ht, et⟩ := List.mem_map.mp hbl
        have ebt : t.2.2 = b := (Prod.mk.inj (Prod.mk.inj et).2).2
        have elt : t.2.1 = l := (Prod.mk.inj (Prod.mk.inj et).2).1
        have hwl : l.length ≤ i := by rw [← elt]; exact wg t ht
        have hbn : H3 b = none := by rw [← ebt]; exact ng t ht
        have dg : DGet H7 d (.int (mkOf ms (i : Int))) (valV (kvsOf G1) (Sum.inl (mkOf ms (i : Int)) : Key)) := DGet.k (k := Sum.inl (mkOf ms (i : Int))) M7.ed
        rw [ev] at dg
        refine ⟨b, l, dg, eb, by rw [List.length_map]; exact small1000 (by omega), ?_⟩
        have hlen : (gapp G1 (mkOf ms (i : Int)) (i : Int)).length = G1.length := by
          have := congrArg List.length (adr_gapp G1 (mkOf ms (i : Int)) (i : Int))
          rw [List.length_map, List.length_map] at this; exact this
        have hadr : ∀ u ∈ gapp G1 (mkOf ms (i : Int)) (i : Int), ∃ t ∈ G1, t.2.2 = u.2.2 := fun u hu => by
          have : u.2.2 ∈ (gapp G1 (mkOf ms (i : Int)) (i : Int)).map (·.2.2) := List.mem_map.mpr ⟨u, hu, rfl⟩
          rw [adr_gapp] at this
          obtain ⟨t, ht, e⟩ := List.mem_map.mp this
          exact ⟨t, ht, e⟩
        have hls : ∀ (g : G3) (m x : Int), (∀ t ∈ g, t.2.1.length ≤ i) → ∀ u ∈ gapp g m x, u.2.1.length ≤ i + 1 := by
          intro g m x
          induction g with
          | nil => intro _ u hu; simp [gapp] at hu
          | cons t r ih =>
            intro hg u hu
            unfold gapp at hu
            by_cases e : t.1 = m
            · rw [if_pos e] at hu
              rcases List.mem_cons.mp hu with z | z
              · rw [z]
                show (t.2.1 ++ [x]).length ≤ i + 1
                rw [List.length_append]
                have := hg t (List.mem_cons_self ..)
                simp; omega
              · have := hg u (List.mem_cons_of_mem _ z); omega
            · rw [if_neg e] at hu
              rcases List.mem_cons.mp hu with z | z
              · rw [z]; have := hg t (List.mem_cons_self ..); omega
              · exact ih (fun t ht => hg t (List.mem_cons_of_mem _ ht)) u z
        refine ⟨_, _, _, rfl, fun c o e => ?_, hM _, eg, by rw [hlen]; exact lg, fun u hu => ?_, hls G1 _ _ wg⟩
        · rw [upd_ne (ne_of_none e hbn)]; exact s37 _ _ e
        · obtain ⟨t, ht, e⟩ := hadr u hu
          rw [← e]; exact ng t ht
      refine ⟨_, rfl, _, rfl, d, _, rfl, DGet.k (k := Sum.inl (mkOf ms (i : Int))) MT.ed, _, rfl, ?_⟩
      cases ev : valV (kvsOf G) (Sum.inl (mkOf ms (i : Int)) : Key) with
      | none =>
        have hk := key_iff.mp ev
        refine iteT ?_
        refine ⟨(by show 0 ≤ sizeLine; decide), fun b nb => ?_⟩
        have sb : Same H6 (upd H6 b (.lst [])) := same_new nb
        refine ⟨_, rfl, _, rfl, d, _, rfl, DPut.k (k := Sum.inl (mkOf ms (i : Int))) (sb _ _ MT.ed) ?_, ?_⟩
        · unfold kvsOf; rw [List.length_map]; exact small1000 (by omega)
        rw [putK_new ev]
        have hbd : b ≠ d := fun e => by rw [e, MT.ed] at nb; cases nb
        have key : ∃ (b' : Addr) (l : List Int), _ := fin (upd (upd H6 b (.lst [])) d (.dK (kvsOf G ++ [(Sum.inl (mkOf ms (i : Int)), .ref b)]))) (G ++ [(mkOf ms (i : Int), [], b)])
          (by
          intro c o e
          rw [upd_ne (ne_of_none e hdn)]; exact sb _ _ (s36 _ _ e))
          ⟨(by
          rw [upd_same]; unfold kvsOf; rw [List.map_append]; rfl), (by
          intro t ht
          rcases List.mem_append.mp ht with ht | ht
          · have hne : t.2.2 ≠ d := fun e => by have z := MT.el t ht; rw [e, MT.ed] at z; cases z
            rw [upd_ne hne]; exact sb _ _ (MT.el t ht)
          · rw [List.mem_singleton.mp ht]
            show upd _ d _ b = _
            rw [upd_ne hbd, upd_same]; rfl), (by
          rw [List.map_append]
          refine List.nodup_append.mpr ⟨MT.nd, by simp, fun x hx y hy e => ?_⟩
          have e2 : y = b := by simpa using hy
          obtain ⟨t, ht, et⟩ := List.mem_map.mp hx
          have z := MT.el t ht
          rw [et, e, e2, nb] at z; cases z)⟩
          (by
          rw [List.map_append]; exact List.mem_append_right _ (by simp)) (by
          rw [gr_gnew _ _ hk, eG]; rfl) (by
          rw [List.length_append]; simp; exact lG) (by
          intro t ht
          rcases List.mem_append.mp ht with ht | ht
          · exact nG t ht
          · rw [List.mem_singleton.mp ht]; exact s36.free nb) (by
          intro t ht
          rcases List.mem_append.mp ht with ht | ht
          · exact wG t ht
          · rw [List.mem_singleton.mp ht]; exact Nat.zero_le _)
        obtain ⟨b', l, dg, eb, hz, hN⟩ := key
        exact ⟨_, rfl, _, rfl, d, .ref b', rfl, dg, .inl ⟨rfl, _, SqL.of eb⟩, _, rfl, b', _, _, rfl, rfl, eb, hz, hN⟩
      | some z =>
        have hk : mkOf ms (i : Int) ∈ G.map (·.1) := Classical.byContradiction fun c => by rw [key_iff.mpr c] at ev; cases ev
        refine iteF ?_
        obtain ⟨b, l, dg, eb, hz, hN⟩ := fin _ G s36 MT hk (by rw [gr_gapp _ hk, eG]; rfl) (by omega) nG wG
        exact ⟨_, rfl, _, rfl, d, .ref b, rfl, dg, .inl ⟨rfl, _, SqL.of eb⟩, _, rfl, b, _, _, rfl, rfl, eb, hz, hN⟩
    · obtain ⟨G, y9, y10, rfl, sm5, M, eG, lG, nG, wG⟩ := h
      have lms : (ms.map V.int).length = n := by rw [List.length_map, mlen]
      rw [lms] at eG lG
      refine ⟨d, _, M.ed, trivial, fun od => ?_⟩
      have nG5 : ∀ t ∈ G, t.2.2 ≠ d := fun t ht e => by have z := M.el t ht; rw [e, M.ed] at z; cases z
      refine ⟨_, rfl, d, od, kvsOf G, rfl, upd_same, lc_map walk_values Same (fun a b => a.trans b) (fun i y F => ∃ t, G[i]? = some t ∧ Dp K F y (tupI t.2.1)) (fun i y A B s ⟨t, e, p⟩ => ⟨t, e, Dp.same s _ p⟩) ?_ (Same.refl _) (fun F D acc sF nF => ?_) (fun j x D acc F H' hj nD sF nF hy B hB => ?_) (fun D ys F nD sF nF hyl hR => ?_)⟩
      · unfold kvsOf; rw [List.length_map]; exact small1000 (by omega)
      · exact (sF.trans (same_new nF)) _ _ upd_same
      · obtain ⟨rfl, kk, hx⟩ := hy
        unfold kvsOf at hx
        rw [List.getElem?_map] at hx
        cases eg : G[j]? with
        | none => rw [eg] at hx; cases hx
        | some t =>
          rw [eg] at hx
          cases hx
          have ht := List.mem_of_getElem? eg
          have eF : F t.2.2 = some (.lst (t.2.1.map V.int)) := sF _ _ (by rw [upd_ne (nG5 t ht)]; exact M.el t ht)
          refine hB _ F rfl nF fun Qt hq => ?_
          refine ⟨_, rfl, t.2.2, _, rfl, .inl ⟨SqL.of eF, fun p np => hq _ _ (same_new np) ⟨t, eg, .tup (.inl (.inl upd_same)) (dp_ints _)⟩⟩⟩
      · have eD : upd F D (.lst ys) d = some (.frz od (.dK (kvsOf G))) := (sF.trans (same_new nF)) _ _ upd_same
        refine ⟨eD, ?_⟩
        have hDd : D ≠ d := fun e => by rw [e, upd_same] at nD; cases nD
        have hDn : H5 D = none := by rw [upd_ne hDd] at nD; exact nD
        have tp : Tp F (upd (upd F D (.lst ys)) d (.dK (kvsOf G))) := by
          have a1 := Tp.of (same_new nF (o := .lst ys))
          refine a1.trans ⟨fun b ys e => ?_, fun b o ys e => ?_⟩
          · rw [upd_ne (fun z => by rw [z, eD] at e; cases e)]; exact e
          · rw [upd_ne (fun z => by rw [z, eD] at e; cases e)]; exact e
        refine q D ys _ (fun c o e => ?_) (sm.free (sm5.free hDn)) (by rw [upd_ne hDd, upd_same]) ?_
        · have hcd : c ≠ d := ne_of_none (sm _ _ e) nd
          rw [upd_ne hcd]
          exact (same_new nF) _ _ (sF _ _ (by rw [upd_ne hcd]; exact sm5 _ _ (sm _ _ e)))
        · have key : ∀ {ys : List V} {G : G3}, ys.length = G.length → (∀ (i : Nat) y, ys[i]? = some y → ∃ t, G[i]? = some t ∧ Dp K F y (tupI t.2.1)) → DpAll K F ys (((grOf G).map (·.2)).map tupI) := by
            intro ys
            induction ys with
            | nil =>
              intro G h _
              cases G with
              | nil => exact .nil
              | cons _ _ => simp at h
            | cons y ys ih =>
              intro G h hi
              cases G with
              | nil => simp at h
              | cons t G =>
                obtain ⟨t', e, p⟩ := hi 0 y rfl
                have e' : t = t' := by simpa using e
                subst e'
                exact .cons p (ih (by simpa using h) fun i z q => by simpa using hi (i + 1) z (by simpa using q))
          have hlen : ys.length = G.length := by rw [hyl]; unfold kvsOf; rw [List.length_map]
          have dpa := key hlen hR
          rw [eG] at dpa
          have noT : ∀ l : List (List Int), noLs (l.map tupI) = true := by
            intro l
            induction l with
            | nil => rfl
            | cons a l ih =>
              have : ∀ b : List Int, noLs (b.map PyData.int) = true := by
                intro b
                induction b with
                | nil => rfl
                | cons x b ih => rw [List.map_cons, noLs, ih]; rfl
              rw [List.map_cons, noLs, ih]
              show (noLs (a.map PyData.int) && true) = true
              rw [this]; rfl
          exact DpAll.tp tp _ (noT _) dpa
end
end XL
namespace XL
open PySem PySem.Spec PyProof.Rows L2
abbrev sNums : Stmt := topS 3
abbrev sEnd : Stmt := topS 10
abbrev sAe : Stmt := topS 11
abbrev sBo : Stmt := topS 13
def endB (d : PyData) : Bool := tupB 2 d && (itemsD d).all numB
def rowB (d : PyData) : Bool := isT d && (itemsD d).all endB
/-- every row in it, at each depth, is of so many at most -/
def lenD (N : Nat) : Nat → PyData → Prop
  | 0, .list _ => False
  | 0, .tuple _ => False
  | k + 1, .list ds => ds.length ≤ N ∧ ∀ d ∈ ds, lenD N k d
  | k + 1, .tuple ds => ds.length ≤ N ∧ ∀ d ∈ ds, lenD N k d
  | _, .dict _ => False
  | _, .str x => PyData.strOk x = true
  | _, _ => True
theorem bls_map {f : PyData → Bool} : ∀ {ys : List V} {ds : List PyData}, ys.length = ds.length → (∀ (i : Nat) y, ys[i]? = some y → ∃ d, ds[i]? = some d ∧ y = .bl (f d)) → ys = (ds.map f).map V.bl
  | [], [], _, _ => rfl
  | [], _ :: _, h, _ => by simp at h
  | _ :: _, [], h, _ => by simp at h
  | y :: ys, d :: ds, h, hi => by
    obtain ⟨d', e, p⟩ := hi 0 y rfl
    have e' : d = d' := by simpa using e
    subst e'
    have r := bls_map (f := f) (ys := ys) (ds := ds) (by simpa using h) fun i z q => by
      have := hi (i + 1) z (by simpa using q)
      simpa using this
    rw [List.map_cons, List.map_cons, ← r, p]
theorem all_map {α : Type} {f : α → Bool} : ∀ ds : List α, (ds.map f).all id = ds.all f
  | [] => rfl
  | d :: ds => by rw [List.map_cons, List.all_cons, List.all_cons, all_map ds]; rfl
section
variable {P : Program} {w : World} {K : PySem.W.Frag} {mg : Str → Option Value} {base : Heap}
/-! ### are_numbers -/
abbrev nNums : List Str := ["things", "thing"]
theorem scNums : FnScope nNums ["things"] (defScope sNums) := ⟨rfl, rfl, rfl, by decide +kernel, rfl, by decide +kernel, by decide +kernel⟩
def spNums (K : PySem.W.Frag) : Sp := fun vs H Q _ => ∃ (t : Addr) (xs : List V) (ds : List PyData), vs = [.ref t] ∧ Sq2 K H t xs ∧ DpAll K H xs ds ∧ ds.length ≤ 1000 ∧ ∀ H', Same H H' → Q (.bl (ds.all numB)) H'
theorem ok_nums {f fn : Addr} {fd fdn : FuncData} {k : Nat} (F : Fun K "are_numbers" "are_numbers" sNums f fd) (Nu : Fns P w K mg base k "is_number" ["thing"] (spNum K) fn fdn) (m_all : mg "all" = none) : FnOk P w K mg base CX0 (k + 1) f fd ["things"] (spNums K) := by
  refine F.ok scNums (fun vs H Q E h => ?_) (fun cdv A outer s0 H vs Q E hr h => ?_)
  · obtain ⟨t, xs, ds, rfl, _⟩ := h
    rfl
  obtain ⟨t, xs, ds, rfl, ht, hd, few, q⟩ := h
  refine ⟨_, (pss_one (ps_ret (pe_callB (r := rAll K) (cr_all rfl) rfl m_all boot_all (pa_cons (pe_lc (own := [("thing", 1)]) (g := gName 1) (tt := tYes) rfl scNums.nd (pi_seqA rfl (pv 0)) (blkOk_by (own := [("thing", 1)]) (N := nNums) (sc := defScope sNums) (by decide +kernel)) (fun _ _ _ _ _ => (pg_name (i := 1) scNums.nd rfl (.inl rfl))) (fun _ _ _ _ _ => pts_nil) (fun _ _ _ _ _ => pe_hide (pe_fn Nu hr rfl (pa_cons (pv 1) pa_nil)))) pa_nil)))), ?_⟩
  obtain ⟨bt, htB⟩ := sqB_of ht
  have lx := DpAll.length hd
  refine ⟨_, rfl, t, xs, bt, fun Y => SqB K bt Y t xs, rfl, htB, fun _ h => h, fun J wk => lc_map wk Same (fun a b => a.trans b) (fun i y F => ∃ d, ds[i]? = some d ∧ y = .bl (numB d)) (fun i y A B _ p => p) (by rw [lx]; exact small1000 few) (Same.refl _) (fun D acc F sF nF => Same.sqB (sF.trans (same_new nF)) htB) (fun j x D acc F H' hj nD sF nF hy B hB => ?_) (fun D ys F nD sF nF hl hR => ?_)⟩
  · obtain ⟨rfl, hx⟩ := hy
    obtain ⟨d, ed, dx⟩ := DpAll.get hd hx
    refine hB _ F rfl nF fun Qt hQ => ?_
    exact ⟨_, rfl, x, d, rfl, Dp.same sF _ dx, hQ _ _ (Same.refl _) ⟨d, ed, rfl⟩⟩
  · have e := bls_map (f := numB) (ys := ys) (ds := ds) (by rw [hl, lx]) hR
    refine ⟨D, ds.map numB, rfl, by rw [← e]; exact SqL.of upd_same, ?_⟩
    rw [all_map]
    exact q _ (sF.trans (same_new nF))
end
end XL
namespace XL
open PySem PySem.Spec PyProof.Rows L2
section
variable {P : Program} {w : World} {K : PySem.W.Frag} {mg : Str → Option Value} {base : Heap}
/-! ### is_end -/
abbrev nEnd : List Str := ["thing"]
theorem scEnd : FnScope nEnd ["thing"] (defScope sEnd) := ⟨rfl, rfl, rfl, by decide +kernel, rfl, by decide +kernel, by decide +kernel⟩
def spEnd (K : PySem.W.Frag) : Sp := fun vs H Q _ => ∃ (v : V) (d : PyData), vs = [v] ∧ Dp K H v d ∧ ∀ H', Same H H' → Q (.bl (endB d)) H'
theorem ok_end {f ft fn : Addr} {fd fdt fdn : FuncData} {k : Nat} (F : Fun K "is_end" "is_end" sEnd f fd) (To : Fns P w K mg base k "is_tuple_of" ["thing", "many"] (spTupOf K) ft fdt) (Ns : Fns P w K mg base k "are_numbers" ["things"] (spNums K) fn fdn) : FnOk P w K mg base CX0 (k + 1) f fd ["thing"] (spEnd K) := by
  refine F.ok scEnd (fun vs H Q E h => ?_) (fun cdv A outer s0 H vs Q E hr h => ?_)
  · obtain ⟨v, d, rfl, _⟩ := h
    rfl
  obtain ⟨v, d, rfl, hd, q⟩ := h
  refine ⟨_, (pss_one (ps_ret (pe_and (pe_fn To hr rfl (pa_cons (pv 0) (pa_cons pe_int pa_nil))) (pe_one (pe_fn Ns hr rfl (pa_cons (pv 0) pa_nil)))))), ?_⟩
  refine ⟨_, rfl, v, d, 2, rfl, hd, _, rfl, ?_⟩
  cases ht : tupB 2 d with
  | false =>
    have e : endB d = false := by unfold endB; rw [ht]; rfl
    rw [e] at q
    exact iteF (q H (Same.refl H))
  | true =>
    obtain ⟨ds, rfl, hl⟩ := tup4 (n := 2) ht
    have e : endB (.tuple ds) = ds.all numB := by unfold endB; rw [ht]; rfl
    rw [e] at q
    cases hd with
    | tup hs ha => exact iteT ⟨_, rfl, _, _, ds, rfl, .inr hs, ha, by omega, q⟩
/-! ### are_ends -/
abbrev nAe : List Str := ["thing", "part"]
theorem scAe : FnScope nAe ["thing"] (defScope sAe) := ⟨rfl, rfl, rfl, by decide +kernel, rfl, by decide +kernel, by decide +kernel⟩
def spAe (K : PySem.W.Frag) : Sp := fun vs H Q _ => ∃ (v : V) (d : PyData), vs = [v] ∧ Dp K H v d ∧ (itemsD d).length ≤ 1000 ∧ ∀ H', Same H H' → Q (.bl (rowB d)) H'
theorem ok_ae {f fe : Addr} {fd fde : FuncData} {k : Nat} (F : Fun K "are_ends" "are_ends" sAe f fd) (En : Fns P w K mg base k "is_end" ["thing"] (spEnd K) fe fde) (m_isinstance : mg "isinstance" = none) (m_tuple : mg "tuple" = none) (m_all : mg "all" = none) : FnOk P w K mg base CX0 (k + 1) f fd ["thing"] (spAe K) := by
  refine F.ok scAe (fun vs H Q E h => ?_) (fun cdv A outer s0 H vs Q E hr h => ?_)
  · obtain ⟨v, d, rfl, _⟩ := h
    rfl
  obtain ⟨v, d, rfl, hd, few, q⟩ := h
  refine ⟨_, (pss_one (ps_ret (pe_and (pe_callB (call_isD (f := isT) kit_isT) rfl m_isinstance boot_isinstance (pa_cons (pv 0) (pa_cons (pe_bltn (v := .ty "tuple") rfl m_tuple boot_tuple rfl) pa_nil))) (pe_one (pe_callB (r := rAll K) (cr_all rfl) rfl m_all boot_all (pa_cons (pe_lc (own := [("part", 1)]) (g := gName 1) (tt := tYes) rfl scAe.nd (pi_seqA rfl (pv 0)) (blkOk_by (own := [("part", 1)]) (N := nAe) (sc := defScope sAe) (by decide +kernel)) (fun _ _ _ _ _ => (pg_name (i := 1) scAe.nd rfl (.inl rfl))) (fun _ _ _ _ _ => pts_nil) (fun _ _ _ _ _ => pe_hide (pe_fn En hr rfl (pa_cons (pv 1) pa_nil)))) pa_nil)))))), ?_⟩
  refine ⟨_, rfl, v, d, rfl, hd, _, rfl, ?_⟩
  cases ht : isT d with
  | false =>
    have e : rowB d = false := by unfold rowB; rw [ht]; rfl
    rw [e] at q
    exact iteF (q H (Same.refl H))
  | true =>
    obtain ⟨ds, rfl⟩ : ∃ ds, d = .tuple ds := by
      cases d with
      | tuple ds => exact ⟨ds, rfl⟩
      | _ => exact absurd ht (by simp [isT])
    have e : rowB (.tuple ds) = ds.all endB := rfl
    rw [e] at q
    have few' : ds.length ≤ 1000 := few
    cases hd with
    | tup hs ha =>
    rename_i a xs
    have lx := DpAll.length ha
    obtain ⟨bt, htB⟩ := sqB_of (.inr hs)
    refine iteT ?_
    refine ⟨_, rfl, a, xs, bt, fun Y => SqB K bt Y a xs, rfl, htB, fun _ h => h, fun J wk => lc_map wk Same (fun a b => a.trans b) (fun i y F => ∃ d, ds[i]? = some d ∧ y = .bl (endB d)) (fun i y A B _ p => p) (by rw [lx]; exact small1000 few') (Same.refl _) (fun D acc F sF nF => Same.sqB (sF.trans (same_new nF)) htB) (fun j x D acc F H' hj nD sF nF hy B hB => ?_) (fun D ys F nD sF nF hl hR => ?_)⟩
    · obtain ⟨rfl, hx⟩ := hy
      obtain ⟨d, ed, dx⟩ := DpAll.get ha hx
      refine hB _ F rfl nF fun Qt hQ => ?_
      exact ⟨_, rfl, x, d, rfl, Dp.same sF _ dx, fun G s => hQ _ _ s ⟨d, ed, rfl⟩⟩
    · have e := bls_map (f := endB) (ys := ys) (ds := ds) (by rw [hl, lx]) hR
      refine ⟨D, ds.map endB, rfl, by rw [← e]; exact SqL.of upd_same, ?_⟩
      rw [all_map]
      exact q _ (sF.trans (same_new nF))
end
end XL
namespace XL
open PySem PySem.Spec PyProof.Rows L2
section
variable {P : Program} {w : World} {K : PySem.W.Frag} {mg : Str → Option Value} {base : Heap}
/-! ### both_ends -/
abbrev nBo : List Str := ["many", "lock", "side"]
theorem scBo : FnScope nBo ["many"] (defScope sBo) := ⟨rfl, rfl, rfl, by decide +kernel, rfl, by decide +kernel, by decide +kernel⟩
def spBo (K : PySem.W.Frag) : Sp := fun vs H Q _ => ∃ n : Nat, vs = [.int (n : Nat)] ∧ n ≤ 500 ∧ ∀ (p : Addr) (us : List V) (H' : Hp), Same H H' → H p = none → H' p = some (.lst us) → DpAll K H' us ((bothE n).map enD) → Q (.ref p) H'
theorem ok_bo {f : Addr} {fd : FuncData} {k : Nat} (F : Fun K "both_ends" "both_ends" sBo f fd) (m_range : mg "range" = none) : FnOk P w K mg base CX0 (k + 1) f fd ["many"] (spBo K) := by
  refine F.ok scBo (fun vs H Q E h => ?_) (fun cdv A outer s0 H vs Q E hr h => ?_)
  · obtain ⟨n, rfl, _⟩ := h
    rfl
  obtain ⟨n, rfl, hn, q⟩ := h
  refine ⟨_, (pss_one (ps_ret (pe_lc2 (own := [("lock", 1), ("side", 2)]) (vs1 := [2]) (g := gName 1) (g1 := gName 2) (tt := tYes) (tt1 := tYes) (wi1 := iSeqA K (tTup (tCons (tC (.int 0)) (tCons (tC (.int 1)) tNil)))) rfl scBo.nd (pi_range1 rfl m_range (pa_cons (pv 0) pa_nil))
    (blkOk_by (own := [("lock", 1), ("side", 2)]) (N := nBo) (sc := defScope sBo) (by decide +kernel)) (by decide) (fun _ _ _ _ _ => pg_name (i := 1) scBo.nd rfl (.inl rfl)) (fun _ _ _ _ _ => pts_nil)
    (fun _ _ _ _ _ => pi_seqA rfl (pe_tup (pa_cons pe_int (pa_cons pe_int pa_nil)))) (fun _ _ _ _ _ => pg_name (i := 2) scBo.nd rfl (.inl rfl)) (fun _ _ _ _ _ => pts_nil) (fun _ _ _ _ _ => pe_tup (pa_cons (pv 1) (pa_cons (pv 2) pa_nil)))))), ?_⟩
  refine ⟨_, rfl, (n : Int), rfl, by omega, by omega, ?_⟩
  rw [Int.toNat_natCast]
  have wk := walk_range (lo := 0) (n := n)
  refine fun D nD => ?_
  refine ⟨fun i m Z => m = n - i ∧ i ≤ n ∧ Same H Z ∧ ∃ us, Z D = some (.lst us) ∧ DpAll K Z us ((bothE i).map enD), ⟨n, rfl, Nat.zero_le _, same_new nD, [], upd_same, .nil⟩, ?_⟩
  rintro i m Z ⟨rfl, hi, sZ, us, eD, dus⟩
  by_cases hlt : i < n
  · refine .inr ⟨wk.goes i Z hlt trivial, fun Z' => Same H Z' ∧ ∃ us, Z' D = some (.lst us) ∧ DpAll K Z' us ((bothE (i + 1)).map enD), fun Z' h => ⟨n - (i + 1), by omega, rfl, hlt, h⟩, fun x Z' hy => ?_⟩
    obtain ⟨rfl, rfl⟩ := wk.yields i Z x Z' hlt trivial hy
    rw [show (fun i : Nat => V.int (0 + (i : Int))) i = V.int (i : Int) from by show V.int (0 + (i : Int)) = _; rw [Int.zero_add]]
    refine at_g rfl ?_
    refine ⟨rfl, ?_⟩
    unfold tYes
    dsimp only
    rw [if_pos rfl]
    refine ⟨(by show 2 ≤ sizeLine; decide), fun ta na => ?_⟩
    have sT := same_new na (o := .tup [.int 0, .int 1])
    have sZ1 := sZ.trans sT
    have eD1 := sT _ _ eD
    have dus1 := DpAll.same sT _ dus
    have eT : (upd Z' ta (.tup [.int 0, .int 1])) ta = some (.tup [.int 0, .int 1]) := upd_same
    generalize upd Z' ta (.tup [.int 0, .int 1]) = Z1 at sZ1 eD1 dus1 eT
    have lb : (bothE i).length = 2 * i := both_len i
    refine ⟨ta, [.int 0, .int 1], false, fun Y => Y ta = some (.tup [.int 0, .int 1]), rfl, .inl (.inl eT), fun _ h => .inl (.inl h), fun J1 wk1 => ?_⟩
    refine ⟨fun k m Y => m = 2 - k ∧ k ≤ 2 ∧ Same H Y ∧ Y ta = some (.tup [.int 0, .int 1]) ∧ ∃ us, Y D = some (.lst us) ∧ DpAll K Y us ((bothE i ++ [((i : Int), (0 : Int)), ((i : Int), 1)].take k).map enD), ⟨2, rfl, Nat.zero_le _, sZ1, eT, us, eD1, by rw [List.take_zero, List.append_nil]; exact dus1⟩, ?_⟩
    rintro k m Y ⟨rfl, hk, sY, g1, us1, eY, duY⟩
    by_cases hlt1 : k < 2
    · refine .inr ⟨wk1.goes k Y hlt1 g1, fun Y' => Same H Y' ∧ Y' ta = some (.tup [.int 0, .int 1]) ∧ ∃ us, Y' D = some (.lst us) ∧ DpAll K Y' us ((bothE i ++ [((i : Int), (0 : Int)), ((i : Int), 1)].take (k + 1)).map enD), fun Y' h => ⟨2 - (k + 1), by omega, rfl, hlt1, h⟩, fun x1 Y' hy1 => ?_⟩
      obtain ⟨rfl, hx1⟩ := wk1.yields k Y x1 Y' hlt1 g1 hy1
      obtain ⟨s, rfl, hs⟩ : ∃ s : Int, x1 = .int s ∧ [((i : Int), (0 : Int)), ((i : Int), 1)][k]? = some ((i : Int), s) := by
        match k, hlt1, hx1 with
        | 0, _, hx1 => exact ⟨0, (Option.some.inj hx1).symm, rfl⟩
        | 1, _, hx1 => exact ⟨1, (Option.some.inj hx1).symm, rfl⟩
      refine at_g rfl ?_
      refine ⟨rfl, ?_⟩
      rw [if_pos rfl]
      refine ⟨_, rfl, _, rfl, (by show 2 ≤ sizeLine; decide), fun tt nt => ?_⟩
      have sT2 := same_new nt (o := .tup [.int (i : Int), .int s])
      have lus : us1.length ≤ 2 * i + 2 := by
        rw [DpAll.length duY, List.length_map, List.length_append, lb, List.length_take]
        omega
      refine ⟨us1, sT2 _ _ eY, small2000 (by omega), ?_⟩
      have eY2 := sT2 _ _ eY
      have tp := Tp.upd (o := .lst (us1 ++ [.ref tt])) eY2
      have g2 := sT2 _ _ g1
      have nDt : ta ≠ D := by
        rintro rfl
        rw [g1] at eY
        cases eY
      refine ⟨fun q o e => ?_, ?_, us1 ++ [.ref tt], upd_same, ?_⟩
      · rw [upd_ne (fun z => by rw [z, nD] at e; cases e)]
        exact sT2 _ _ (sY _ _ e)
      · rw [upd_ne nDt]
        exact g2
      · rw [take_snoc hs, ← List.append_assoc, List.map_append]
        refine DpAll.app (ens_tp tp (DpAll.same sT2 _ duY)) (.cons (Dp.tp tp _ (noL_en _) (en_new (e := ((i : Int), s)) upd_same)) .nil)
    · have e : k = 2 := by omega
      subst e
      refine .inl ⟨wk1.stops Y g1, sY, us1, eY, ?_⟩
      rw [both_succ]
      exact duY
  · have e : i = n := by omega
    subst e
    exact .inl ⟨wk.stops Z trivial, q D us Z sZ nD eD dus⟩
end
end XL
namespace XL
open PySem PySem.Spec PyProof.Rows L2
abbrev sHa : Stmt := topS 15
/-- the locks of a map, by its red basins alone -/
def gt0 (c : Cht) (g : Nat) : Lk := ((whr c ((g : Int), 0) : Nat), (whr c ((g : Int), 1) : Nat), 0, 0)
def can0 (n : Nat) (c : Cht) : Cn := ⟨c.length, 1, (List.range n).map (gt0 c)⟩
def pr0 (n : Nat) (c : Cht) : Prs := (List.range n).map fun g : Nat => (((whr c ((g : Int), 0) : Nat) : Int), ((whr c ((g : Int), 1) : Nat) : Int))
def hgB (n : Nat) (c : Cht) : Bool := decide ((piecesOf c.length (pr0 n c)).length = 1)
theorem ok_can0 {n : Nat} {c : Cht} (h : WfC n c) (hn : n ≤ 500) (hl : c.length ≤ 100) : okC0 (can0 n c) := by
  refine ⟨?_, ?_, ?_, ?_, ?_, fun l hm => ?_⟩
  · show (0 : Int) ≤ (c.length : Nat); omega
  · show ((c.length : Nat) : Int) ≤ 100; omega
  · show (0 : Int) ≤ 1; omega
  · show (1 : Int) ≤ 100; omega
  · show ((List.range n).map (gt0 c)).length ≤ 500
    rw [List.length_map, List.length_range]; exact hn
  · obtain ⟨g, hg, rfl⟩ := List.mem_map.mp (show l ∈ (List.range n).map (gt0 c) from hm)
    have hg := List.mem_range.mp hg
    have a1 := whr_lt (h.mem.mpr ⟨g, hg, .inl rfl⟩)
    have a2 := whr_lt (h.mem.mpr ⟨g, hg, .inr rfl⟩)
    refine ⟨?_, ?_, ?_, ?_, ?_, ?_, ?_, ?_⟩
    · show (0 : Int) ≤ (whr c ((g : Int), 0) : Nat); omega
    · show ((whr c ((g : Int), 0) : Nat) : Int) < (c.length : Nat); omega
    · show (0 : Int) ≤ (whr c ((g : Int), 1) : Nat); omega
    · show ((whr c ((g : Int), 1) : Nat) : Int) < (c.length : Nat); omega
    · show (0 : Int) ≤ 0; omega
    · show (0 : Int) < 1; omega
    · show (0 : Int) ≤ 0; omega
    · show (0 : Int) < 1; omega
theorem pr0_eq (n : Nat) (c : Cht) : prsW true (can0 n c) = pr0 n c := by
  show ((List.range n).map (gt0 c)).map (endW true) = _
  rw [List.map_map]
  rfl
section
variable {P : Program} {w : World} {K : PySem.W.Frag} {mg : Str → Option Value} {base : Heap}
/-! ### hang_together -/
abbrev nHa : List Str := ["chart", "basins", "locks", "lock"]
theorem scHa : FnScope nHa ["chart"] (defScope sHa) := ⟨rfl, rfl, rfl, by decide +kernel, rfl, by decide +kernel, by decide +kernel⟩
def spHa (K : PySem.W.Frag) : Sp := fun vs H Q _ => ∃ (v : V) (c : Cht) (n : Nat), vs = [v] ∧ Dp K H v (chT c) ∧ WfC n c ∧ n ≤ 400 ∧ c.length ≤ 100 ∧ ∀ H', Same H H' → Q (.bl (hgB n c)) H'
theorem ok_ha {f fb fp : Addr} {fd fdb fdp : FuncData} {k : Nat} {tR : Tok} (F : Fun K "hang_together" "hang_together" sHa f fd) (Bb : Fns P w K mg base k "basins_by_end" ["chart"] (spBb P w K) fb fdb) (Pi : Fns P w K mg base k "pieces" ["canal", "water"] (spPieces K) fp fdp) (gRED : mg "RED" = some (.str "red" tR)) (m_len : mg "len" = none) (m_range : mg "range" = none) : FnOk P w K mg base CX0 (k + 1) f fd ["chart"] (spHa K) := by
  refine F.ok scHa (fun vs H Q E h => ?_) (fun cdv A outer s0 H vs Q E hr h => ?_)
  · obtain ⟨v, c, n, rfl, _⟩ := h
    rfl
  obtain ⟨v, c, n, rfl, hd, wf, hn, cl, q⟩ := h
  refine ⟨_, (pss_cons (ps_set (i := 1) scHa.nd rfl (.inr rfl) (pe_fn Bb hr rfl (pa_cons (pv 0) pa_nil)))
    (pss_cons (ps_setLc (i := 2) (own := [("lock", 3)]) (g := gName 3) (tt := tYes) rfl scHa.nd rfl rfl (sw_true rfl rfl rfl (by decide +kernel)) (pi_range1 rfl m_range (pa_cons (pe_op op_fdivN (pe_callB (r := rLenN P w K) call_lenN rfl m_len PySem.boot_len (pa_cons (pv 1) pa_nil)) pe_int) pa_nil)) (blkOk_by (own := [("lock", 3)]) (N := nHa) (sc := defScope sHa) (by decide +kernel)) (fun _ _ _ _ _ => (pg_name (i := 3) scHa.nd rfl (.inl rfl))) (fun _ _ _ _ _ => pts_nil) (fun _ _ _ _ _ => pe_hide (pe_tup (pa_cons (pe_ngetK (P := P) (w := w) (K := K) rfl rfl rfl (hu10 hr.units) (pv 1) (pe_tup (pa_cons (pv 3) (pa_cons pe_int pa_nil))) (fun _ _ => rfl)) (pa_cons (pe_ngetK (P := P) (w := w) (K := K) rfl rfl rfl (hu10 hr.units) (pv 1) (pe_tup (pa_cons (pv 3) (pa_cons pe_int pa_nil))) (fun _ _ => rfl)) (pa_cons pe_int (pa_cons pe_int pa_nil)))))))
    (pss_one (ps_ret (pe_cmpR op_eq (pe_callB (r := rLenA K) call_lenA rfl m_len PySem.boot_len (pa_cons (pe_fn Pi hr rfl (pa_cons (pe_tup (pa_cons (pe_callB (r := rLenA K) call_lenA rfl m_len PySem.boot_len (pa_cons (pv 0) pa_nil)) (pa_cons pe_int (pa_cons (pv 2) pa_nil)))) (pa_cons (pe_glob (v := .str "red") rfl gRED ⟨_, rfl⟩) pa_nil))) pa_nil)) pe_int (nomark _)))))), ?_⟩
  have flen := wf.len
  refine ⟨_, rfl, v, c, rfl, chA_t hd, wf.nd, by omega, fun D es H1 nD s1 eD fe => ?_⟩
  refine at_g (σ' := [some v, some (.ref D), none, none]) rfl ?_
  have l1 : es.length = 2 * n := by rw [fe.l, ← List.length_map (f := Prod.fst), bb_keys, flen]
  have sm : ((es.length : Nat) : Int).fdiv 2 = (n : Int) := by
    rw [l1, Int.fdiv_eq_ediv_of_nonneg _ (by decide)]
    omega
  refine ⟨_, rfl, D, es, rfl, .inl eD, fe.ky, _, _, rfl, rfl, (by constructor <;> decide), (n : Int), congrArg (fun z => [V.int z]) sm, by omega, by omega, ?_⟩
  rw [Int.toNat_natCast]
  refine lc_map walk_range Same (fun a b => a.trans b) (fun i y F => ∃ t, y = .ref t ∧ SqT K F t (endsV (gt0 c i))) (fun i y A B s p => ?_) (by exact small1000 (by omega)) (Same.refl _) (fun _ _ _ _ _ => trivial) (fun j x D2 acc F H' hj nD2 sF nF hy B hB => ?_) (fun D2 ys F nD2 sF nF hl hR => ?_)
  · obtain ⟨t, e, h⟩ := p
    exact ⟨t, e, Same.tup s h⟩
  · obtain ⟨rfl, rfl⟩ := hy
    have h0 : (0 : Int) + (j : Int) = (j : Int) := Int.zero_add _
    refine at_g (σ' := [some v, some (.ref D), none, some (.int (j : Int))]) (by show [some v, some (.ref D), none, some (.int (0 + (j : Int)))] = _; rw [h0]) ?_
    refine hB _ F rfl nF fun Qt hQ => ?_
    have m1 := wf.mem.mpr ⟨j, hj, .inl rfl⟩
    have m2 := wf.mem.mpr ⟨j, hj, .inr rfl⟩
    have eF := sF _ _ eD
    have feF := fe.move (Tp.of sF) RN.mono
    refine ⟨_, rfl, _, rfl, (by show 2 ≤ sizeLine; decide), fun T1 nT1 => ?_⟩
    have s2 := same_new nT1 (o := .tup [.int (j : Int), .int 0])
    have a1 : Dp K (upd F T1 (.tup [.int (j : Int), .int 0])) (.ref T1) (enD ((j : Int), 0)) := en_new (e := ((j : Int), 0)) upd_same
    have eF1 := s2 _ _ eF
    have feF1 := feF.move (Tp.of s2) RN.mono
    generalize upd F T1 (.tup [.int (j : Int), .int 0]) = F1 at s2 a1 eF1 feF1
    obtain ⟨_, v1, rfl⟩ := feF1.get (by rw [bb_keys]; exact wf.nd) (whr_mem m1)
    refine ⟨D, _, rfl, ⟨es, _, T1, .inl eF1, feF1.ky, rfl, en_at a1, v1.symm⟩, ?_⟩
    refine ⟨_, rfl, _, rfl, (by show 2 ≤ sizeLine; decide), fun T2 nT2 => ?_⟩
    have s3 := same_new nT2 (o := .tup [.int (j : Int), .int 1])
    have a2 : Dp K (upd F1 T2 (.tup [.int (j : Int), .int 1])) (.ref T2) (enD ((j : Int), 1)) := en_new (e := ((j : Int), 1)) upd_same
    have eF2 := s3 _ _ eF1
    have feF2 := feF1.move (Tp.of s3) RN.mono
    generalize upd F1 T2 (.tup [.int (j : Int), .int 1]) = F2 at s3 a2 eF2 feF2
    obtain ⟨_, v2, rfl⟩ := feF2.get (by rw [bb_keys]; exact wf.nd) (whr_mem m2)
    refine ⟨D, _, rfl, ⟨es, _, T2, .inl eF2, feF2.ky, rfl, en_at a2, v2.symm⟩, (by show 4 ≤ sizeLine; decide), fun T3 nT3 => ?_⟩
    exact hQ _ _ (s2.trans (s3.trans (same_new nT3))) ⟨T3, rfl, .inl (.inl upd_same)⟩
  · have s2 := sF.trans (same_new nF (o := .lst ys))
    have e2 : (upd F D2 (.lst ys)) D2 = some (.lst ys) := upd_same
    have hR2 : ∀ (i : Nat) y, ys[i]? = some y → ∃ t, y = .ref t ∧ SqT K (upd F D2 (.lst ys)) t (endsV (gt0 c i)) := fun i y hy => by
      obtain ⟨t, e, h⟩ := hR i y hy
      exact ⟨t, e, Same.tup (same_new nF) h⟩
    generalize upd F D2 (.lst ys) = G at s2 e2 hR2
    refine at_g (σ' := [some v, some (.ref D), some (.ref D2), none]) rfl ?_
    obtain ⟨t, us, rfl, ht, lt, _⟩ := (chA_t (Dp.same (s1.trans s2) _ hd)).ex
    refine ⟨_, rfl, t, us, rfl, ht, _, rfl, (by show 3 ≤ sizeLine; decide), fun T nT => ?_⟩
    have s3 := same_new nT (o := .tup [.int (us.length : Nat), .int 1, .ref D2])
    have eT : (upd G T (.tup [.int (us.length : Nat), .int 1, .ref D2])) T = some (.tup [.int (us.length : Nat), .int 1, .ref D2]) := upd_same
    have e3 := s3 _ _ e2
    generalize upd G T (.tup [.int (us.length : Nat), .int 1, .ref D2]) = G1 at s3 eT e3
    refine ⟨.ref T, _, can0 n c, rfl, ⟨T, D2, ys, rfl, .inr (.inl (.inl (by rw [lt] at eT; exact eT))), .inl (SqL.of e3), ?_, fun i u hu => ?_⟩, ok_can0 wf (by omega) cl, fun p us2 G2 s4 np ep dp => ?_⟩
    · rw [hl]
      show n = ((List.range n).map (gt0 c)).length
      rw [List.length_map, List.length_range]
    · obtain ⟨t', e, h⟩ := hR2 i u hu
      have hi : i < n := by
        have := (List.getElem?_eq_some_iff.mp hu).1
        omega
      exact ⟨gt0 c i, t', by show ((List.range n).map (gt0 c))[i]? = _; rw [List.getElem?_map, List.getElem?_range hi]; rfl, e, .inr (Same.tup s3 h)⟩
    · have ir : isRed "red" = true := decide_eq_true rfl
      rw [ir, pr0_eq, show (basW true (can0 n c)).toNat = c.length from by show ((c.length : Nat) : Int).toNat = _; rw [Int.toNat_natCast]] at dp
      have lu := DpAll.length dp
      rw [List.length_map] at lu
      refine ⟨p, _, rfl, .inl (SqL.of ep), rfl, ?_⟩
      have e : decide (V.int ((us2.length : Nat) : Int) = V.int 1) = hgB n c := by
        unfold hgB
        rw [decide_eq_decide, ← lu]
        constructor
        · intro h
          injection h with h
          omega
        · intro h
          rw [h]
          rfl
      show Q (V.bl (decide (V.int ((us2.length : Nat) : Int) = V.int 1))) G2
      rw [e]
      exact q _ (s1.trans (s2.trans (s3.trans s4)))
end
end XL
namespace L2
open PySem PySem.Spec PyProof.Rows PySem.W
/-! sorted(xs), xs a list of alike data (lists or tuples): by the order of data -/
theorem paired_each {H : Hp} {K : PySem.W.Frag} {α : Type} {f : α → V} : ∀ {bs : List α} {its : List Value}, Vals (bs.map f) its → EachIs (fun v b => RelV (f b) v) its bs
  | [], _, .nil => .nil
  | _ :: _, _, .cons r t => .cons r (paired_each (H := H) (K := K) t)
theorem each_paired {α : Type} {f : α → V} : ∀ {bs : List α} {its : List Value}, EachIs (fun v b => RelV (f b) v) its bs → Vals (bs.map f) its
  | [], _, .nil => .nil
  | _ :: _, _, .cons r t => .cons r (each_paired t)
def rSortedDt (K : PySem.W.Frag) {α : Type} (enc : α → PyData) : List V → Hp → VK → Prop := fun vs H Q => ∃ (a : Addr) (bs : List (V × α)), vs = [V.ref a] ∧ SqL K H a (bs.map (·.1)) ∧ (∀ b ∈ bs, Dp K H b.1 (enc b.2)) ∧ AllAlike (bs.map fun b => enc b.2) ∧ Sortable (bs.map fun b => enc b.2) ∧ (∀ b ∈ bs, (enc b.2).depth ≤ 60) ∧
  ∀ (p : Addr) (cs : List (V × α)), cs.Perm bs → cs.Pairwise (fun x y => dataLt (enc y.2) (enc x.2) = false) → H p = none → Q (.ref p) (upd H p (.lst (cs.map (·.1))))
theorem cr_sortedDt {X : Cx} {α : Type} {enc : α → PyData} (hu : X.A.units + 64 < cLine) : CallR X (.builtin "sorted") (rSortedDt X.K enc) := by
  intro pins s σ H vs us Q I r h
  obtain ⟨a, bs, rfl, hs, hd, hal, hso, hdp, q⟩ := h
  obtain ⟨its, rv, hl, hz⟩ := I.list hs
  rw [Vals.ref1 r]
  have e : EachIs (fun v (b : V × α) => RelV b.1 v) its bs := paired_each (H := H) (K := X.K) rv
  have er : EachIs (fun v (b : V × α) => ∃ as, Reads s.heap v (enc b.2) as) its bs := (each_mem e).mono fun v b ⟨h1, h2⟩ => Dp.reads I (enc b.2) b.1 v (hd b h2) h1
  refine sorted_data (enc := fun b : V × α => enc b.2) hl.isList e er hal hso (by rw [List.length_map] at hz; exact hz) (fun b hb => by have := hdp b hb; omega) fun out ho eo => ?_
  obtain ⟨ep, he'⟩ := PyProof.Rows.sortedAll_at s.heap its out.toArray
  have tot := sortLe_total (listOrd itemOrd) false fun b : V × α => keyToks (enc b.2)
  have hp : (bs.mergeSort (dataLe false fun b : V × α => enc b.2)).Perm bs := List.mergeSort_perm _ _
  have ho2 : (bs.mergeSort (dataLe false fun b : V × α => enc b.2)).Pairwise (fun x y => dataLe false (fun b : V × α => enc b.2) x y = true) := List.pairwise_mergeSort (fun a b c => tot.trans a b c) (fun a b => by have := tot.total a b; simpa using this) bs
  have hlen : ((bs.mergeSort (dataLe false fun b : V × α => enc b.2)).map (·.1)).length ≤ sizeLine := by
    rw [List.length_map, List.length_mergeSort]
    rw [List.length_map] at hz
    exact hz
  exact ⟨.ref _, upd H (s.heap.objs.size + 1) (.lst ((bs.mergeSort (dataLe false fun b : V × α => enc b.2)).map (·.1))), I.laid (t' := s.toks) (fun _ _ => PyProof.Rows.sortedAll_old) (Nat.le_succ _) ⟨hlen, out, ep, each_paired eo, he'⟩, rfl, q _ _ hp (ho2.imp fun {x y} h => by rw [dataLe_eq] at h; simpa using h) (I.hok.fresh (Nat.le_succ _))⟩
end L2
namespace XL
open PySem PySem.Spec PyProof.Rows L2 PySem.W
/-! ### which data are maps -/
def tipOf : PyData → Tip
  | .tuple [.int a, .int b] => (a, b)
  | _ => (0, 0)
def rowOf (d : PyData) : List Tip := (itemsD d).map tipOf
def chOf (d : PyData) : Cht := (itemsD d).map rowOf
def chB (d : PyData) : Bool := isT d && (itemsD d).all rowB
def permB (c : Cht) : Bool := c.flatten.isPerm (bothE (c.flatten.length / 2))
def mapB (d : PyData) : Bool := chB d && (permB (chOf d) && hgB ((chOf d).flatten.length / 2) (chOf d))
theorem num_int {d : PyData} (h : numB d = true) : ∃ i, d = .int i := by
  cases d with
  | int i => exact ⟨i, rfl⟩
  | _ => simp [numB] at h
theorem end_of {d : PyData} (h : endB d = true) : d = enD (tipOf d) := by
  unfold endB at h
  rw [Bool.and_eq_true] at h
  obtain ⟨ds, rfl, hl⟩ := tup4 (n := 2) h.1
  match ds, hl, h.2 with
  | [a, b], _, h2 =>
    have h2 : (numB a && (numB b && true)) = true := h2
    rw [Bool.and_eq_true, Bool.and_eq_true] at h2
    obtain ⟨i, rfl⟩ := num_int h2.1
    obtain ⟨j, rfl⟩ := num_int h2.2.1
    rfl
theorem end_en (e : Tip) : endB (enD e) = true := rfl
theorem tup_isT {d : PyData} (h : isT d = true) : d = .tuple (itemsD d) := by
  cases d with
  | tuple ds => rfl
  | _ => simp [isT] at h
theorem map_of {α : Type} {f : PyData → Bool} {g : PyData → α} {e : α → PyData} (k : ∀ d, f d = true → d = e (g d)) : ∀ {ds : List PyData}, ds.all f = true → ds = (ds.map g).map e
  | [], _ => rfl
  | d :: ds, h => by
    rw [List.all_cons, Bool.and_eq_true] at h
    rw [List.map_cons, List.map_cons, ← map_of k h.2, ← k d h.1]
theorem row_of {d : PyData} (h : rowB d = true) : d = .tuple ((rowOf d).map enD) := by
  unfold rowB at h
  rw [Bool.and_eq_true] at h
  have e := map_of (f := endB) (g := tipOf) (e := enD) (fun _ h => end_of h) h.2
  rw [tup_isT h.1]
  exact congrArg PyData.tuple e
theorem ch_of {d : PyData} (h : chB d = true) : d = chT (chOf d) := by
  unfold chB at h
  rw [Bool.and_eq_true] at h
  have e := map_of (f := rowB) (g := rowOf) (e := fun a => PyData.tuple (a.map enD)) (fun _ h => row_of h) h.2
  rw [tup_isT h.1]
  exact congrArg PyData.tuple e
theorem tip_en (e : Tip) : tipOf (enD e) = e := rfl
theorem row_en (a : List Tip) : rowOf (.tuple (a.map enD)) = a := by
  show (a.map enD).map tipOf = a
  rw [List.map_map]
  exact List.map_id _
theorem ch_chT (c : Cht) : chOf (chT c) = c := by
  show (c.map fun a => PyData.tuple (a.map enD)).map rowOf = c
  rw [List.map_map]
  exact (List.map_congr_left fun a _ => row_en a).trans (List.map_id _)
theorem rowB_en (a : List Tip) : rowB (.tuple (a.map enD)) = true := by
  show (a.map enD).all endB = true
  rw [List.all_eq_true]
  intro d hd
  obtain ⟨e, _, rfl⟩ := List.mem_map.mp hd
  rfl
theorem chB_chT (c : Cht) : chB (chT c) = true := by
  show (c.map fun a => PyData.tuple (a.map enD)).all rowB = true
  rw [List.all_eq_true]
  intro d hd
  obtain ⟨a, _, rfl⟩ := List.mem_map.mp hd
  exact rowB_en a
theorem mapB_chT (c : Cht) : mapB (chT c) = (permB c && hgB (c.flatten.length / 2) c) := by
  unfold mapB
  rw [chB_chT, ch_chT, Bool.true_and]
theorem permB_iff {c : Cht} : permB c = true ↔ WfC (c.flatten.length / 2) c := by
  unfold permB WfC
  exact List.isPerm_iff
/-! ### the order of ends -/
theorem tints_eqv' (a b : Tip) : PyData.eqv (enD a) (enD b) = decide (a = b) := eqv_en a b
theorem ens_eqv : ∀ a b : List Tip, PyData.eqv (.list (a.map enD)) (.list (b.map enD)) = decide (a = b)
  | [], [] => by simp [PyData.eqv, PyData.eqvAll]
  | [], _ :: _ => by simp [PyData.eqv, PyData.eqvAll]
  | _ :: _, [] => by simp [PyData.eqv, PyData.eqvAll]
  | x :: a, y :: b => by
    have ih := ens_eqv a b
    simp only [PyData.eqv, List.map_cons, PyData.eqvAll] at ih ⊢
    rw [tints_eqv', ih]
    by_cases h1 : x = y
    · by_cases h2 : a = b
      · simp [h1, h2]
      · simp [h1, h2]
    · simp [h1]
def twoI (e : Tip) : List Int := [e.1, e.2]
theorem twoI_inj {a b : Tip} (h : twoI a = twoI b) : a = b := by
  unfold twoI at h
  injection h with h1 h2
  injection h2 with h2 _
  exact Prod.ext h1 h2
theorem en_lt (a b : Tip) : dataLt (enD a) (enD b) = decide (twoI a < twoI b) := by
  have e : ∀ x : Tip, enD x = .tuple ((twoI x).map PyData.int) := fun _ => rfl
  rw [e, e, dataLt_tuple, ← dataLt_ints]
  rfl
theorem en_anti {a b : Tip} (h1 : dataLt (enD a) (enD b) = false) (h2 : dataLt (enD b) (enD a) = false) : a = b := by
  rw [en_lt, decide_eq_false_iff_not] at h1 h2
  exact twoI_inj (List.le_antisymm (List.not_lt.mp h2) (List.not_lt.mp h1))
/-- ends in their order -/
def SoE (l : List Tip) : Prop := l.Pairwise fun x y => dataLt (enD y) (enD x) = false
theorem soE_uq {a b : List Tip} (h1 : SoE a) (h2 : SoE b) (p : a.Perm b) : a = b :=
  p.eq_of_pairwise (fun a b _ _ x y => en_anti y x) h1 h2
theorem not_two {a b : Tip} (h : a.1 < b.1 ∨ (a.1 = b.1 ∧ a.2 ≤ b.2)) : dataLt (enD b) (enD a) = false := by
  rw [en_lt, decide_eq_false_iff_not]
  unfold twoI
  intro z
  rw [List.cons_lt_cons_iff] at z
  rcases z with z | ⟨z1, z2⟩
  · rcases h with h | h <;> omega
  · rw [List.cons_lt_cons_iff] at z2
    rcases z2 with z2 | ⟨_, z3⟩
    · rcases h with h | h <;> omega
    · exact absurd z3 (List.lt_irrefl _)
theorem both_so : ∀ n, SoE (bothE n)
  | 0 => .nil
  | n + 1 => by
    rw [both_succ]
    refine List.pairwise_append.mpr ⟨both_so n, ?_, fun a ha b hb => ?_⟩
    · refine .cons (fun y hy => ?_) (.cons (fun y hy => by cases hy) .nil)
      rw [List.mem_singleton.mp hy]
      exact not_two (.inr ⟨rfl, by show (0 : Int) ≤ 1; decide⟩)
    · obtain ⟨g, hg, e⟩ := mem_both.mp ha
      simp only [List.mem_cons, List.not_mem_nil, or_false] at hb
      refine not_two (.inl ?_)
      rcases e with rfl | rfl <;> rcases hb with rfl | rfl <;> (show (g : Int) < (n : Int); omega)
theorem en_alike (l : List Tip) : AllAlike (l.map enD) := fun d hd d' hd' => by
  obtain ⟨a, _, rfl⟩ := List.mem_map.mp hd
  obtain ⟨b, _, rfl⟩ := List.mem_map.mp hd'
  simp [enD, alike, alikeAll]
theorem en_sortable (l : List Tip) : Sortable (l.map enD) := .inl fun d hd => by
  obtain ⟨a, _, rfl⟩ := List.mem_map.mp hd
  exact ⟨_, _, rfl⟩
end XL
namespace XL
open PySem PySem.Spec PyProof.Rows L2
abbrev sMp : Stmt := topS 16
theorem boot_sorted' : bootBuiltins "sorted" = some (.builtin "sorted") := by decide +kernel
theorem lenD_tup {N D : Nat} {ds : List PyData} (h : lenD N D (.tuple ds)) : ds.length ≤ N ∧ ∀ d ∈ ds, ∃ D', lenD N D' d := by
  cases D with
  | zero => exact h.elim
  | succ k => exact ⟨h.1, fun d hd => ⟨k, h.2 d hd⟩⟩
theorem lenD_lst {N D : Nat} {ds : List PyData} (h : lenD N D (.list ds)) : ds.length ≤ N ∧ ∀ d ∈ ds, ∃ D', lenD N D' d := by
  cases D with
  | zero => exact h.elim
  | succ k => exact ⟨h.1, fun d hd => ⟨k, h.2 d hd⟩⟩
theorem lenD_items {N D : Nat} {d : PyData} (h : lenD N D d) : (itemsD d).length ≤ N ∧ ∀ e ∈ itemsD d, ∃ D', lenD N D' e := by
  cases d with
  | tuple ds => exact lenD_tup h
  | list ds => exact lenD_lst h
  | _ => exact ⟨Nat.zero_le _, fun e he => by cases he⟩
theorem flat_sq {N : Nat} : ∀ {c : Cht}, (∀ a ∈ c, a.length ≤ N) → c.flatten.length ≤ c.length * N
  | [], _ => Nat.zero_le _
  | a :: c, h => by
    rw [List.flatten_cons, List.length_append, List.length_cons, Nat.succ_mul]
    have h1 := h a (List.mem_cons_self ..)
    have h2 := flat_sq fun b hb => h b (List.mem_cons_of_mem _ hb)
    omega
theorem chT_size {N D : Nat} {c : Cht} (h : lenD N D (chT c)) : c.length ≤ N ∧ c.flatten.length ≤ c.length * N := by
  obtain ⟨h1, h2⟩ := lenD_tup h
  rw [List.length_map] at h1
  refine ⟨h1, flat_sq fun a ha => ?_⟩
  obtain ⟨D', h3⟩ := h2 _ (List.mem_map.mpr ⟨a, ha, rfl⟩)
  have := (lenD_tup h3).1
  rwa [List.length_map] at this
section
variable {P : Program} {w : World} {K : PySem.W.Frag} {mg : Str → Option Value} {base : Heap}
theorem dp_pairs {H : Hp} : ∀ {cs : List (V × Tip)}, (∀ b ∈ cs, Dp K H b.1 (enD b.2)) → DpAll K H (cs.map (·.1)) ((cs.map (·.2)).map enD)
  | [], _ => .nil
  | b :: cs, h => .cons (h b (List.mem_cons_self ..)) (dp_pairs fun x hx => h x (List.mem_cons_of_mem _ hx))
/-! ### is_map -/
abbrev nMp : List Str := ["thing", "ends", "part"]
theorem scMp : FnScope nMp ["thing"] (defScope sMp) := ⟨rfl, rfl, rfl, by decide +kernel, rfl, by decide +kernel, by decide +kernel⟩
def spMp (K : PySem.W.Frag) : Sp := fun vs H Q _ => ∃ (v : V) (d : PyData) (D : Nat), vs = [v] ∧ Dp K H v d ∧ lenD 18 D d ∧ ∀ H', Same H H' → Q (.bl (mapB d)) H'
theorem ok_mp {f fa fi fb fh : Addr} {fd fda fdi fdb fdh : FuncData} {k : Nat} (F : Fun K "is_map" "is_map" sMp f fd) (Ae : Fns P w K mg base k "are_ends" ["thing"] (spAe K) fa fda) (Ei : Fns P w K mg base k "ends_in" ["chart"] (spEi K) fi fdi) (Bo : Fns P w K mg base k "both_ends" ["many"] (spBo K) fb fdb) (Ha : Fns P w K mg base k "hang_together" ["chart"] (spHa K) fh fdh) (m_isinstance : mg "isinstance" = none) (m_tuple : mg "tuple" = none) (m_all : mg "all" = none) (m_sorted : mg "sorted" = none) (m_len : mg "len" = none) : FnOk P w K mg base CX0 (k + 1) f fd ["thing"] (spMp K) := by
  refine F.ok scMp (fun vs H Q E h => ?_) (fun cdv A outer s0 H vs Q E hr h => ?_)
  · obtain ⟨v, d, D, rfl, _⟩ := h
    rfl
  obtain ⟨v, d, D, rfl, hd, ld, q⟩ := h
  refine ⟨_, (pss_cons (ps_if (PW.pt (pw_or (pt_not (pt_val (pe_callB (call_isD (f := isT) kit_isT) rfl m_isinstance boot_isinstance (pa_cons (pv 0) (pa_cons (pe_bltn (v := .ty "tuple") rfl m_tuple boot_tuple rfl) pa_nil))))) (pw_or1 (pt_not (pt_val (pe_callB (r := rAll K) (cr_all rfl) rfl m_all boot_all (pa_cons (pe_lc (own := [("part", 2)]) (g := gName 2) (tt := tYes) rfl scMp.nd (pi_seqA rfl (pv 0)) (blkOk_by (own := [("part", 2)]) (N := nMp) (sc := defScope sMp) (by decide +kernel)) (fun _ _ _ _ _ => (pg_name (i := 2) scMp.nd rfl (.inl rfl))) (fun _ _ _ _ _ => pts_nil) (fun _ _ _ _ _ => pe_hide (pe_fn Ae hr rfl (pa_cons (pv 2) pa_nil)))) pa_nil))))))) (pss_one (ps_ret pe_bl)) pss_nil)
    (pss_cons (ps_set (i := 1) scMp.nd rfl (.inl rfl) (pe_fn Ei hr rfl (pa_cons (pv 0) pa_nil)))
    (pss_one (ps_ret (pe_and (pe_cmpR (op_eqD hr.units) (pe_callB (r := rSortedDt K enD) (cr_sortedDt hr.units) rfl m_sorted boot_sorted' (pa_cons (pv 1) pa_nil)) (pe_fn Bo hr rfl (pa_cons (pe_op op_fdivN (pe_callB (r := rLenA K) call_lenA rfl m_len PySem.boot_len (pa_cons (pv 1) pa_nil)) pe_int) pa_nil)) (nomark _)) (pe_one (pe_fn Ha hr rfl (pa_cons (pv 0) pa_nil)))))))), ?_⟩
  refine ⟨_, rfl, v, d, rfl, hd, _, rfl, ?_⟩
  cases ht : isT d with
  | false =>
    have e : mapB d = false := by unfold mapB chB; rw [ht]; rfl
    rw [e] at q
    exact iteT (iteT (q H (Same.refl H)))
  | true =>
    have ed := tup_isT ht
    generalize hds : itemsD d = ds at ed
    subst ed
    have li := lenD_tup ld
    cases hd with
    | tup hs ha =>
    rename_i a xs
    have lx := DpAll.length ha
    obtain ⟨bt, htB⟩ := sqB_of (.inr hs)
    refine iteF ?_
    refine ⟨_, rfl, a, xs, bt, fun Y => SqB K bt Y a xs, rfl, htB, fun _ h => h, fun J wk => lc_map wk Same (fun a b => a.trans b) (fun i y F => ∃ d, ds[i]? = some d ∧ y = .bl (rowB d)) (fun i y A B _ p => p) (by rw [lx]; exact small1000 (by omega)) (Same.refl _) (fun D acc F sF nF => Same.sqB (sF.trans (same_new nF)) htB) (fun j x D acc F H' hj nD sF nF hy B hB => ?_) (fun D2 ys F nD sF nF hl hR => ?_)⟩
    · obtain ⟨rfl, hx⟩ := hy
      obtain ⟨d, ed, dx⟩ := DpAll.get ha hx
      refine hB _ F rfl nF fun Qt hQ => ?_
      obtain ⟨D', ld'⟩ := li.2 d (List.mem_of_getElem? ed)
      have := (lenD_items ld').1
      exact ⟨_, rfl, x, d, rfl, Dp.same sF _ dx, by omega, fun G s => hQ _ _ s ⟨d, ed, rfl⟩⟩
    · have e := bls_map (f := rowB) (ys := ys) (ds := ds) (by rw [hl, lx]) hR
      refine ⟨D2, ds.map rowB, rfl, by rw [← e]; exact SqL.of upd_same, ?_⟩
      rw [all_map]
      have s1 := sF.trans (same_new nF (o := .lst ys))
      generalize upd F D2 (.lst ys) = G1 at s1
      refine ⟨_, rfl, ?_⟩
      cases hall : ds.all rowB with
      | false =>
        have e : mapB (.tuple ds) = false := by
          unfold mapB chB
          rw [show itemsD (.tuple ds) = ds from rfl, hall]
          rfl
        rw [e] at q
        exact iteT (q _ s1)
      | true =>
        refine iteF ?_
        have cb : chB (.tuple ds) = true := hall
        have ec := ch_of cb
        generalize chOf (.tuple ds) = c at ec
        rw [ec] at ld q
        have sz := chT_size ld
        have hd0 : Dp K H (.ref a) (chT c) := by rw [← ec]; exact .tup hs ha
        have fl : c.flatten.length ≤ 324 := by have := sz.2; have := sz.1; exact Nat.le_trans sz.2 (Nat.mul_le_mul_right 18 sz.1)
        rw [mapB_chT] at q
        have hd1 := Dp.same s1 _ hd0
        obtain ⟨xss, raw, dx⟩ := (chA_t hd1).raw
        have lxs : xss.flatten.length = c.flatten.length := by rw [DpAll.length dx, List.length_map]
        refine ⟨_, rfl, _, xss, rfl, raw, by omega, fun L G2 s2 nL eL => ?_⟩
        refine at_g (σ' := [some (.ref a), some (.ref L), none]) rfl ?_
        have dx2 := DpAll.same s2 _ dx
        have zm : ∀ b ∈ xss.flatten.zip c.flatten, Dp K G2 b.1 (enD b.2) := fun b hb => by
          obtain ⟨j, hj⟩ := List.mem_iff_getElem?.mp hb
          obtain ⟨h1, h2⟩ := List.getElem?_zip_eq_some.mp hj
          obtain ⟨d, ed, dd⟩ := DpAll.get dx2 h1
          rw [List.getElem?_map, h2] at ed
          obtain rfl := Option.some.inj ed
          exact dd
        have z1 : (xss.flatten.zip c.flatten).map (·.1) = xss.flatten := List.map_fst_zip (by omega)
        have z2 : (xss.flatten.zip c.flatten).map (·.2) = c.flatten := List.map_snd_zip (by omega)
        have z3 : (xss.flatten.zip c.flatten).map (fun b => enD b.2) = c.flatten.map enD := by rw [← z2, List.map_map, z2]; rfl
        refine ⟨_, rfl, L, xss.flatten.zip c.flatten, rfl, by rw [z1]; exact SqL.of eL, zm, by rw [z3]; exact en_alike _, by rw [z3]; exact en_sortable _, fun b _ => by
          have : (enD b.2).depth = 1 := by simp [enD, PyData.depth, PyData.depthAll]
          omega, fun S cs pm so nS => ?_⟩
        have s3 := same_new nS (o := .lst (cs.map (·.1)))
        have eS : (upd G2 S (.lst (cs.map (·.1)))) S = some (.lst (cs.map (·.1))) := upd_same
        have ts : (cs.map (·.2)).Perm c.flatten := by rw [← z2]; exact pm.map _
        have so2 : SoE (cs.map (·.2)) := List.pairwise_map.mpr so
        have dS : Dp K (upd G2 S (.lst (cs.map (·.1)))) (.ref S) (.list ((cs.map (·.2)).map enD)) := by
          exact .lst (SqL.of eS) (dp_pairs fun b hb => Dp.same s3 _ (zm b (pm.mem_iff.mp hb)))
        generalize upd G2 S (.lst (cs.map (·.1))) = G3 at s3 eS dS
        generalize cs.map (·.2) = tt at ts so2 dS
        have eL3 := s3 _ _ eL
        obtain ⟨n, hn⟩ : ∃ n : Nat, n = c.flatten.length / 2 := ⟨_, rfl⟩
        rw [← hn] at q
        have sm : ((xss.flatten.length : Nat) : Int).fdiv 2 = (n : Int) := by
          rw [lxs, Int.fdiv_eq_ediv_of_nonneg _ (by decide), hn]
          omega
        refine ⟨_, rfl, L, _, rfl, .inl (SqL.of eL3), _, _, rfl, rfl, (by constructor <;> decide), n, congrArg (fun z => [V.int z]) sm, by omega, fun B us G4 s4 nB eB du => ?_⟩
        refine ⟨.list (tt.map enD), .list ((bothE n).map enD), Dp.same s4 _ dS, .lst (SqL.of eB) du, shp_ens _, shp_ens _, ?_⟩
        rw [ens_eqv]
        have ep : decide (tt = bothE n) = permB c := by
          cases hp : permB c with
          | true =>
            have p0 := permB_iff.mp hp
            rw [← hn] at p0
            exact decide_eq_true (soE_uq so2 (both_so n) (ts.trans p0))
          | false =>
            refine decide_eq_false fun z => ?_
            have p1 : WfC n c := by unfold WfC; rw [← z]; exact ts.symm
            rw [hn] at p1
            have := permB_iff.mpr p1
            rw [hp] at this
            cases this
        rw [ep]
        have s14 := s1.trans (s2.trans (s3.trans s4))
        refine ⟨_, rfl, ?_⟩
        cases hp : permB c with
        | false =>
          rw [hp] at q
          exact iteF (q _ s14)
        | true =>
          rw [hp] at q
          have p0 := permB_iff.mp hp
          rw [← hn] at p0
          exact iteT ⟨_, rfl, .ref a, c, n, rfl, Dp.same s14 _ hd0, p0, by omega, by omega, fun G5 s5 => q _ (s14.trans s5)⟩
end
end XL
namespace XL
open PySem PySem.Spec PyProof.Rows L2
/-! ### all basins hang together: by pieces and by turns -/
theorem nd_subG {α : Type} [DecidableEq α] : ∀ (A B : List α), A.Nodup → (∀ x ∈ A, x ∈ B) → A.length ≤ B.length
  | [], _, _, _ => Nat.zero_le _
  | a :: A, B, nd, sub => by
    have na := List.nodup_cons.mp nd
    have m := sub a (List.mem_cons_self ..)
    have r := nd_subG A (B.erase a) na.2 fun x hx => (List.mem_erase_of_ne (fun z => na.1 (by rw [← z]; exact hx))).mpr (sub x (List.mem_cons_of_mem _ hx))
    have l := List.length_erase_of_mem m
    have pos : 0 < B.length := List.length_pos_of_mem m
    rw [List.length_cons]
    omega
theorem nd_fill {α : Type} [DecidableEq α] {A B : List α} (nd : A.Nodup) (sub : ∀ x ∈ A, x ∈ B) (l : A.length = B.length) : ∀ x ∈ B, x ∈ A := fun x hx => by
  refine Classical.byContradiction fun n => ?_
  have := nd_subG (x :: A) B (List.nodup_cons.mpr ⟨n, nd⟩) fun y hy => by
    rcases List.mem_cons.mp hy with rfl | hy
    · exact hx
    · exact sub y hy
  rw [List.length_cons] at this
  omega
theorem same_len : ∀ {l : List Int} {m : Int}, l.Nodup → (∀ x ∈ l, x = m) → l.length ≤ 1
  | [], _, _, _ => by simp
  | [_], _, _, _ => by simp
  | a :: b :: l, m, nd, h => by
    have h1 := h a (by simp)
    have h2 := h b (by simp)
    rw [h1, h2] at nd
    simp at nd
theorem pieces_one {n : Nat} {es : Prs} (ok : okPrs n es) : (piecesOf n es).length = 1 ↔ 0 < n ∧ ∀ j : Int, 0 ≤ j → j < n → Cc es 0 j := by
  have M := marks_ok ok
  unfold piecesOf
  rw [List.length_map]
  have G := grp_of (marksOf n es) n
  generalize marksOf n es = ms at M G
  constructor
  · intro h
    have hn : 0 < n := by
      cases n with
      | zero => simp [grpOf] at h
      | succ n => omega
    refine ⟨hn, fun j j0 j1 => ?_⟩
    generalize grpOf ms n = g at G h
    match g, h with
    | [p], _ =>
      obtain ⟨q, hq, e⟩ := G.k j j0 j1
      obtain ⟨r, hr, e'⟩ := G.k 0 (Int.le_refl _) (by omega)
      rw [List.mem_singleton.mp hq] at e
      rw [List.mem_singleton.mp hr] at e'
      exact M.p2 0 j (Int.le_refl _) (by omega) j0 j1 (e'.symm.trans e)
  · rintro ⟨hn, h⟩
    have all : ∀ x ∈ (grpOf ms n).map (·.1), x = mkOf ms 0 := fun x hx => by
      obtain ⟨p, hp, rfl⟩ := List.mem_map.mp hx
      obtain ⟨e, ne⟩ := G.l p hp
      obtain ⟨y, hy⟩ := List.exists_mem_of_ne_nil _ ne
      rw [e, mem_cls] at hy
      rw [← hy.2]
      exact ((M.iff ok ⟨Int.le_refl _, by omega⟩).mp (h y hy.1.1 hy.1.2)).2
    have le := same_len G.nd all
    rw [List.length_map] at le
    obtain ⟨q, hq, _⟩ := G.k 0 (Int.le_refl _) (by omega)
    have := List.length_pos_of_mem hq
    omega
def wz (c : Cht) (e : Tip) : Int := ((whr c e : Nat) : Int)
def mst (c : Cht) (f : List Int) (e : Tip) : List Int := if wz c e ∈ f ∧ wz c (oth e) ∉ f then f ++ [wz c (oth e)] else f
def mps (c : Cht) (f : List Int) : List Int := c.flatten.foldl (mst c) f
def mtr (c : Cht) : Nat → List Int → List Int
  | 0, f => f
  | k + 1, f => mps c (mtr c k f)
def hgL (c : Cht) : Bool := decide ((mtr c c.length [0]).length = c.length)
def Shut (c : Cht) (l : List Tip) (f : List Int) : Prop := ∀ e ∈ l, wz c e ∈ f → wz c (oth e) ∈ f
theorem mst_len (c : Cht) (f : List Int) (e : Tip) : f.length ≤ (mst c f e).length := by
  unfold mst
  split
  · rw [List.length_append]; omega
  · omega
theorem fold_le (c : Cht) : ∀ (l : List Tip) (f : List Int), f.length ≤ (l.foldl (mst c) f).length
  | [], _ => Nat.le_refl _
  | e :: l, f => Nat.le_trans (mst_len c f e) (fold_le c l _)
theorem fold_or (c : Cht) : ∀ (l : List Tip) (f : List Int), Shut c l f ∨ f.length < (l.foldl (mst c) f).length
  | [], _ => .inl fun e he => by cases he
  | e :: l, f => by
    rw [List.foldl_cons]
    by_cases h : wz c e ∈ f ∧ wz c (oth e) ∉ f
    · have e1 : mst c f e = f ++ [wz c (oth e)] := if_pos h
      refine .inr ?_
      have := fold_le c l (mst c f e)
      rw [e1, List.length_append, List.length_singleton] at this
      rw [e1]
      omega
    · have e1 : mst c f e = f := if_neg h
      rw [e1]
      rcases fold_or c l f with q | q
      · refine .inl fun x hx hm => ?_
        rcases List.mem_cons.mp hx with rfl | hx
        · exact Classical.byContradiction fun z => h ⟨hm, z⟩
        · exact q x hx hm
      · exact .inr q
theorem fold_shut (c : Cht) : ∀ (l : List Tip) (f : List Int), Shut c l f → l.foldl (mst c) f = f
  | [], _, _ => rfl
  | e :: l, f, h => by
    rw [List.foldl_cons]
    have e1 : mst c f e = f := if_neg fun z => z.2 (h e (List.mem_cons_self ..) z.1)
    rw [e1]
    exact fold_shut c l f fun x hx => h x (List.mem_cons_of_mem _ hx)
theorem turns_or (c : Cht) (f : List Int) : ∀ k, Shut c c.flatten (mtr c k f) ∨ f.length + k ≤ (mtr c k f).length
  | 0 => .inr (Nat.le_refl _)
  | k + 1 => by
    show Shut c c.flatten (mps c (mtr c k f)) ∨ f.length + (k + 1) ≤ (mps c (mtr c k f)).length
    by_cases s : Shut c c.flatten (mtr c k f)
    · have e : mps c (mtr c k f) = mtr c k f := fold_shut c _ _ s
      rw [e]
      exact .inl s
    · have h1 := (turns_or c f k).resolve_left s
      have h2 := (fold_or c c.flatten (mtr c k f)).resolve_left s
      refine .inr ?_
      show _ ≤ (c.flatten.foldl (mst c) (mtr c k f)).length
      omega
theorem pr0_ok {n : Nat} {c : Cht} (h : WfC n c) : okPrs c.length (pr0 n c) := fun p hp => by
  obtain ⟨g, hg, rfl⟩ := List.mem_map.mp hp
  have hg := List.mem_range.mp hg
  have a1 := whr_lt (h.mem.mpr ⟨g, hg, .inl rfl⟩)
  have a2 := whr_lt (h.mem.mpr ⟨g, hg, .inr rfl⟩)
  refine ⟨⟨?_, ?_⟩, ?_, ?_⟩
  · show (0 : Int) ≤ (whr c ((g : Int), 0) : Nat); omega
  · show ((whr c ((g : Int), 0) : Nat) : Int) < (c.length : Nat); omega
  · show (0 : Int) ≤ (whr c ((g : Int), 1) : Nat); omega
  · show ((whr c ((g : Int), 1) : Nat) : Int) < (c.length : Nat); omega
theorem fd_mst {n : Nat} {c : Cht} (h : WfC n c) {f : List Int} (F : Fd (pr0 n c) 0 f) {e : Tip} (he : e ∈ c.flatten) : Fd (pr0 n c) 0 (mst c f e) := by
  unfold mst
  by_cases q : wz c e ∈ f ∧ wz c (oth e) ∉ f
  · rw [if_pos q]
    refine ⟨List.nodup_append.mpr ⟨F.nd, by simp, fun x hx y hy z => q.2 (by rw [← List.mem_singleton.mp hy, ← z]; exact hx)⟩, List.mem_append_left _ F.bm, fun x hx => ?_⟩
    rcases List.mem_append.mp hx with hx | hx
    · exact F.c x hx
    · rw [List.mem_singleton.mp hx]
      obtain ⟨g, hg, e1⟩ := h.mem.mp he
      have m : (wz c ((g : Int), 0), wz c ((g : Int), 1)) ∈ pr0 n c := List.mem_map.mpr ⟨g, List.mem_range.mpr hg, rfl⟩
      rcases e1 with rfl | rfl
      · exact (F.c _ q.1).fw m
      · exact (F.c _ q.1).bw m
  · rw [if_neg q]; exact F
theorem fd_turns {n : Nat} {c : Cht} (h : WfC n c) : ∀ k, Fd (pr0 n c) 0 (mtr c k [0])
  | 0 => Fd.start _ _
  | k + 1 => by
    have key : ∀ (l : List Tip) (f : List Int), (∀ e ∈ l, e ∈ c.flatten) → Fd (pr0 n c) 0 f → Fd (pr0 n c) 0 (l.foldl (mst c) f) := by
      intro l
      induction l with
      | nil => intro f _ F; exact F
      | cons e l ih => intro f s F; exact ih _ (fun x hx => s x (List.mem_cons_of_mem _ hx)) (fd_mst h F (s e (List.mem_cons_self ..)))
    exact key _ _ (fun _ h => h) (fd_turns h k)
theorem hg_eq {n : Nat} {c : Cht} (h : WfC n c) (hc : c ≠ []) : hgL c = hgB n c := by
  have pos := List.length_pos_iff.mpr hc
  have F := fd_turns h c.length
  have ok := pr0_ok h
  have sub : ∀ x ∈ mtr c c.length [0], x ∈ rng c.length := fun x hx => mem_rng.mpr ((F.c x hx).inn ok ⟨Int.le_refl _, by omega⟩)
  have le := nd_subG _ _ F.nd sub
  rw [rng_len] at le
  have sh : Shut c c.flatten (mtr c c.length [0]) := (turns_or c [0] c.length).resolve_right fun z => by
    rw [List.length_singleton] at z
    omega
  have cl : ∀ p ∈ pr0 n c, (p.1 ∈ mtr c c.length [0] ↔ p.2 ∈ mtr c c.length [0]) := fun p hp => by
    obtain ⟨g, hg, rfl⟩ := List.mem_map.mp hp
    have hg := List.mem_range.mp hg
    exact ⟨sh _ (h.mem.mpr ⟨g, hg, .inl rfl⟩), sh _ (h.mem.mpr ⟨g, hg, .inr rfl⟩)⟩
  unfold hgL hgB
  rw [decide_eq_decide, pieces_one ok]
  constructor
  · intro e
    refine ⟨pos, fun j j0 j1 => (F.all cl).mp ?_⟩
    exact nd_fill F.nd sub (by rw [rng_len]; exact e) j (mem_rng.mpr ⟨j0, j1⟩)
  · rintro ⟨_, a⟩
    have nd : (rng c.length).Nodup := (rng_lt c.length).imp fun h e => by omega
    have := nd_subG _ _ nd fun x hx => (F.all cl).mpr (a x (mem_rng.mp hx).1 (mem_rng.mp hx).2)
    rw [rng_len] at this
    omega
end XL
namespace XL
open PySem PySem.Spec PyProof.Rows L2
abbrev sIt : Stmt := topS 30
/-- an end of a lock: its second number is 0 or 1 -/
def tipB (d : PyData) : Bool := endB d && decide ((tipOf d).2 = 0 ∨ (tipOf d).2 = 1)
theorem num_eq (d : PyData) (hd : ∀ k, d ≠ .dict k) : numB d = (intB d && !isB d) := by
  cases d with
  | dict k => exact absurd rfl (hd k)
  | _ => rfl
section
variable {P : Program} {w : World} {K : PySem.W.Frag} {mg : Str → Option Value} {base : Heap}
/-! ### the law's is_tip -/
abbrev nIt : List Str := ["_law_made", "_law_one"]
theorem scIt : FnScope nIt ["_law_made"] (defScope sIt) := ⟨rfl, rfl, rfl, by decide +kernel, rfl, by decide +kernel, by decide +kernel⟩
def spIt (K : PySem.W.Frag) : Sp := fun vs H Q _ => ∃ (v : V) (d : PyData), vs = [v] ∧ Dp K H v d ∧ ∀ H', Same H H' → Q (.bl (tipB d)) H'
theorem ok_it {f : Addr} {fd : FuncData} {k : Nat} (F : Fun K "_law_is_tip" "_law_is_tip" sIt f fd) (m_isinstance : mg "isinstance" = none) (m_tuple : mg "tuple" = none) (m_len : mg "len" = none) (m_all : mg "all" = none) (m_int : mg "int" = none) (m_bool : mg "bool" = none) : FnOk P w K mg base CX0 (k + 1) f fd ["_law_made"] (spIt K) := by
  refine F.ok scIt (fun vs H Q E h => ?_) (fun cdv A outer s0 H vs Q E hr h => ?_)
  · obtain ⟨v, d, rfl, _⟩ := h
    rfl
  obtain ⟨v, d, rfl, hd, q⟩ := h
  refine ⟨_, (pss_cons (ps_if (PW.pt (pw_or (pt_not (pt_val (pe_callB (r := rIsD K "tuple" isT) (call_isD kit_isT) rfl m_isinstance boot_isinstance (pa_cons (pv 0) (pa_cons (pe_bltn (v := .ty "tuple") rfl m_tuple boot_tuple rfl) pa_nil))))) (pw_or1 (pt_cmpR op_ne (pe_callB (r := rLenA K) call_lenA rfl m_len PySem.boot_len (pa_cons (pv 0) pa_nil)) pe_int (nomark _))))) (pss_one (ps_ret pe_bl)) pss_nil)
    (pss_one (ps_ret (pe_and (pe_callB (r := rAll K) (cr_all rfl) rfl m_all boot_all (pa_cons (pe_lc (own := [("_law_one", 1)]) (g := gName 1) (tt := tYes) rfl scIt.nd (pi_seqA rfl (pv 0)) (blkOk_by (own := [("_law_one", 1)]) (N := nIt) (sc := defScope sIt) (by decide +kernel)) (fun _ _ _ _ _ => (pg_name (i := 1) scIt.nd rfl (.inl rfl))) (fun _ _ _ _ _ => pts_nil) (fun _ _ _ _ _ => pe_hide (pe_and (pe_callB (r := rIsD K "int" intB) (call_isD kit_intB) rfl m_isinstance boot_isinstance (pa_cons (pv 1) (pa_cons (pe_bltn (v := .ty "int") rfl m_int boot_int' rfl) pa_nil))) (pe_one (pe_not (pe_callB (r := rIsD K "bool" isB) (call_isD kit_bool) rfl m_isinstance boot_isinstance (pa_cons (pv 1) (pa_cons (pe_bltn (v := .ty "bool") rfl m_bool boot_bool' rfl) pa_nil)))))))) pa_nil)) (pe_one (pe_cmpR op_in_seq (pe_ix (r := rIxA K) ix_any (pv 0) pe_int (fun _ _ => rfl)) (pe_tup (pa_cons pe_int (pa_cons pe_int pa_nil))) (by rfl))))))), ?_⟩
  refine ⟨_, rfl, v, d, rfl, hd, _, rfl, ?_⟩
  cases ht : isT d with
  | false =>
    have e : tipB d = false := by
      cases d with
      | tuple ds => simp [isT] at ht
      | _ => rfl
    rw [e] at q
    exact iteT (iteT (q H (Same.refl H)))
  | true =>
    have ed := tup_isT ht
    generalize hds : itemsD d = ds at ed
    subst ed
    cases hd with
    | tup hs ha =>
    rename_i a xs
    have lx := DpAll.length ha
    obtain ⟨bt, htB⟩ := sqB_of (.inr hs)
    refine iteF ?_
    refine ⟨_, rfl, a, xs, rfl, .inr hs, rfl, ?_⟩
    refine ⟨_, rfl, ite2 (fun e => ?_) (fun e => ?_)⟩
    · have ne : ds.length ≠ 2 := fun z => by
        rw [← lx] at z
        have e' : (!decide (V.int ((xs.length : Nat) : Int) = V.int 2)) = true := e
        rw [z] at e'
        exact absurd e' (by decide)
      have e : tipB (.tuple ds) = false := by
        unfold tipB endB
        rw [show tupB 2 (.tuple ds) = false from decide_eq_false fun z => ne (by omega)]
        rfl
      rw [e] at q
      exact q H (Same.refl H)
    · have l2 : ds.length = 2 := by
        refine Classical.byContradiction fun z => e ?_
        rw [← lx] at z
        show (!decide (V.int ((xs.length : Nat) : Int) = V.int 2)) = true
        rw [decide_eq_false fun h => z (by injection h with h; omega)]
        rfl
      refine ⟨_, rfl, a, xs, bt, fun Y => SqB K bt Y a xs, rfl, htB, fun _ h => h, fun J wk => lc_map wk Same (fun a b => a.trans b) (fun i y F => ∃ d, ds[i]? = some d ∧ y = .bl (numB d)) (fun i y A B _ p => p) (by rw [lx]; exact small1000 (by omega)) (Same.refl _) (fun D acc F sF nF => Same.sqB (sF.trans (same_new nF)) htB) (fun j x D acc F H' hj nD sF nF hy B hB => ?_) (fun D ys F nD sF nF hl hR => ?_)⟩
      · obtain ⟨rfl, hx⟩ := hy
        obtain ⟨d, ed, dx⟩ := DpAll.get ha hx
        refine hB _ F rfl nF fun Qt hQ => ?_
        have dF := Dp.same sF _ dx
        have ne := num_eq d (Dp.nodict dF)
        refine ⟨_, rfl, x, d, rfl, dF, _, rfl, ?_⟩
        cases ci : intB d with
        | false =>
          rw [ci] at ne
          exact iteF (hQ _ _ (Same.refl _) ⟨d, ed, by rw [ne]; rfl⟩)
        | true =>
          rw [ci] at ne
          exact iteT ⟨_, rfl, x, d, rfl, dF, _, rfl, hQ _ _ (Same.refl _) ⟨d, ed, by rw [ne]; rfl⟩⟩
      · have e := bls_map (f := numB) (ys := ys) (ds := ds) (by rw [hl, lx]) hR
        refine ⟨D, ds.map numB, rfl, by rw [← e]; exact SqL.of upd_same, ?_⟩
        rw [all_map]
        have s1 := sF.trans (same_new nF (o := .lst ys))
        generalize upd F D (.lst ys) = G1 at s1
        have tb : tupB 2 (.tuple ds) = true := decide_eq_true (by omega)
        refine ⟨_, rfl, ?_⟩
        cases hall : ds.all numB with
        | false =>
          have e : tipB (.tuple ds) = false := by
            unfold tipB endB
            rw [tb, show itemsD (.tuple ds) = ds from rfl, hall]
            rfl
          rw [e] at q
          exact iteF (q _ s1)
        | true =>
          have eb : endB (.tuple ds) = true := by
            unfold endB
            rw [tb, show itemsD (.tuple ds) = ds from rfl, hall]
            rfl
          have ee := end_of eb
          generalize tipOf (.tuple ds) = t at ee
          have hde : Dp K H (.ref a) (enD t) := by rw [← ee]; exact .tup hs ha
          obtain ⟨a', ea, hsq⟩ := en_ref hde
          cases ea
          refine iteT ?_
          refine ⟨_, rfl, a, _, 1, .int t.2, rfl, rfl, .inr (Same.tup s1 hsq), rfl, (by show 2 ≤ sizeLine; decide), fun p np => ?_⟩
          refine ⟨p, [.int 0, .int 1], rfl, .inr (.inl (.inl upd_same)), rfl, rfl, ?_⟩
          have ev : inV (V.int t.2) [V.int 0, V.int 1] = decide (t.2 = 0 ∨ t.2 = 1) := by
            generalize t.2 = s
            by_cases h0 : s = 0
            · subst h0; decide
            · by_cases h1 : s = 1
              · subst h1; decide
              · simp [inV, eqV, h0, h1, Ne.symm h0, Ne.symm h1]
          show Q (V.bl (inV (V.int t.2) [V.int 0, V.int 1])) _
          rw [ev]
          have e : tipB (.tuple ds) = decide (t.2 = 0 ∨ t.2 = 1) := by
            unfold tipB
            rw [eb, ee]
            rfl
          rw [e] at q
          exact q _ (s1.trans (same_new np))
end
end XL
namespace XL
open PySem PySem.Spec PyProof.Rows L2
/-! ### shapes -/
theorem lay_all : ∀ {ds : List PyData}, (∀ d ∈ ds, d.canLay0 = true) → PyData.canLayAll0 ds = true
  | [], _ => by simp [PyData.canLayAll0]
  | d :: ds, h => by
    rw [PyData.canLayAll0, h d (List.mem_cons_self ..), lay_all fun e he => h e (List.mem_cons_of_mem _ he)]
    rfl
theorem deep_all {k : Nat} : ∀ {ds : List PyData}, (∀ d ∈ ds, d.depth ≤ k) → PyData.depthAll ds ≤ k
  | [], _ => by simp [PyData.depthAll]
  | d :: ds, h => by
    have h1 := h d (List.mem_cons_self ..)
    have h2 := deep_all fun e he => h e (List.mem_cons_of_mem _ he)
    simp only [PyData.depthAll]
    omega
theorem lenD_lay {N : Nat} : ∀ {D : Nat} {d : PyData}, lenD N D d → d.canLay0 = true ∧ d.depth ≤ D
  | 0, .list _, h => h.elim
  | 0, .tuple _, h => h.elim
  | D + 1, .list ds, h => by
    refine ⟨?_, ?_⟩
    · simp only [PyData.canLay0]; exact lay_all fun d hd => (lenD_lay (h.2 d hd)).1
    · have := deep_all fun d hd => (lenD_lay (h.2 d hd)).2
      simp only [PyData.depth]; omega
  | D + 1, .tuple ds, h => by
    refine ⟨?_, ?_⟩
    · simp only [PyData.canLay0]; exact lay_all fun d hd => (lenD_lay (h.2 d hd)).1
    · have := deep_all fun d hd => (lenD_lay (h.2 d hd)).2
      simp only [PyData.depth]; omega
  | D, .dict _, h => by cases D <;> exact h.elim
  | D, .str x, h => by cases D <;> exact ⟨by simpa [PyData.canLay0, lenD] using h, by simp [PyData.depth]⟩
  | D, .int _, _ => ⟨by simp [PyData.canLay0], by simp [PyData.depth]⟩
  | D, .bool _, _ => ⟨by simp [PyData.canLay0], by simp [PyData.depth]⟩
  | D, .none, _ => ⟨by simp [PyData.canLay0], by simp [PyData.depth]⟩
theorem lenD_shp {N D : Nat} {d : PyData} (h : lenD N D d) (hD : D ≤ 60) : SeqAt.shaped d = true := shp (lenD_lay h).1 (by have := (lenD_lay h).2; omega)
/-! ### a map's tips -/
def okRow (r : PyData) : Prop := rowB r = true ∧ ∀ e ∈ rowOf r, e.2 = 0 ∨ e.2 = 1
theorem map_wf {d : PyData} (h : mapB d = true) : d = chT (chOf d) ∧ WfC ((chOf d).flatten.length / 2) (chOf d) := by
  unfold mapB at h
  rw [Bool.and_eq_true, Bool.and_eq_true] at h
  exact ⟨ch_of h.1, permB_iff.mp h.2.1⟩
theorem wf_side {n : Nat} {c : Cht} (h : WfC n c) {e : Tip} (he : e ∈ c.flatten) : e.2 = 0 ∨ e.2 = 1 := by
  obtain ⟨g, _, rfl | rfl⟩ := h.mem.mp he
  · exact .inl rfl
  · exact .inr rfl
theorem map_row {d : PyData} (h : mapB d = true) : ∀ r ∈ itemsD d, okRow r := fun r hr => by
  obtain ⟨e, wf⟩ := map_wf h
  generalize chOf d = c at e wf
  rw [e] at hr
  obtain ⟨a, ha, rfl⟩ := List.mem_map.mp (show r ∈ c.map fun a => PyData.tuple (a.map enD) from hr)
  exact ⟨rowB_en a, fun e he => wf_side wf (List.mem_flatten.mpr ⟨a, ha, by rwa [row_en] at he⟩)⟩
theorem row_tips {r : PyData} (h : okRow r) : ∀ t ∈ itemsD r, tipB t = true := fun t ht => by
  have e := row_of h.1
  have hs := h.2
  generalize rowOf r = a at e hs
  rw [e] at ht
  obtain ⟨x, hx, rfl⟩ := List.mem_map.mp (show t ∈ a.map enD from ht)
  unfold tipB
  rw [end_en, tip_en, Bool.true_and]
  exact decide_eq_true (hs x hx)
theorem rows_ok {r : PyData} (ht : isT r = true) (h : ∀ t ∈ itemsD r, tipB t = true) : okRow r := by
  have hb : ∀ t ∈ itemsD r, endB t = true := fun t m => by
    have := h t m
    unfold tipB at this
    rw [Bool.and_eq_true] at this
    exact this.1
  refine ⟨?_, fun e he => ?_⟩
  · unfold rowB
    rw [ht, Bool.true_and, List.all_eq_true]
    exact hb
  · obtain ⟨t, m, rfl⟩ := List.mem_map.mp he
    have := h t m
    unfold tipB at this
    rw [Bool.and_eq_true] at this
    exact of_decide_eq_true this.2
/-- both ends of each lock, and no other ends -/
theorem wf_by {n : Nat} {c : Cht} (nd : c.flatten.Nodup) (l : c.flatten.length = 2 * n) (h : ∀ g : Nat, g < n → ((g : Int), (0 : Int)) ∈ c.flatten ∧ ((g : Int), (1 : Int)) ∈ c.flatten) : WfC n c := by
  have sub : ∀ x ∈ bothE n, x ∈ c.flatten := fun x hx => by
    obtain ⟨g, hg, rfl | rfl⟩ := mem_both.mp hx
    · exact (h g hg).1
    · exact (h g hg).2
  have fill := nd_fill (both_nodup n) sub (by rw [both_len, l])
  exact (List.perm_ext_iff_of_nodup nd (both_nodup n)).mpr fun x => ⟨fill x, sub x⟩
theorem wf_half {n : Nat} {c : Cht} (h : WfC n c) : c.flatten.length / 2 = n := by rw [h.len]; omega
theorem bb_val {c : Cht} (nd : c.flatten.Nodup) {j : Nat} {e : Tip} {i : Nat} (h : (bbE c)[j]? = some (e, i)) : e ∈ c.flatten ∧ i = whr c e ∧ c.flatten[j]? = some e := by
  have hm : (e, i) ∈ bbE c := List.mem_iff_getElem?.mpr ⟨j, h⟩
  have hk : ((bbE c).map (·.1)).Nodup := by rw [bb_keys]; exact nd
  have he : e ∈ c.flatten := by rw [← bb_keys]; exact List.mem_map.mpr ⟨_, hm, rfl⟩
  refine ⟨he, key_one hk hm (whr_mem he), ?_⟩
  rw [← bb_keys, List.getElem?_map, h]
  rfl
theorem in_ints (z : Int) (f : List Int) : inV (V.int z) (f.map V.int) = decide (z ∈ f) := by
  induction f with
  | nil => rfl
  | cons y f ih =>
    have e : inV (V.int z) ((y :: f).map V.int) = ((y == z) || inV (V.int z) (f.map V.int)) := rfl
    rw [e, ih]
    by_cases h1 : y = z
    · subst h1; simp
    · by_cases h2 : z ∈ f
      · simp [h2]
      · simp [h1, h2, Ne.symm h1]
theorem flat_ints (f : List Int) : (f.map V.int).all flatV = true := by
  induction f with
  | nil => rfl
  | cons y f ih => exact ih
end XL
namespace XL
open PySem PySem.Spec PyProof.Rows L2
abbrev sIc : Stmt := topS 31
theorem fd_len {n : Nat} {c : Cht} (h : WfC n c) (hc : c ≠ []) {f : List Int} (F : Fd (pr0 n c) 0 f) : f.length ≤ c.length := by
  have pos := List.length_pos_iff.mpr hc
  have := nd_subG _ _ F.nd fun x hx => mem_rng.mpr ((F.c x hx).inn (pr0_ok h) ⟨Int.le_refl _, by omega⟩)
  rwa [rng_len] at this
theorem fd_fold {n : Nat} {c : Cht} (h : WfC n c) : ∀ (l : List Tip) (f : List Int), (∀ e ∈ l, e ∈ c.flatten) → Fd (pr0 n c) 0 f → Fd (pr0 n c) 0 (l.foldl (mst c) f)
  | [], _, _, F => F
  | e :: l, f, s, F => fd_fold h l _ (fun x hx => s x (List.mem_cons_of_mem _ hx)) (fd_mst h F (s e (List.mem_cons_self ..)))
section
variable {P : Program} {w : World} {K : PySem.W.Frag} {mg : Str → Option Value} {base : Heap}
/-! ### the law's is_chart -/
abbrev nIc : List Str := ["_law_made", "_law_spots", "_law_k", "_law_around", "_law_tip", "_law_gate", "_law_met", "_law_turn"]
theorem scIc : FnScope nIc ["_law_made"] (defScope sIc) := ⟨rfl, rfl, rfl, by decide +kernel, rfl, by decide +kernel, by decide +kernel⟩
def spIc (K : PySem.W.Frag) : Sp := fun vs H Q _ => ∃ (v : V) (d : PyData) (D : Nat), vs = [v] ∧ Dp K H v d ∧ lenD 18 D d ∧ D ≤ 60 ∧ ∀ H', Same H H' → Q (.bl (mapB d)) H'
/-- what stands while a chart is gone through: a dict by ends, new -/
structure Scn (P : Program) (w : World) (K : PySem.W.Frag) (H Z : Hp) (D : Addr) (es : List NE) (bs : List (Tip × Nat)) : Prop where
  s : Same H Z
  nD : H D = none
  d : Z D = some (DNo P w D es)
  e : EnE K Z RN es bs
theorem Scn.next {P : Program} {w : World} {K : PySem.W.Frag} {H Z Z' : Hp} {D : Addr} {es : List NE} {bs : List (Tip × Nat)} (h : Scn P w K H Z D es bs) (s : Same Z Z') : Scn P w K H Z' D es bs := ⟨h.s.trans s, h.nD, s _ _ h.d, h.e.move (Tp.of s) RN.mono⟩
theorem Scn.key {P : Program} {w : World} {K : PySem.W.Frag} {H Z : Hp} {D : Addr} {es : List NE} {bs : List (Tip × Nat)} (h : Scn P w K H Z D es bs) {b : Addr} {e : Tip} {j : Nat} (db : Dp K Z (.ref b) (enD e)) : Scn P w K H (upd Z D (DNo P w D (es ++ [(kyE e, b, .int (j : Nat))]))) D (es ++ [(kyE e, b, .int (j : Nat))]) (bs ++ [(e, j)]) := by
  have tp := tp_dno (o := DNo P w D (es ++ [(kyE e, b, .int (j : Nat))])) h.d
  exact ⟨fun q o e => by rw [upd_ne (fun z => by rw [z, h.nD] at e; cases e)]; exact h.s _ _ e, h.nD, upd_same, (h.e.snoc (e := e) (y := j) db rfl).move tp RN.mono⟩
theorem Scn.at_ {P : Program} {w : World} {K : PySem.W.Frag} {H Z : Hp} {D : Addr} {es : List NE} {c : Cht} (h : Scn P w K H Z D es (bbE c)) (nd : c.flatten.Nodup) (e : Tip) : (atN es (kyE e)).isSome = decide (e ∈ c.flatten) := by
  by_cases m : e ∈ c.flatten
  · obtain ⟨v, hv, _⟩ := h.e.get (by rw [bb_keys]; exact nd) (whr_mem m)
    rw [hv, decide_eq_true m]; rfl
  · rw [h.e.none (by rw [bb_keys]; exact m), decide_eq_false m]; rfl
theorem ok_ic {f fi fo : Addr} {fd fdi fdo : FuncData} {k : Nat} (F : Fun K "_law_is_chart" "_law_is_chart" sIc f fd) (It : Fns P w K mg base k "_law_is_tip" ["_law_made"] (spIt K) fi fdi) (Os : Fns P w K mg base k "_law_other_side" ["_law_tip"] (spOs K) fo fdo) (m_isinstance : mg "isinstance" = none) (m_tuple : mg "tuple" = none) (m_all : mg "all" = none) (m_enumerate : mg "enumerate" = none) (m_len : mg "len" = none) (m_range : mg "range" = none) : FnOk P w K mg base CX0 (k + 1) f fd ["_law_made"] (spIc K) := by
  refine F.ok scIc (fun vs H Q E h => ?_) (fun cdv A outer s0 H vs Q E hr h => ?_)
  · obtain ⟨v, d, D, rfl, _⟩ := h
    rfl
  obtain ⟨v, d, D0, rfl, hd, ld, hD, q⟩ := h
  refine ⟨_, (pss_cons (ps_if (PW.pt (pw_or (pt_not (pt_val (pe_callB (r := rIsD K "tuple" isT) (call_isD kit_isT) rfl m_isinstance boot_isinstance (pa_cons (pv 0) (pa_cons (pe_bltn (v := .ty "tuple") rfl m_tuple boot_tuple rfl) pa_nil))))) (pw_or (pt_cmpR (op_eqD hr.units) (pv 0) (pe_tup pa_nil) (nomark _)) (pw_or1 (pt_not (pt_val (pe_callB (r := rAll K) (cr_all rfl) rfl m_all boot_all (pa_cons (pe_lc (own := [("_law_around", 3)]) (g := gName 3) (tt := tYes) rfl scIc.nd (pi_seqA rfl (pv 0)) (blkOk_by (own := [("_law_around", 3)]) (N := nIc) (sc := defScope sIc) (by decide +kernel)) (fun _ _ _ _ _ => (pg_name (i := 3) scIc.nd rfl (.inl rfl))) (fun _ _ _ _ _ => pts_nil) (fun _ _ _ _ _ => pe_hide (pe_callB (r := rIsD K "tuple" isT) (call_isD kit_isT) rfl m_isinstance boot_isinstance (pa_cons (pv 3) (pa_cons (pe_bltn (v := .ty "tuple") rfl m_tuple boot_tuple rfl) pa_nil))))) pa_nil)))))))) (pss_one (ps_ret pe_bl)) pss_nil)
    (pss_cons (ps_set (i := 1) scIc.nd rfl (.inl rfl) pe_ndnew)
    (pss_cons (ps_for PassesOwn.never rfl (pi_enumA rfl m_enumerate (pa_cons (pv 0) pa_nil)) (pg_any rfl (pgs_cons (pg_name (i := 2) scIc.nd rfl (.inl rfl)) (pgs_cons (pg_name (i := 3) scIc.nd rfl (.inl rfl)) pgs_nil)))
    (pss_one (ps_for PassesOwn.never rfl (pi_seqA rfl (pv 3)) (pg_name (i := 4) scIc.nd rfl (.inl rfl))
    (pss_cons (ps_if (PW.pt (pw_or (pt_not (pt_val (pe_fn It hr rfl (pa_cons (pv 4) pa_nil)))) (pw_or1 (pt_cmp (pc_nin (hu10 hr.units) (pv 4) (pv 1)) rfl)))) (pss_one (ps_ret pe_bl)) pss_nil)
    (pss_one (ps_nput (hu10 hr.units) (pv 1) (pv 4) (pv 2) rfl))))))
    (pss_cons (ps_if (pt_cmpR op_eq (pe_op op_modN (pe_callB (r := rLenN P w K) call_lenN rfl m_len PySem.boot_len (pa_cons (pv 1) pa_nil)) pe_int) pe_int (nomark _)) (pss_one (ps_ret pe_bl)) pss_nil)
    (pss_cons (ps_for PassesOwn.never rfl (pi_range1 rfl m_range (pa_cons (pe_op op_fdivN (pe_callB (r := rLenN P w K) call_lenN rfl m_len PySem.boot_len (pa_cons (pv 1) pa_nil)) pe_int) pa_nil)) (pg_name (i := 5) scIc.nd rfl (.inl rfl))
    (pss_one (ps_if (PW.pt (pw_or (pt_cmp (pc_nnotin (hu10 hr.units) (pe_tup (pa_cons (pv 5) (pa_cons pe_int pa_nil))) (pv 1)) rfl) (pw_or1 (pt_cmp (pc_nnotin (hu10 hr.units) (pe_tup (pa_cons (pv 5) (pa_cons pe_int pa_nil))) (pv 1)) rfl)))) (pss_one (ps_ret pe_bl)) pss_nil)))
    (pss_cons (ps_set (i := 6) scIc.nd rfl (.inl rfl) (pe_lst (pa_cons pe_int pa_nil)))
    (pss_cons (ps_for PassesOwn.never rfl (pi_seqA rfl (pv 0)) (pg_name (i := 7) scIc.nd rfl (.inl rfl))
    (pss_one (ps_lock (ps_for PassesOwn.never rfl (pi_nkeys (pv 1)) (pg_name (i := 4) scIc.nd rfl (.inl rfl))
    (pss_one (ps_if (PW.pt (pw_and (pt_cmpR op_in_seq (pe_nget (hu10 hr.units) (pv 1) (pv 4) (fun _ _ => rfl)) (pv 6) (by rfl)) (pw_and1 (pt_cmpR op_notIn_seq (pe_nget (hu10 hr.units) (pv 1) (pe_fn Os hr rfl (pa_cons (pv 4) pa_nil)) (fun _ _ => rfl)) (pv 6) (by rfl))))) (pss_one (ps_expr (pe_bm PySem.F.plainAttrs_list PySem.F.slot_list_append PySem.F.type_list_append mt_append (pv 6) (pa_cons (pe_nget (hu10 hr.units) (pv 1) (pe_fn Os hr rfl (pa_cons (pv 4) pa_nil)) (fun _ _ => rfl)) pa_nil)))) pss_nil))))))
    (pss_one (ps_ret (pe_cmpR op_eq (pe_callB (r := rLenA K) call_lenA rfl m_len PySem.boot_len (pa_cons (pv 6) pa_nil)) (pe_callB (r := rLenA K) call_lenA rfl m_len PySem.boot_len (pa_cons (pv 0) pa_nil)) (nomark _))))))))))), ?_⟩
  refine ⟨_, rfl, v, d, rfl, hd, _, rfl, ?_⟩
  cases ht : isT d with
  | false =>
    have e : mapB d = false := by unfold mapB chB; rw [ht]; rfl
    rw [e] at q
    exact iteT (iteT (q H (Same.refl H)))
  | true =>
    have ed := tup_isT ht
    generalize hds : itemsD d = ds at ed
    subst ed
    have li := lenD_tup ld
    have shd := lenD_shp ld hD
    refine iteF ?_
    refine ⟨_, rfl, (by show 0 ≤ sizeLine; decide), fun T0 nT0 => ?_⟩
    have s9 := same_new nT0 (o := .tup [])
    have eT0 : (upd H T0 (.tup [])) T0 = some (.tup []) := upd_same
    generalize upd H T0 (.tup []) = H1 at s9 eT0
    refine ⟨.tuple ds, .tuple [], Dp.same s9 _ hd, .tup (.inl (.inl eT0)) .nil, shd, by decide +kernel, ?_⟩
    cases hd with
    | tup hs ha =>
    rename_i a xs
    have lx := DpAll.length ha
    have htB : SqB K false H1 a xs := Same.tup s9 hs
    have ha1 := DpAll.same s9 _ ha
    have eqb : PyData.eqv (.tuple ds) (.tuple []) = ds.isEmpty := by cases ds <;> simp [PyData.eqv, PyData.eqvAll]
    rw [eqb]
    refine ⟨_, rfl, ?_⟩
    cases hz : ds.isEmpty with
    | true =>
      have e0 : ds = [] := List.isEmpty_iff.mp hz
      have e : mapB (.tuple ds) = false := by rw [e0]; decide
      rw [e] at q
      exact iteT (iteT (q _ s9))
    | false =>
    have ne0 : ds ≠ [] := fun z => by rw [z] at hz; cases hz
    refine iteF ?_
    refine ⟨_, rfl, a, xs, false, fun Y => SqB K false Y a xs, rfl, htB, fun _ h => h, fun J wk => lc_map wk Same (fun a b => a.trans b) (fun i y F => ∃ d, ds[i]? = some d ∧ y = .bl (isT d)) (fun i y A B _ p => p) (by rw [lx]; exact small1000 (by omega)) (Same.refl _) (fun D acc F sF nF => Same.sqB (sF.trans (same_new nF)) htB) (fun j x D acc F H' hj nD sF nF hy B hB => ?_) (fun D2 ys F nD sF nF hl hR => ?_)⟩
    · obtain ⟨rfl, hx⟩ := hy
      obtain ⟨d, ed, dx⟩ := DpAll.get ha1 hx
      refine hB _ F rfl nF fun Qt hQ => ?_
      exact ⟨_, rfl, x, d, rfl, Dp.same sF _ dx, hQ _ _ (Same.refl _) ⟨d, ed, rfl⟩⟩
    · have e := bls_map (f := isT) (ys := ys) (ds := ds) (by rw [hl, lx]) hR
      refine ⟨D2, ds.map isT, rfl, by rw [← e]; exact SqL.of upd_same, ?_⟩
      rw [all_map]
      have s1 := s9.trans (sF.trans (same_new nF (o := .lst ys)))
      generalize upd F D2 (.lst ys) = G1 at s1
      refine ⟨_, rfl, ?_⟩
      cases hall : ds.all isT with
      | false =>
        have e : mapB (.tuple ds) = false := by
          cases hm : mapB (.tuple ds) with
          | false => rfl
          | true =>
            have := map_row hm
            rw [List.all_eq_false] at hall
            obtain ⟨x, hx, hn⟩ := hall
            have h1 := (this x hx).1
            unfold rowB at h1
            rw [Bool.and_eq_true] at h1
            exact absurd h1.1 hn
        rw [e] at q
        exact iteT (q _ s1)
      | true =>
      rw [List.all_eq_true] at hall
      refine iteF ?_
      clear htB ha1 s9 sF nF hl hR nD
      refine fun D nD => ?_
      have nDH : H D = none := s1.free nD
      refine at_g (σ' := [some (.ref a), some (.ref D), none, none, none, none, none, none]) rfl ?_
      have X0 : Scn P w K H (upd G1 D (DNo P w D [])) D [] [] := ⟨s1.trans (same_new nD), nDH, upd_same, EnE.nil⟩
      refine at_h (fun G => Scn P w K H G D [] []) X0 fun G2 X0 => ?_
      have bad : mapB (.tuple ds) = false → ∀ Z, Same H Z → Q (.bl false) Z := fun e Z sZ => by
        rw [e] at q
        exact q Z sZ
      obtain ⟨c, hc⟩ : ∃ c : Cht, c = ds.map rowOf := ⟨_, rfl⟩
      have cl : c.length = ds.length := by rw [hc, List.length_map]
      have wfc : mapB (.tuple ds) = true → WfC (c.flatten.length / 2) c := fun h => by
        have := (map_wf h).2
        rw [show chOf (.tuple ds) = c from hc.symm] at this
        exact this
      have htB0 : SqB K false H a xs := hs
      have few : c.flatten.length ≤ 324 := by
        refine Nat.le_trans (flat_sq (N := 18) fun b hb => ?_) (show c.length * 18 ≤ 324 from by have := li.1; omega)
        rw [hc] at hb
        obtain ⟨r, hr, rfl⟩ := List.mem_map.mp hb
        obtain ⟨Dr, ldr⟩ := li.2 r hr
        show ((itemsD r).map tipOf).length ≤ 18
        rw [List.length_map]
        exact (lenD_items ldr).1
      clear s1 nD
      refine ⟨_, rfl, a, xs, false, fun Y => SqB K false Y a xs, rfl, Same.sqB X0.s htB0, fun _ h => h, fun J wk => for_it wk (fun i σ Z => ∃ (es : List NE) (y2 y3 y4 : Option V), σ = [some (.ref a), some (.ref D), y2, y3, y4, none, none, none] ∧ Scn P w K H Z D es (bbE (c.take i)) ∧ (c.take i).flatten.Nodup ∧ ∀ r ∈ ds.take i, okRow r) ⟨[], none, none, none, rfl, X0, List.nodup_nil, fun r hr => by cases hr⟩ (fun i σ Z _ h => ?_) (fun i x σ Z Z' hi h hy => ?_) (fun σ Z h => ?_)⟩
      · obtain ⟨es, y2, y3, y4, rfl, XZ, _⟩ := h
        exact Same.sqB XZ.s htB0
      · obtain ⟨es, y2, y3, y4, rfl, XZ, ndi, oki⟩ := h
        obtain ⟨T, x0, x1, rfl, nT, rfl, hi0, hx1⟩ := hy
        obtain rfl := Option.some.inj hi0
        obtain ⟨r, er, dr⟩ := DpAll.get ha hx1
        have rT := hall r (List.mem_of_getElem? er)
        obtain ⟨Dr, ldr⟩ := li.2 r (List.mem_of_getElem? er)
        have lrr := (lenD_items ldr).1
        have er' := tup_isT rT
        generalize hts : itemsD r = ts at er'
        rw [hts] at lrr
        rw [er'] at dr er
        have ha' : c[i]? = some (rowOf (.tuple ts)) := by rw [hc, List.getElem?_map, er]; rfl
        obtain ⟨row, hrow⟩ : ∃ row : List Tip, row = ts.map tipOf := ⟨_, rfl⟩
        rw [show rowOf (.tuple ts) = row from hrow.symm] at ha'
        cases dr with
        | tup hta hda =>
        rename_i ta ys2
        have ly := DpAll.length hda
        have X1 := XZ.next (same_new nT (o := .tup [.int (i : Int), .ref ta]))
        have uT : (upd Z T (.tup [.int (i : Int), .ref ta])) T = some (.tup [.int (i : Int), .ref ta]) := upd_same
        generalize upd Z T (.tup [.int (i : Int), .ref ta]) = Z1 at X1 uT
        refine ⟨T, _, rfl, .inr (.inl (.inl uT)), rfl, ?_⟩
        refine ⟨_, _, rfl, ?_⟩
        refine at_g (σ' := [some (.ref a), some (.ref D), some (.int (i : Int)), y3, y4, none, none, none]) rfl ?_
        refine ⟨_, _, rfl, ?_⟩
        refine at_g (σ' := [some (.ref a), some (.ref D), some (.int (i : Int)), some (.ref ta), y4, none, none, none]) rfl ?_
        refine ⟨rfl, ?_⟩
        have htT : SqB K false H ta ys2 := hta
        have lrow : row.length = ts.length := by rw [hrow, List.length_map]
        refine ⟨_, rfl, ta, ys2, false, fun Y => SqB K false Y ta ys2, rfl, Same.sqB X1.s htT, fun _ h => h, fun J1 wk1 => for_it wk1 (fun k σ Y => ∃ (es : List NE) (y4 : Option V), σ = [some (.ref a), some (.ref D), some (.int (i : Int)), some (.ref ta), y4, none, none, none] ∧ Scn P w K H Y D es (bbE (c.take i) ++ (row.take k).map fun e => (e, i)) ∧ ((c.take i).flatten ++ row.take k).Nodup ∧ ∀ t ∈ ts.take k, tipB t = true) ⟨es, y4, rfl, by rw [List.take_zero, List.map_nil, List.append_nil]; exact X1, by rw [List.take_zero, List.append_nil]; exact ndi, fun t ht => by cases ht⟩ (fun k σ Y _ h => ?_) (fun k x σ Y Y' hk h hy => ?_) (fun σ Y h => ?_)⟩
        · obtain ⟨es, y4, rfl, XY, _⟩ := h
          exact Same.sqB XY.s htT
        · clear X1 uT nT XZ
          obtain ⟨es, y4, rfl, XY, ndk, okk⟩ := h
          obtain ⟨rfl, hx2⟩ := hy
          obtain ⟨t, et, dt⟩ := DpAll.get hda hx2
          refine at_g (σ' := [some (.ref a), some (.ref D), some (.int (i : Int)), some (.ref ta), some x, none, none, none]) rfl ?_
          refine ⟨_, rfl, x, t, rfl, Dp.same XY.s _ dt, fun Y1 sY1 => ⟨_, rfl, ?_⟩⟩
          have X2 := XY.next sY1
          cases tb : tipB t with
          | false =>
            refine iteT (iteT (bad ?_ _ X2.s))
            cases hm : mapB (.tuple ds) with
            | false => rfl
            | true =>
              have h1 := row_tips (map_row hm _ (List.mem_of_getElem? er)) t (List.mem_of_getElem? et)
              rw [tb] at h1
              cases h1
          | true =>
          refine iteF ?_
          have eb : endB t = true := by
            unfold tipB at tb
            rw [Bool.and_eq_true] at tb
            exact tb.1
          have ee := end_of eb
          have he : row[k]? = some (tipOf t) := by rw [hrow, List.getElem?_map, et]; rfl
          generalize tipOf t = e at ee he
          rw [ee] at dt
          obtain ⟨b, rfl, _⟩ := en_ref dt
          have dY := Dp.same X2.s _ dt
          refine ⟨_, rfl, _, rfl, D, _, rfl, ⟨es, kyE e, b, .inl X2.d, X2.e.ky, rfl, en_at dY, rfl⟩, _, rfl, ?_⟩
          by_cases hin : e ∈ (c.take i).flatten ++ row.take k
          · have hk2 : ((bbE (c.take i) ++ (row.take k).map fun e => (e, i)).map (·.1)).Nodup := by rw [bb_pre]; exact ndk
            obtain ⟨p, hp, e1⟩ := List.mem_map.mp (show e ∈ (bbE (c.take i) ++ (row.take k).map fun e => (e, i)).map (·.1) from by rw [bb_pre]; exact hin)
            obtain ⟨_, v1, _⟩ := X2.e.get hk2 (e := e) (y := p.2) (by rw [← e1]; exact hp)
            rw [v1]
            refine iteT (bad ?_ _ X2.s)
            cases hm : mapB (.tuple ds) with
            | false => rfl
            | true => exact absurd hin (new_at (wfc hm).nd ha' he)
          · have no : atN es (kyE e) = none := X2.e.none (by rw [bb_pre]; exact hin)
            have len : es.length < c.flatten.length := by
              rw [X2.e.l, ← List.length_map (f := Prod.fst), bb_pre]
              exact len_at ha' he
            rw [no]
            refine iteF ?_
            refine ⟨_, rfl, _, rfl, _, rfl, D, _, rfl, ⟨es, kyE e, b, X2.d, X2.e.ky, rfl, en_at dY, no, small2000 (by omega), rfl⟩, ?_⟩
            refine ⟨es ++ [(kyE e, b, .int (i : Nat))], _, rfl, ?_, ?_, fun t2 ht2 => ?_⟩
            · rw [take_snoc he, List.map_append, ← List.append_assoc]
              exact X2.key dY
            · rw [take_snoc he, ← List.append_assoc]
              refine List.nodup_append.mpr ⟨ndk, by simp, fun y hy z hz w => hin ?_⟩
              rw [List.mem_singleton.mp hz] at w
              rw [← w]; exact hy
            · rw [take_snoc et] at ht2
              rcases List.mem_append.mp ht2 with m | m
              · exact okk t2 m
              · rw [List.mem_singleton.mp m]; exact tb
        · obtain ⟨es, y4, rfl, XY, ndk, okk⟩ := h
          rw [ly, ← lrow, List.take_length] at XY ndk
          rw [ly, List.take_length] at okk
          refine ⟨es, _, _, y4, rfl, by rw [bb_at ha']; exact XY, by rw [flat_snoc ha']; exact ndk, fun r2 hr2 => ?_⟩
          rw [take_snoc er] at hr2
          rcases List.mem_append.mp hr2 with m | m
          · exact oki r2 m
          · rw [List.mem_singleton.mp m]
            exact rows_ok rfl okk
      · obtain ⟨es, y2, y3, y4, rfl, XZ, ndi, oki⟩ := h
        rw [lx, ← cl, List.take_length] at XZ ndi
        rw [lx, List.take_length] at oki
        have cb : chB (.tuple ds) = true := by
          unfold chB
          rw [show isT (.tuple ds) = true from rfl, Bool.true_and, List.all_eq_true]
          exact fun r hr => (oki r hr).1
        have ec : PyData.tuple ds = chT c := by
          have e := ch_of cb
          rw [show chOf (.tuple ds) = c from hc.symm] at e
          exact e
        have cne : c ≠ [] := fun z => by rw [z] at cl; exact ne0 (List.length_eq_zero_iff.mp cl.symm)
        have les : es.length = c.flatten.length := by rw [XZ.e.l, ← List.length_map (f := Prod.fst), bb_keys]
        obtain ⟨n, hn⟩ : ∃ n : Nat, n = c.flatten.length / 2 := ⟨_, rfl⟩
        refine ⟨_, rfl, D, es, rfl, .inl XZ.d, XZ.e.ky, _, _, rfl, rfl, (show (2 : Int) ≠ 0 from by decide), rfl, _, rfl, ?_⟩
        have ev : decide (V.int (((es.length : Nat) : Int).fmod 2) = V.int 1) = decide (c.flatten.length % 2 = 1) := by
          rw [les, Int.fmod_eq_emod_of_nonneg _ (by decide), decide_eq_decide]
          constructor
          · intro h
            injection h with h
            omega
          · intro h
            congr 1
            omega
        show (if decide (V.int (((es.length : Nat) : Int).fmod 2) = V.int 1) = true then _ else _)
        rw [ev]
        by_cases odd : c.flatten.length % 2 = 1
        · rw [decide_eq_true odd]
          refine iteT (bad ?_ _ XZ.s)
          cases hm : mapB (.tuple ds) with
          | false => rfl
          | true =>
            have := (wfc hm).len
            omega
        rw [decide_eq_false odd]
        refine iteF ?_
        have l2 : c.flatten.length = 2 * n := by omega
        have sm : ((es.length : Nat) : Int).fdiv 2 = (n : Int) := by
          rw [les, Int.fdiv_eq_ediv_of_nonneg _ (by decide)]
          omega
        have nK : ((bbE c).map (·.1)).Nodup := by rw [bb_keys]; exact ndi
        refine ⟨_, rfl, D, es, rfl, .inl XZ.d, XZ.e.ky, _, _, rfl, rfl, (by constructor <;> decide), (n : Int), congrArg (fun z => [V.int z]) sm, by omega, by omega, ?_⟩
        refine for_it walk_range (fun g σ Y => ∃ (y2 y3 y4 y5 : Option V), σ = [some (.ref a), some (.ref D), y2, y3, y4, y5, none, none] ∧ Scn P w K H Y D es (bbE c) ∧ ∀ g' : Nat, g' < g → ((g' : Int), (0 : Int)) ∈ c.flatten ∧ ((g' : Int), (1 : Int)) ∈ c.flatten) ⟨y2, y3, y4, none, rfl, XZ, fun g' h => absurd h (Nat.not_lt_zero _)⟩ (fun _ _ _ _ _ => trivial) (fun g x σ Y Y' hi h hy => ?_) (fun σ Y h => ?_)
        · clear XZ
          obtain ⟨y2, y3, y4, y5, rfl, XY, ok⟩ := h
          obtain ⟨rfl, rfl⟩ := hy
          have h0 : (0 : Int) + (g : Int) = (g : Int) := Int.zero_add _
          rw [Int.toNat_natCast] at hi
          refine at_g (σ' := [some (.ref a), some (.ref D), y2, y3, y4, some (.int (g : Int)), none, none]) (by show [some (.ref a), some (.ref D), y2, y3, y4, some (.int (0 + (g : Int))), none, none] = _; rw [h0]) ?_
          refine ⟨_, rfl, (by show 2 ≤ sizeLine; decide), fun T1 nT1 => ?_⟩
          have X1 := XY.next (same_new nT1 (o := .tup [.int (g : Int), .int 0]))
          have a1 : Dp K (upd Y' T1 (.tup [.int (g : Int), .int 0])) (.ref T1) (enD ((g : Int), 0)) := en_new (e := ((g : Int), 0)) upd_same
          generalize upd Y' T1 (.tup [.int (g : Int), .int 0]) = Y1 at X1 a1
          refine ⟨_, rfl, D, _, rfl, ⟨es, _, T1, .inl X1.d, X1.e.ky, rfl, en_at a1, rfl⟩, _, rfl, ?_⟩
          have no : ∀ Z, Same H Z → ¬ (((g : Int), (0 : Int)) ∈ c.flatten ∧ ((g : Int), (1 : Int)) ∈ c.flatten) → Q (.bl false) Z := fun Z sZ hno => by
            refine bad ?_ Z sZ
            cases hm : mapB (.tuple ds) with
            | false => rfl
            | true =>
              have w0 := wfc hm
              rw [← hn] at w0
              exact absurd ⟨w0.mem.mpr ⟨g, hi, .inl rfl⟩, w0.mem.mpr ⟨g, hi, .inr rfl⟩⟩ hno
          rw [X1.at_ ndi]
          by_cases m0 : ((g : Int), (0 : Int)) ∈ c.flatten
          · rw [decide_eq_true m0]
            refine iteF ?_
            refine ⟨_, rfl, (by show 2 ≤ sizeLine; decide), fun T2 nT2 => ?_⟩
            have X2 := X1.next (same_new nT2 (o := .tup [.int (g : Int), .int 1]))
            have a2 : Dp K (upd Y1 T2 (.tup [.int (g : Int), .int 1])) (.ref T2) (enD ((g : Int), 1)) := en_new (e := ((g : Int), 1)) upd_same
            generalize upd Y1 T2 (.tup [.int (g : Int), .int 1]) = Y2 at X2 a2
            refine ⟨_, rfl, D, _, rfl, ⟨es, _, T2, .inl X2.d, X2.e.ky, rfl, en_at a2, rfl⟩, _, rfl, ?_⟩
            rw [X2.at_ ndi]
            by_cases m1 : ((g : Int), (1 : Int)) ∈ c.flatten
            · rw [decide_eq_true m1]
              refine iteF ⟨_, _, _, _, rfl, X2, fun g' h => ?_⟩
              by_cases z : g' = g
              · rw [z]; exact ⟨m0, m1⟩
              · exact ok g' (by omega)
            · rw [decide_eq_false m1]
              exact iteT (no _ X2.s fun z => m1 z.2)
          · rw [decide_eq_false m0]
            exact iteT (iteT (no _ X1.s fun z => m0 z.1))
        · clear XZ
          obtain ⟨y2, y3, y4, y5, rfl, XZ, ok⟩ := h
          rw [Int.toNat_natCast] at ok
          have wf : WfC n c := wf_by ndi l2 ok
          have ans : mapB (.tuple ds) = hgL c := by
            rw [ec, mapB_chT, wf_half wf, hg_eq wf cne, show permB c = true from permB_iff.mpr (by rw [wf_half wf]; exact wf), Bool.true_and]
          rw [ans] at q
          refine ⟨(by show 1 ≤ sizeLine; decide), fun L nL => ?_⟩
          have nLH : H L = none := XZ.s.free nL
          have hDL : D ≠ L := fun z => by have := XZ.d; rw [z, nL] at this; cases this
          have X1 := XZ.next (same_new nL (o := .lst [.int 0]))
          have eL : (upd Y L (.lst [.int 0])) L = some (.lst [.int 0]) := upd_same
          refine at_g (σ' := [some (.ref a), some (.ref D), y2, y3, y4, y5, some (.ref L), none]) rfl ?_
          generalize upd Y L (.lst [.int 0]) = Y1 at X1 eL
          refine ⟨_, rfl, a, xs, false, fun Y => SqB K false Y a xs, rfl, Same.sqB X1.s htB0, fun _ h => h, fun J3 wk3 => for_it wk3 (fun i σ Z => ∃ (y4 y7 : Option V), σ = [some (.ref a), some (.ref D), y2, y3, y4, y5, some (.ref L), y7] ∧ Scn P w K H Z D es (bbE c) ∧ Z L = some (.lst ((mtr c i [0]).map V.int))) ⟨y4, none, rfl, X1, eL⟩ (fun i σ Z _ h => ?_) (fun i x σ Z Z' hi h hy => ?_) (fun σ Z h => ?_)⟩
          · obtain ⟨y4, y7, rfl, XY, _⟩ := h
            exact Same.sqB XY.s htB0
          · clear X1 eL XZ
            obtain ⟨y4, y7, rfl, XZ, eL⟩ := h
            obtain ⟨rfl, hx3⟩ := hy
            refine at_g (σ' := [some (.ref a), some (.ref D), y2, y3, y4, y5, some (.ref L), some x]) rfl ?_
            generalize hf0 : mtr c i [0] = f0 at eL
            refine ⟨D, DNo P w D es, XZ.d, True.intro, fun od => ?_⟩
            have tdn := tp_dno (o := .frz od (DNo P w D es)) XZ.d
            have feF := XZ.e.move tdn RN.mono
            have sF : Same H (upd Z' D (.frz od (DNo P w D es))) := fun q o e => by rw [upd_ne (fun z => by rw [z, XZ.nD] at e; cases e)]; exact XZ.s _ _ e
            have eF : (upd Z' D (.frz od (DNo P w D es))) D = some (.frz od (DNo P w D es)) := upd_same
            have eLF : (upd Z' D (.frz od (DNo P w D es))) L = some (.lst (f0.map V.int)) := by rw [upd_ne hDL.symm]; exact eL
            generalize upd Z' D (.frz od (DNo P w D es)) = G0 at feF sF eF eLF
            refine ⟨_, rfl, D, od, es, rfl, eF, ?_⟩
            refine for_it walk_n (fun j σ G => ∃ (y4 : Option V), σ = [some (.ref a), some (.ref D), y2, y3, y4, y5, some (.ref L), some x] ∧ Same H G ∧ G D = some (.frz od (DNo P w D es)) ∧ EnE K G RN es (bbE c) ∧ G L = some (.lst (((c.flatten.take j).foldl (mst c) f0).map V.int))) ⟨y4, rfl, sF, eF, feF, eLF⟩ (fun j σ G _ h => ?_) (fun j u σ G G' hj h hy => ?_) (fun σ G h => ?_)
            · obtain ⟨y4, rfl, _, eF, _⟩ := h
              exact eF
            · clear sF eF feF eLF
              obtain ⟨y4, rfl, sF, eF, feF, eLF⟩ := h
              obtain ⟨rfl, e', he', rfl⟩ := hy
              obtain ⟨x2, hx2, k1, k2, k3⟩ := feF.d j e' he'
              obtain ⟨e, i0⟩ := x2
              obtain ⟨me, rfl, ge⟩ := bb_val ndi hx2
              have k2 : Dp K G' (.ref e'.2.1) (enD e) := k2
              have nK2 : ((bbE c).map (·.1)).Nodup := nK
              obtain ⟨_, v1, rfl⟩ := feF.get nK2 (whr_mem me)
              refine at_g (σ' := [some (.ref a), some (.ref D), y2, y3, some (.ref e'.2.1), y5, some (.ref L), some x]) rfl ?_
              generalize hf1 : (c.flatten.take j).foldl (mst c) f0 = f1 at eLF
              refine ⟨_, rfl, _, rfl, D, _, rfl, ⟨es, kyE e, _, .inr ⟨od, eF⟩, feF.ky, rfl, en_at k2, v1.symm⟩, _, rfl, L, _, rfl, .inl (SqL.of eLF), rfl, flat_ints _, ?_⟩
              refine ⟨_, rfl, ?_⟩
              show (if inV (V.int ((whr c e : Nat) : Int)) (f1.map V.int) = true then _ else _)
              rw [in_ints]
              have mo := wf.oth me
              by_cases m1 : wz c e ∈ f1
              · rw [show decide ((((whr c e : Nat) : Int)) ∈ f1) = true from decide_eq_true m1]
                refine iteT ?_
                refine ⟨_, rfl, _, rfl, _, e, rfl, k2, fun T1 nT1 => ?_⟩
                have a1 : Dp K (upd G' T1 (.tup [.int (oth e).1, .int (oth e).2])) (.ref T1) (enD (oth e)) := en_new upd_same
                have s4 := same_new nT1 (o := .tup [.int (oth e).1, .int (oth e).2])
                have k2' := Dp.same s4 _ k2
                have sF4 := sF.trans s4
                have eF4 := s4 _ _ eF
                have fe4 := feF.move (Tp.of s4) RN.mono
                have eL4 := s4 _ _ eLF
                generalize upd G' T1 (.tup [.int (oth e).1, .int (oth e).2]) = G4 at a1 sF4 eF4 fe4 eL4 k2'
                obtain ⟨_, v2, rfl⟩ := fe4.get nK2 (whr_mem mo)
                refine ⟨D, _, rfl, ⟨es, kyE (oth e), _, .inr ⟨od, eF4⟩, fe4.ky, rfl, en_at a1, v2.symm⟩, _, rfl, L, _, rfl, .inl (SqL.of eL4), rfl, flat_ints _, _, rfl, ?_⟩
                show (if (!inV (V.int ((whr c (oth e) : Nat) : Int)) (f1.map V.int)) = true then _ else _)
                rw [in_ints]
                by_cases m2 : wz c (oth e) ∈ f1
                · rw [show decide ((((whr c (oth e) : Nat) : Int)) ∈ f1) = true from decide_eq_true m2]
                  refine iteF ⟨_, rfl, sF4, eF4, fe4, ?_⟩
                  rw [take_snoc ge, List.foldl_append, hf1]
                  show G4 L = some (.lst ((mst c f1 e).map V.int))
                  rw [show mst c f1 e = f1 from if_neg fun z => z.2 m2]
                  exact eL4
                · rw [show decide ((((whr c (oth e) : Nat) : Int)) ∈ f1) = false from decide_eq_false m2]
                  refine iteT ?_
                  have flen : f1.length ≤ 18 := by
                    have := fd_len wf cne (fd_fold wf (c.flatten.take j) (mtr c i [0]) (fun e he => List.mem_of_mem_take he) (fd_turns wf i))
                    rw [hf0, hf1] at this
                    have := li.1
                    omega
                  refine ⟨_, rfl, .inl ⟨rfl, _, SqL.of eL4⟩, _, rfl, _, rfl, _, e, rfl, k2', fun T2 nT2 => ?_⟩
                  have a2 : Dp K (upd G4 T2 (.tup [.int (oth e).1, .int (oth e).2])) (.ref T2) (enD (oth e)) := en_new upd_same
                  have s5 := same_new nT2 (o := .tup [.int (oth e).1, .int (oth e).2])
                  have sF5 := sF4.trans s5
                  have eF5 := s5 _ _ eF4
                  have fe5 := fe4.move (Tp.of s5) RN.mono
                  have eL5 := s5 _ _ eL4
                  generalize upd G4 T2 (.tup [.int (oth e).1, .int (oth e).2]) = G5 at a2 sF5 eF5 fe5 eL5
                  obtain ⟨_, v3, rfl⟩ := fe5.get nK2 (whr_mem mo)
                  refine ⟨D, _, rfl, ⟨es, kyE (oth e), _, .inr ⟨od, eF5⟩, fe5.ky, rfl, en_at a2, v3.symm⟩, ?_⟩
                  refine ⟨L, _, .int ((whr c (oth e) : Nat) : Int), rfl, rfl, eL5, small2000 (by rw [List.length_map]; omega), ?_⟩
                  have tpL := Tp.upd (o := .lst (f1.map V.int ++ [.int ((whr c (oth e) : Nat) : Int)])) eL5
                  refine ⟨_, rfl, fun q o e => by rw [upd_ne (fun z => by rw [z, nLH] at e; cases e)]; exact sF5 _ _ e, by rw [upd_ne hDL]; exact eF5, fe5.move tpL RN.mono, ?_⟩
                  rw [take_snoc ge, List.foldl_append, hf1]
                  show (upd G5 L _) L = some (.lst ((mst c f1 e).map V.int))
                  rw [show mst c f1 e = f1 ++ [wz c (oth e)] from if_pos ⟨m1, m2⟩, upd_same, List.map_append]
                  rfl
              · rw [show decide ((((whr c e : Nat) : Int)) ∈ f1) = false from decide_eq_false m1]
                refine iteF (iteF ⟨_, rfl, sF, eF, feF, ?_⟩)
                rw [take_snoc ge, List.foldl_append, hf1]
                show G' L = some (.lst ((mst c f1 e).map V.int))
                rw [show mst c f1 e = f1 from if_neg fun z => m1 z.1]
                exact eLF
            · clear sF eF feF eLF
              obtain ⟨y4, rfl, sF, eF, feF, eLF⟩ := h
              have le2 : es.length = c.flatten.length := les
              rw [le2, List.take_length] at eLF
              have tdn2 : Tp G (upd G D (DNo P w D es)) := tp_at eF (fun _ z => HO.noConfusion z) fun _ _ z => by injection z with _ z; exact HO.noConfusion z
              refine ⟨eF, y4, some x, rfl, ⟨fun q o e => by rw [upd_ne (fun z => by rw [z, XZ.nD] at e; cases e)]; exact sF _ _ e, XZ.nD, upd_same, feF.move tdn2 RN.mono⟩, ?_⟩
              rw [upd_ne hDL.symm, eLF, ← hf0]
              rfl
          · clear X1 eL XZ
            obtain ⟨y4, y7, rfl, XZ, eL⟩ := h
            rw [lx, ← cl] at eL
            refine ⟨_, rfl, L, _, rfl, .inl (SqL.of eL), _, rfl, a, xs, rfl, .inr (Same.tup XZ.s hs), rfl, ?_⟩
            have ea : decide (V.int ((((mtr c c.length [0]).map V.int).length : Nat) : Int) = V.int ((xs.length : Nat) : Int)) = hgL c := by
              unfold hgL
              rw [List.length_map, lx, ← cl, decide_eq_decide]
              constructor
              · intro h
                injection h with h
                omega
              · intro h
                rw [h]
            show Q (V.bl (decide (V.int ((((mtr c c.length [0]).map V.int).length : Nat) : Int) = V.int ((xs.length : Nat) : Int)))) Z
            rw [ea]
            exact q _ XZ.s
end
end XL
namespace XL
open PySem PySem.Spec PyProof.Rows L2
section
variable {prog : Program} {w : World} {A : Around} {E : Value → Shared → Prop} {s : Shared}
theorem applied_rev2 {sl : Addr} {vs : Value} {Q : Int × Int × Nat → Shared → Prop} (hs : s.heap.IsSliceOf sl .none .none vs) (ps : IsPart vs (some (-1))) (h : Q (1, -1, 2) s) :
    wpAny (model prog w) A (Builtin.Slice.sliceApplied (.ref sl) (pure ((2 : Nat) : Int))) Q E s := by
  obtain ⟨os, hos, hcs, hds⟩ := id hs
  unfold Builtin.Slice.sliceApplied Builtin.Slice.sliceFields
  refine wpAny_bind (wpAny_bind (wpAny_field hos hds (x := .none) rfl (wpAny_bind (wpAny_field hos hds (x := .none) rfl (wpAny_bind (wpAny_field hos hds (x := vs) rfl (wpAny_pure ?_)))))))
  refine wpAny_bind (HT.slicePart_ ps ?_)
  show wpAny _ _ (if ((-1 : Int) == 0) = true then _ else _) _ _ s
  rw [if_neg (by decide)]
  refine wpAny_bind (HT.slicePart_ .none (wpAny_bind (HT.slicePart_ .none (wpAny_bind (wpAny_pure ?_)))))
  show wpAny _ _ (match Builtin.Slice.sliceAdjust none none (-1) ((2 : Nat) : Int) with | (lo, hi) => pure (lo, (-1 : Int), Builtin.Slice.slicePlaces lo hi (-1))) _ _ s
  have e : Builtin.Slice.sliceAdjust none none (-1) ((2 : Nat) : Int) = (1, -1) := by decide
  rw [e]
  have e2 : Builtin.Slice.slicePlaces 1 (-1) (-1) = 2 := by decide
  show wpAny _ _ (pure ((1 : Int), (-1 : Int), Builtin.Slice.slicePlaces 1 (-1) (-1))) _ _ s
  rw [e2]
  exact wpAny_pure h
theorem getItem_rev2 {t sl : Addr} {u1 u2 vs : Value} {Q : Value → Shared → Prop} (ht : IsTup s.heap t #[u1, u2]) (hs : s.heap.IsSliceOf sl .none .none vs) (ps : IsPart vs (some (-1)))
    (h : Q (.ref s.heap.objs.size) { s with heap := s.heap.push { cls := .type "tuple", data := .seq #[u2, u1] } }) : wpAny (model prog w) A (getItem (.ref t) (.ref sl)) Q E s := by
  have fits : sizeOk (.seq #[u2, u1]) := by show 2 ≤ sizeLine; decide
  obtain ⟨os, hos, hcs, hds⟩ := id hs
  have hTs : s.TypeIs (.ref sl) "slice" := ⟨os, hos, hcs⟩
  unfold getItem
  try with_reducible refine wpAny_holding ?_
  first | refine wpAny_bind (wpAny_pure ?_) | skip
  refine wpAny_bind (wpAny_sequenceKey ht.typeIs (by decide) ?_)
  refine wpAny_bind (wpAny_callSpecial?_slot (name := Str.ofString "__getitem__") ht.typeIs PyProof.Rows.slot_tuple_getitem (wpAny_call_entry PyProof.Rows.slot_tuple_getitem ht.typeIs entry_tuple_getitem ?_ (args_tuple_getitem _ _)))
  show wpAny _ _ (Builtin.Tuple.tupleItemsOf (.ref t) >>= _) _ _ s
  refine wpAny_bind (tupleItemsOf_ ht ?_)
  refine wpAny_bind (wpAny_typeOf hTs ?_)
  rw [if_pos (by decide)]
  refine wpAny_bind (applied_rev2 hs ps ?_)
  show wpAny _ _ (if ((1 : Int) == 0 && (-1 : Int) == 1 && (2 : Nat) == 2) = true then _ else _) _ _ s
  rw [if_neg (by decide)]
  have e : ((List.range 2).filterMap fun (m : Nat) => (#[u1, u2] : Array Value)[((1 : Int) + (m : Int) * (-1)).toNat]?).toArray = #[u2, u1] := by rfl
  rw [e]
  first
    | exact wpAny_bind (m := Builtin.Tuple.tupleExact _) (wpAny_newObj_type (wpAny_pure ⟨_, rfl, wpAny_pure h⟩) fits)
    | exact wpAny_bind (m := Builtin.Tuple.tupleExact _) (wpAny_newObj_type (wpAny_bind (wpAny_pure (wpAny_pure ⟨_, rfl, wpAny_pure h⟩))) fits)
    | exact wpAny_bind (wpAny_bind (m := Builtin.Tuple.tupleExact _) (wpAny_newObj_type (wpAny_pure (wpAny_pure ⟨_, rfl, wpAny_pure h⟩)) fits))
    | exact wpAny_bind (wpAny_bind (m := Builtin.Tuple.tupleExact _) (wpAny_newObj_type (wpAny_pure ⟨_, rfl, wpAny_pure h⟩) fits))
end
section
variable {X : Cx}
/-- t[::-1] of a pair -/
def tRev2 (K : PySem.W.Frag) (te : TE) : TE := fun σ H Q => te σ H fun x H1 => ∃ a y z, x = .ref a ∧ SqT K H1 a [y, z] ∧ ∀ p, H1 p = none → Q (.ref p) (upd H1 p (.tup [z, y]))
theorem pe_rev2 {e : Expr} {te : TE} {k : Nat} {p1 p2 p3 pos : Pos} (he : PE X e te) : PE X (.Subscript e (.Slice none none (some (.UnaryOp .USub (.Constant (.int 1) k p1) p2)) p3) pos) (tRev2 X.K te) := by
  refine ⟨fun pins s σ H Q I h => ?_⟩
  refine Subscript_ (thn (he.run pins s σ H _ I h) fun v s1 ⟨x, H1, I1, r1, q1⟩ => ?_)
  obtain ⟨a, y, z, ex, hx, q⟩ := q1
  subst ex
  cases r1
  have hst : PO X (some (.UnaryOp .USub (.Constant (.int 1) k p1) p2)) (tPart (tUn (rU fun i => .int (-i)) (tC (.int 1)))) := po_some (pe_un un_neg pe_int)
  refine wpAny_Slice (thn (po_none.run pins s1 σ H1 (fun o H2 => o = none ∧ H2 = H1) I1 ⟨rfl, rfl⟩) fun vl s2 ⟨l, H2, I2, pl, el, e2⟩ => ?_)
  subst el e2
  refine thn (po_none.run pins s2 σ H2 (fun o H3 => o = none ∧ H3 = H2) I2 ⟨rfl, rfl⟩) fun vu s3 ⟨u, H3, I3, pu, eu, e3⟩ => ?_
  subst eu e3
  refine thn (hst.run pins s3 σ H3 (fun o H4 => o = some (-1) ∧ H4 = H3) I3 ⟨1, rfl, -1, rfl, rfl, rfl⟩) fun vs s4 ⟨o, H4, I4, ps, eo, e4⟩ => ?_
  subst eo e4
  cases pl
  cases pu
  have I5 : Inv X pins σ H4 { s4 with heap := s4.heap.push { cls := .type "slice", data := .fields #[.none, .none, vs] } } := I4.kept (t' := s4.toks) fun b ob q => Heap.get?_push_of_some _ q
  obtain ⟨its, r, ht, hz⟩ := I5.tuple hx
  obtain ⟨w1, w2, rfl, q1, q2⟩ := vals2 r
  show wpAny (model X.prog X.w) X.A (subscriptTail e (.Slice none none (some (.UnaryOp .USub (.Constant (.int 1) k p1) p2)) p3) (.ref a) (.ref s4.heap.objs.size)) (EP X pins σ Q) X.xe { s4 with heap := s4.heap.push { cls := .type "slice", data := .fields #[.none, .none, vs] } }
  refine tail_any (ops := [.ref a, .ref s4.heap.objs.size]) ht.typeIs (PyProof.Rows.slot_tuple_getitem.lookup) ?_ (by with_unfolding_all rfl)
  refine getItem_rev2 (u1 := w1) (u2 := w2) ht (Heap.IsSliceOf.new _ .none .none vs) ps ?_
  refine ⟨.ref _, _, I5.laid (t' := s4.toks) (o := .tup [z, y]) (fun b ob q => Heap.get?_push_of_some _ q) (Nat.le_refl _) ?_, rfl, q _ (I5.hok.fresh (Nat.le_refl _))⟩
  exact ⟨by show 2 ≤ sizeLine; decide, [w2, w1], .cons q2 (.cons q1 .nil), IsTup.new _ _⟩
/-- xs[i], for xs[i] op= e -/
def rGetL (K : PySem.W.Frag) : V → V → Hp → VK → Prop := fun o y H Q => ∃ p xs i v, o = .ref p ∧ y = .int i ∧ SqL K H p xs ∧ 0 ≤ i ∧ xs[i.toNat]? = some v ∧ Q v H
theorem get_list : PGet X (rGetL X.K) := by
  intro pins s σ H o y ov iv Q I ro ry h
  obtain ⟨p, xs, i, v, rfl, rfl, hq, h0, he, q⟩ := h
  cases ro
  obtain ⟨t, rfl⟩ := ry
  obtain ⟨its, r, pl, hz⟩ := I.list hq
  obtain ⟨u, eu, ru⟩ := r.get he
  have hl : i.toNat < xs.length := (List.getElem?_eq_some_iff.mp he).1
  have hn := line63
  exact wpAny_getItem_list pl.isList h0 (by omega) (by simpa using eu) ⟨v, H, I, ru, q⟩
end
end XL
namespace XL
open PySem PySem.Spec PyProof.Rows L2
/-! ### t[::-1] of a tuple of any length; slices of tuples, the whole too -/
section
variable {prog : Program} {w : World} {A : Around} {E : Value → Shared → Prop} {s : Shared}
theorem adj_rev (n : Nat) : Builtin.Slice.sliceAdjust none none (-1) ((n : Nat) : Int) = ((n : Int) - 1, -1) := rfl
theorem places_rev (n : Nat) : Builtin.Slice.slicePlaces ((n : Int) - 1) (-1) (-1) = n := by
  unfold Builtin.Slice.slicePlaces
  rw [if_neg (show ¬ ((-1 : Int) > 0) by decide)]
  by_cases h : n = 0
  · subst h; rfl
  · rw [if_pos (by omega)]
    have e : ((n : Int) - 1 - -1 - 1) / (- -1) = (n : Int) - 1 := by
      rw [show (- -1 : Int) = 1 from rfl, Int.ediv_one]
      omega
    rw [e]
    omega
theorem applied_revT {sl : Addr} {vs : Value} {n : Nat} {Q : Int × Int × Nat → Shared → Prop} (hs : s.heap.IsSliceOf sl .none .none vs) (ps : IsPart vs (some (-1))) (h : Q ((n : Int) - 1, -1, n) s) :
    wpAny (model prog w) A (Builtin.Slice.sliceApplied (.ref sl) (pure ((n : Nat) : Int))) Q E s := by
  obtain ⟨os, hos, hcs, hds⟩ := id hs
  unfold Builtin.Slice.sliceApplied Builtin.Slice.sliceFields
  refine wpAny_bind (wpAny_bind (wpAny_field hos hds (x := .none) rfl (wpAny_bind (wpAny_field hos hds (x := .none) rfl (wpAny_bind (wpAny_field hos hds (x := vs) rfl (wpAny_pure ?_)))))))
  refine wpAny_bind (HT.slicePart_ ps ?_)
  show wpAny _ _ (if ((-1 : Int) == 0) = true then _ else _) _ _ s
  rw [if_neg (by decide)]
  refine wpAny_bind (HT.slicePart_ .none (wpAny_bind (HT.slicePart_ .none (wpAny_bind (wpAny_pure ?_)))))
  show wpAny _ _ (match Builtin.Slice.sliceAdjust none none (-1) ((n : Nat) : Int) with | (lo, hi) => pure (lo, (-1 : Int), Builtin.Slice.slicePlaces lo hi (-1))) _ _ s
  rw [adj_rev]
  show wpAny _ _ (pure (((n : Int) - 1), (-1 : Int), Builtin.Slice.slicePlaces ((n : Int) - 1) (-1) (-1))) _ _ s
  rw [places_rev]
  exact wpAny_pure h
theorem pick_rev (its : List Value) : ((List.range its.length).filterMap fun (m : Nat) => (its.toArray : Array Value)[(((its.length : Int) - 1) + (m : Int) * (-1)).toNat]?).toArray = its.reverse.toArray := by
  congr 1
  have e : ∀ k : Nat, k ≤ its.length → ((List.range k).filterMap fun (m : Nat) => (its.toArray : Array Value)[(((its.length : Int) - 1) + (m : Int) * (-1)).toNat]?) = its.reverse.take k := by
    intro k
    induction k with
    | zero => intro _; rfl
    | succ k ih =>
      intro hk
      rw [List.range_succ, List.filterMap_append, ih (by omega), List.take_succ]
      congr 1
      have i1 : (((its.length : Int) - 1) + (k : Int) * (-1)).toNat = its.length - 1 - k := by omega
      have g : its.reverse[k]? = its[its.length - 1 - k]? := List.getElem?_reverse (by omega)
      have g2 : its[its.length - 1 - k]? = some (its[its.length - 1 - k]'(by omega)) := List.getElem?_eq_getElem _
      rw [List.filterMap_cons, i1, List.getElem?_toArray, g, g2]
      rfl
  rw [e its.length (Nat.le_refl _), List.take_of_length_le (by rw [List.length_reverse]; exact Nat.le_refl _)]
theorem getItem_revT {t sl : Addr} {its : List Value} {vs : Value} {Q : Value → Shared → Prop} (ht : IsTup s.heap t its.toArray) (hs : s.heap.IsSliceOf sl .none .none vs) (ps : IsPart vs (some (-1))) (hz : its.length ≤ sizeLine)
    (h : Q (.ref s.heap.objs.size) { s with heap := s.heap.push { cls := .type "tuple", data := .seq its.reverse.toArray } }) : wpAny (model prog w) A (getItem (.ref t) (.ref sl)) Q E s := by
  have fits : sizeOk (.seq its.reverse.toArray) := by show its.reverse.toArray.size ≤ sizeLine; rw [List.size_toArray, List.length_reverse]; exact hz
  obtain ⟨os, hos, hcs, hds⟩ := id hs
  have hTs : s.TypeIs (.ref sl) "slice" := ⟨os, hos, hcs⟩
  unfold getItem
  try with_reducible refine wpAny_holding ?_
  first | refine wpAny_bind (wpAny_pure ?_) | skip
  refine wpAny_bind (wpAny_sequenceKey ht.typeIs (by decide) ?_)
  refine wpAny_bind (wpAny_callSpecial?_slot (name := Str.ofString "__getitem__") ht.typeIs PyProof.Rows.slot_tuple_getitem (wpAny_call_entry PyProof.Rows.slot_tuple_getitem ht.typeIs entry_tuple_getitem ?_ (args_tuple_getitem _ _)))
  show wpAny _ _ (Builtin.Tuple.tupleItemsOf (.ref t) >>= _) _ _ s
  refine wpAny_bind (tupleItemsOf_ ht ?_)
  refine wpAny_bind (wpAny_typeOf hTs ?_)
  rw [if_pos (by decide)]
  rw [List.size_toArray]
  refine wpAny_bind (applied_revT hs ps ?_)
  show wpAny _ _ (if (((its.length : Int) - 1) == 0 && (-1 : Int) == 1 && its.length == its.toArray.size) = true then _ else _) _ _ s
  rw [if_neg (by rw [show ((-1 : Int) == 1) = false from rfl, Bool.and_false, Bool.false_and]; exact Bool.false_ne_true)]
  rw [pick_rev]
  first
    | exact wpAny_bind (m := Builtin.Tuple.tupleExact _) (wpAny_newObj_type (wpAny_pure ⟨_, rfl, wpAny_pure h⟩) fits)
    | exact wpAny_bind (m := Builtin.Tuple.tupleExact _) (wpAny_newObj_type (wpAny_bind (wpAny_pure (wpAny_pure ⟨_, rfl, wpAny_pure h⟩))) fits)
    | exact wpAny_bind (wpAny_bind (m := Builtin.Tuple.tupleExact _) (wpAny_newObj_type (wpAny_pure (wpAny_pure ⟨_, rfl, wpAny_pure h⟩)) fits))
    | exact wpAny_bind (wpAny_bind (m := Builtin.Tuple.tupleExact _) (wpAny_newObj_type (wpAny_pure ⟨_, rfl, wpAny_pure h⟩) fits))
end
section
variable {X : Cx}
def tRevT (K : PySem.W.Frag) (te : TE) : TE := fun σ H Q => te σ H fun x H1 => ∃ a xs, x = .ref a ∧ SqT K H1 a xs ∧ ∀ p, H1 p = none → Q (.ref p) (upd H1 p (.tup xs.reverse))
theorem pe_revT {e : Expr} {te : TE} {k : Nat} {p1 p2 p3 pos : Pos} (he : PE X e te) : PE X (.Subscript e (.Slice none none (some (.UnaryOp .USub (.Constant (.int 1) k p1) p2)) p3) pos) (tRevT X.K te) := by
  refine ⟨fun pins s σ H Q I h => ?_⟩
  refine Subscript_ (thn (he.run pins s σ H _ I h) fun v s1 ⟨x, H1, I1, r1, q1⟩ => ?_)
  obtain ⟨a, xs, ex, hx, q⟩ := q1
  subst ex
  cases r1
  have hst : PO X (some (.UnaryOp .USub (.Constant (.int 1) k p1) p2)) (tPart (tUn (rU fun i => .int (-i)) (tC (.int 1)))) := po_some (pe_un un_neg pe_int)
  refine wpAny_Slice (thn (po_none.run pins s1 σ H1 (fun o H2 => o = none ∧ H2 = H1) I1 ⟨rfl, rfl⟩) fun vl s2 ⟨l, H2, I2, pl, el, e2⟩ => ?_)
  subst el e2
  refine thn (po_none.run pins s2 σ H2 (fun o H3 => o = none ∧ H3 = H2) I2 ⟨rfl, rfl⟩) fun vu s3 ⟨u, H3, I3, pu, eu, e3⟩ => ?_
  subst eu e3
  refine thn (hst.run pins s3 σ H3 (fun o H4 => o = some (-1) ∧ H4 = H3) I3 ⟨1, rfl, -1, rfl, rfl, rfl⟩) fun vs s4 ⟨o, H4, I4, ps, eo, e4⟩ => ?_
  subst eo e4
  cases pl
  cases pu
  have I5 : Inv X pins σ H4 { s4 with heap := s4.heap.push { cls := .type "slice", data := .fields #[.none, .none, vs] } } := I4.kept (t' := s4.toks) fun b ob q => Heap.get?_push_of_some _ q
  obtain ⟨its, r, ht, hz⟩ := I5.tuple hx
  have hl := r.length
  show wpAny (model X.prog X.w) X.A (subscriptTail e (.Slice none none (some (.UnaryOp .USub (.Constant (.int 1) k p1) p2)) p3) (.ref a) (.ref s4.heap.objs.size)) (EP X pins σ Q) X.xe { s4 with heap := s4.heap.push { cls := .type "slice", data := .fields #[.none, .none, vs] } }
  refine tail_any (ops := [.ref a, .ref s4.heap.objs.size]) ht.typeIs (PyProof.Rows.slot_tuple_getitem.lookup) ?_ (by with_unfolding_all rfl)
  refine getItem_revT ht (Heap.IsSliceOf.new _ .none .none vs) ps (by omega) ?_
  refine ⟨.ref _, _, I5.laid (t' := s4.toks) (o := .tup xs.reverse) (fun b ob q => Heap.get?_push_of_some _ q) (Nat.le_refl _) ?_, rfl, q _ (I5.hok.fresh (Nat.le_refl _))⟩
  exact ⟨by rw [List.length_reverse]; omega, its.reverse, r.reverse, IsTup.new _ _⟩
/-- a slice of a tuple: where it stands is not said -/
def rSlU (K : PySem.W.Frag) : V → Option Int → Option Int → Hp → VK → Prop := fun x lo hi H Q => ∃ a xs, x = .ref a ∧ SqT K H a xs ∧ ∀ p H', Same H H' → SqT K H' p (cutV xs lo hi) → Q (.ref p) H'
theorem sl_tupU : SlR X (rSlU X.K) := by
  intro pins s σ H x v vl vu lo hi sl Q I rx hs pl pu h
  obtain ⟨a, xs, rfl, hx, q⟩ := h
  refine sl_tupA pins s σ H _ v vl vu lo hi sl Q I rx hs pl pu ⟨a, xs, rfl, hx, fun hw => q a H (Same.refl _) ?_, fun _ p np => q p _ (same_new np) (.inl (.inl upd_same))⟩
  unfold cutV
  rw [hw.1, hw.2, List.drop_zero, Nat.sub_zero, List.take_of_length_le (Nat.le_refl _)]
  exact hx
end
end XL
namespace XL
open PySem PySem.Spec PyProof.Rows L2
/-! ### xs[a:c] = ys, c past the end too -/
theorem cut_bounds {a c n : Nat} (ha : a ≤ n) (hac : a ≤ c) : sliceBounds (some (a : Int)) (some (c : Int)) none n = ((a : Int), ((min c n : Nat) : Int), 1) := by
  have neg : ∀ k : Nat, ¬ ((k : Int) < 0) := fun k => by omega
  unfold sliceBounds
  simp only [Option.getD_none, neg, if_false, show (1 : Int) > 0 from by decide, if_true]
  refine Prod.ext ?_ (Prod.ext ?_ rfl)
  · show max (0 : Int) (min (a : Int) (n : Int)) = (a : Int)
    omega
  · show max (0 : Int) (min (c : Int) (n : Int)) = ((min c n : Nat) : Int)
    omega
section
variable {prog : Program} {w : World} {A : Around} {E : Value → Shared → Prop} {s : Shared}
theorem put_cut {l b sl : Addr} {old new : List Value} {n n2 : Nat} {vl vu : Value} {a c : Nat} {Q : Unit → Shared → Prop}
    (e : s.heap.get? l = some { cls := .type "list", data := .seq old.toArray n }) (e2 : s.heap.get? b = some { cls := .type "list", data := .seq new.toArray n2 }) (ne : l ≠ b)
    (hs : s.heap.IsSliceOf sl vl vu .none) (pl : IsPart vl (some (a : Int))) (pu : IsPart vu (some (c : Int))) (hac : a ≤ c) (ha : a ≤ old.length) (hsz : old.length + new.length ≤ sizeLine)
    (h : Q () { s with heap := s.heap.update l (Obj.mapSeq fun xs => xs.extract 0 a ++ new.toArray ++ xs.extract (min c old.length) xs.size) }) : wpAny (model prog w) A (setItem (.ref l) (.ref sl) (.ref b)) Q E s := by
  have hl : s.heap.IsList l old.toArray := PySem.IsL.isList e
  have hb : s.heap.IsList b new.toArray := PySem.IsL.isList e2
  obtain ⟨os, hos, hcs, hds⟩ := id hs
  have hT : s.TypeIs (.ref sl) "slice" := ⟨os, hos, hcs⟩
  have other : Builtin.List.listSameRef (.ref l) (.ref b) = false := by unfold Builtin.List.listSameRef; exact beq_eq_false_iff_ne.mpr ne
  have end_ : (max (a : Int) ((min c old.length : Nat) : Int)).toNat = min c old.length := by omega
  have fits : ((fun xs : Array Value => xs.extract 0 a ++ new.toArray ++ xs.extract (min c old.length) xs.size) old.toArray).size ≤ sizeLine + 1 := by
    simp only [Array.size_append, Array.size_extract, List.size_toArray]
    omega
  have bds : sliceIndices (rawPart (some (a : Int))) (rawPart (some (c : Int))) (rawPart none) old.toArray.size = pure ((a : Int), ((min c old.length : Nat) : Int), (1 : Int)) := by
    rw [sliceIndices_raw _ _ _ _ (by simp), List.size_toArray, cut_bounds ha hac]
  unfold setItem
  try with_reducible refine wpAny_holding ?_
  first | refine wpAny_bind (wpAny_pure ?_) | skip
  refine wpAny_bind (wpAny_sequenceKey hl.typeIs (by decide) (wpAny_bind (wpAny_callSpecial?_slot (name := Str.ofString "__setitem__") hl.typeIs slot_list_setitem (wpAny_call_entry slot_list_setitem hl.typeIs entry_list_setitem ?_ (args_list_setitem _ _ _)))))
  show wpAny _ _ (Builtin.List.listSubscript? (.ref sl) >>= _) _ _ s
  unfold Builtin.List.listSubscript?
  refine wpAny_bind (wpAny_bind (wpAny_specialOf hT slice_no_index ?_))
  simp only [Option.isNone_none, if_true]
  refine wpAny_pure (wpAny_bind (wpAny_typeOf hT ?_))
  first
    | refine PySem.W.KFB.if_not (by decide) ?_
    | rw [if_neg (by decide)]
  rw [listSliceParts_eq]
  refine wpAny_bind (wpAny_bind (wpAny_field hos hds (x := .none) rfl (wpAny_bind (wpAny_listPart .none ?_))))
  rw [if_neg (show ¬ ((rawPart none == rawInt 0) = true) from Bool.false_ne_true)]
  refine wpAny_bind (wpAny_field hos hds (x := vl) rfl (wpAny_bind (wpAny_listPart pl (wpAny_bind (wpAny_field hos hds (x := vu) rfl (wpAny_bind (wpAny_listPart pu (wpAny_pure ?_))))))))
  first
    | refine PySem.W.KFB.if_not other ?_
    | (dsimp only; rw [if_neg (by rw [other]; exact Bool.false_ne_true)])
  refine wpAny_bind (m := Builtin.List.listAllItems (.ref b) "must assign iterable to extended slice") ?_
  unfold Builtin.List.listAllItems
  refine wpAny_bind (wpAny_typeOf hb.typeIs ?_)
  first
    | refine PySem.W.KFB.if_so (by decide) ?_
    | rw [if_pos (by decide)]
  unfold Builtin.List.listItems
  refine wpAny_bind (wpAny_seqItems e2 rfl (wpAny_pure (wpAny_bind (wpAny_bind (wpAny_seqItems e rfl (wpAny_pure (wpAny_bind (wpAny_of_eq bds ?_))))))))
  show wpAny _ _ (if ((1 : Int) == 1) = true then _ else _) _ _ s
  rw [if_pos (by decide)]
  refine wpAny_bind (wpAny_rule ?_)
  have short : Builtin.List.listTooLong (old.toArray.size + new.toArray.size) = false := notLongL (by rw [List.size_toArray, List.size_toArray]; exact hsz)
  first
    | refine PySem.W.KFB.if_not short ?_
    | simp only [short, Bool.false_eq_true, if_false]
  first | refine wpAny_bind (wpAny_pure ?_) | skip
  show wpAny _ _ (updateSeq l (fun xs => xs.extract 0 ((a : Int)).toNat ++ new.toArray ++ xs.extract (max (a : Int) ((min c old.length : Nat) : Int)).toNat xs.size) >>= _) _ _ s
  rw [end_, Int.toNat_natCast]
  refine wpAny_bind (wpAny_updateSeq (hz := by rw [List.size_toArray]; omega) (_hz' := fits) e rfl (wpAny_bind (wpAny_letGo ?_)))
  first
    | exact wpAny_pure ⟨.none, rfl, wpAny_pure h⟩
    | exact wpAny_bind (wpAny_pure (wpAny_pure ⟨.none, rfl, wpAny_pure h⟩))
end
section
variable {X : Cx}
theorem set_cut {pins : List (Addr × Obj)} {s : Shared} {σ : L2.St} {H : Hp} {l b sl : Addr} {xs ys : List V} {a c : Nat} {vl vu : Value} {Q : Unit → Shared → Prop} (I : Inv X pins σ H s)
    (hH : H l = some (.lst xs)) (hB : H b = some (.lst ys)) (ne : l ≠ b) (hs : s.heap.IsSliceOf sl vl vu .none) (pl : IsPart vl (some (a : Int))) (pu : IsPart vu (some (c : Int))) (hac : a ≤ c) (ha : a ≤ xs.length)
    (hz : xs.length + ys.length ≤ sizeLine) (h : ∀ s', Inv X pins σ (upd H l (.lst (xs.take a ++ ys ++ xs.drop c))) s' → Q () s') : wpAny (model X.prog X.w) X.A (setItem (.ref l) (.ref sl) (.ref b)) Q X.xe s := by
  obtain ⟨z, its, n, r, hl, e⟩ := I.lstM hH
  obtain ⟨z2, its2, n2, r2, hl2, e2⟩ := I.lstM hB
  refine put_cut (a := a) (c := c) e e2 ne hs pl pu hac (by omega) (by omega) (h _ ?_)
  refine I.lset (its' := its.take a ++ its2 ++ its.drop (min c its.length)) (t' := s.toks) hH e (splice_eq its its2 a _) ?_ ?_
  · refine Vals.append (Vals.append (r.take _) r2) ?_
    have ed : xs.drop c = xs.drop (min c its.length) := by
      by_cases q : c ≤ its.length
      · rw [Nat.min_eq_left q]
      · rw [Nat.min_eq_right (by omega), List.drop_of_length_le (by omega), List.drop_of_length_le (by omega)]
    rw [ed]
    exact r.drop _
  · rw [List.length_append, List.length_append, List.length_take, List.length_drop]
    omega
/-- o[a:c] = v -/
def gCut (to : TE) (tl th : TO) : TG := fun v σ H Q => to σ H fun o H1 => tl σ H1 fun lo H2 => th σ H2 fun hi H3 => ∃ (l b : Addr) (xs ys : List V) (a c : Nat), o = .ref l ∧ v = .ref b ∧ lo = some (a : Int) ∧ hi = some (c : Int) ∧ H3 l = some (.lst xs) ∧ H3 b = some (.lst ys) ∧ l ≠ b ∧ a ≤ c ∧ a ≤ xs.length ∧ xs.length + ys.length ≤ sizeLine ∧ Q σ (upd H3 l (.lst (xs.take a ++ ys ++ xs.drop c)))
theorem pg_cut {o : Expr} {lo hi : Option Expr} {to : TE} {tl th : TO} {p2 pos : Pos} (ho : PE X o to) (hl : PO X lo tl) (hh : PO X hi th)
    (ha : ∀ v, assign (.Subscript o (.Slice lo hi none p2) pos) X.env v = (do
      let ov ← holding [v] (eval o X.env)
      let iv ← holding [v, ov] (eval (.Slice lo hi none p2) X.env)
      standAt pos
      holding [v, ov, iv] (setItem ov iv v)
      release [iv, v, ov] []) := by intro _; rfl) : PG X (.Subscript o (.Slice lo hi none p2) pos) (gCut to tl th) := by
  refine ⟨fun pins s σ H v u Q I r h => ?_⟩
  rw [ha]
  refine wpAny_bind (wpAny_holding (thn (ho.run pins s σ H _ I h) fun ov s1 ⟨x, H1, I1, r1, q1⟩ => ?_))
  refine wpAny_bind (wpAny_holding (wpAny_Slice (thn (hl.run pins s1 σ H1 _ I1 q1) fun vl s2 ⟨l0, H2, I2, pl, q2⟩ => thn (hh.run pins s2 σ H2 _ I2 q2) fun vu s3 ⟨u0, H3, I3, pu, q3⟩ => ?_)))
  rw [evalPart_none]
  refine wpAny_pure ?_
  obtain ⟨l, b, xs, ys, a, c, rfl, rfl, rfl, rfl, hl1, hb1, ne, hac, hax, hz, q⟩ := q3
  cases r1
  cases r
  have I4 : Inv X pins σ H3 { s3 with heap := s3.heap.push { cls := .type "slice", data := .fields #[vl, vu, .none] } } := I3.kept (t' := s3.toks) fun b ob q => Heap.get?_push_of_some _ q
  refine wpAny_bind (wpAny_standAt (wpAny_bind (wpAny_holding (set_cut I4 hl1 hb1 ne (Heap.IsSliceOf.new ..) pl pu hac hax hz fun s' I' => ?_))))
  exact wpAny_release ⟨σ, _, I', q⟩
end
end XL
namespace XL
open PySem PySem.Spec PyProof.Rows L2
/-! ### list + list, whatever lists -/
def rCatL (K : PySem.W.Frag) : R2 := fun x y H Q => ∃ l b xs zs, x = .ref l ∧ y = .ref b ∧ SqL K H l xs ∧ SqL K H b zs ∧ xs.length + zs.length ≤ sizeLine ∧ ∀ p, H p = none → Q (.ref p) (upd H p (.lst (xs ++ zs)))
theorem op_catL {X : Cx} : OpR X (binaryOp .Add) (rCatL X.K) := by
  intro pins s σ H x y v u Q I rx ry h
  obtain ⟨l, b, xs, zs, rfl, rfl, h1, h2, hz, q⟩ := h
  cases rx
  cases ry
  obtain ⟨its, r, ⟨⟨c1, dd, data, sl⟩, n, e, hc, hd, hs⟩, z⟩ := I.list h1
  obtain ⟨its2, r2, ⟨⟨c2, dd2, data2, sl2⟩, n2, e2, hc2, hd2, hs2⟩, z2⟩ := I.list h2
  have l1 := r.length
  have l2 := r2.length
  dsimp only at hc hd hs hc2 hd2 hs2
  subst hc hd hs hc2 hd2 hs2
  have ea : its.toArray ++ its2.toArray = (its ++ its2).toArray := by simp
  refine concat_meets ⟨_, e, rfl⟩ ⟨_, e2, rfl⟩ noFill_list_add seq_list_add PySem.F.slot_list_add PySem.F.entry_list_add (PySem.F.args_list_add_2 _ _) (list_addW l b its.toArray its2.toArray n n2 none none sl sl2 (by rw [List.size_toArray, List.size_toArray]; omega)) ⟨e, e2, ?_⟩
  rw [ea]
  exact ⟨.ref _, _, I.lnew (t' := s.toks) (r.append r2) (by rw [List.length_append]; omega), rfl, q _ I.fresh⟩
end XL
namespace XL
open PySem PySem.Spec PyProof.Rows L2
/-! ### True + 1, 0 - True, str(True) -/
def bI (b : Bool) : Int := if b = true then 1 else 0
section
variable {X : Cx}
theorem op_add_bi : OpR X (binaryOp .Add) (fun x y H Q => ∃ b j, x = .bl b ∧ y = .int j ∧ Q (.int (bI b + j)) H) := by
  intro pins s σ H x y v u Q I rx ry h
  obtain ⟨b, j, rfl, rfl, q⟩ := h
  cases rx
  obtain ⟨t, rfl⟩ := ry
  exact PySem.IntBool.add_bool_int ⟨.int (bI b + j), H, I.tok _, ⟨_, rfl⟩, q⟩
theorem op_sub_ib : OpR X (binaryOp .Sub) (fun x y H Q => ∃ i b, x = .int i ∧ y = .bl b ∧ Q (.int (i - bI b)) H) := by
  intro pins s σ H x y v u Q I rx ry h
  obtain ⟨i, b, rfl, rfl, q⟩ := h
  obtain ⟨t, rfl⟩ := rx
  cases ry
  exact PySem.IntBool.sub_int_bool ⟨.int (i - bI b), H, I.tok _, ⟨_, rfl⟩, q⟩
def strB (b : Bool) : Str := if b = true then "True" else "False"
theorem call_str_bl : CallR X (.type "str") (fun xs H Q => ∃ b, xs = [.bl b] ∧ Q (.str (strB b)) H) := by
  intro pins s σ H xs us Q I r h
  obtain ⟨b, rfl, q⟩ := h
  obtain ⟨u, rfl, r1⟩ := vals1 r
  cases r1
  exact PySem.P.str_of_bool ⟨.str (strB b), H, I.tok _, ⟨_, rfl⟩, q⟩
end
end XL
namespace XL
open PySem PySem.Spec PyProof.Rows L2
/-! ### data apart from the box -/
theorem same_del {b : Addr} {H H' : Hp} (s : Same H H') : Same (delH H b) (delH H' b) := fun a o e => by
  by_cases h : a = b
  · rw [h, delH_same] at e; cases e
  · rw [delH_ne h] at e ⊢; exact s a o e
theorem Dr.del {b : Addr} {H H' : Hp} (d : Dr b H H') : Same (delH H b) (delH H' b) := fun a o e => by
  by_cases h : a = b
  · rw [h, delH_same] at e; cases e
  · rw [delH_ne h] at e ⊢; exact d.same a o h e
theorem del_same {b : Addr} {H : Hp} : Same (delH H b) H := fun a o e => by
  by_cases h : a = b
  · rw [h, delH_same] at e; cases e
  · rw [delH_ne h] at e; exact e
theorem del_at {b a : Addr} {H : Hp} {o : HO} (h : a ≠ b) (e : H a = some o) : delH H b a = some o := by rw [delH_ne h]; exact e
theorem dp_lst {K : PySem.W.Frag} {b a : Addr} {H : Hp} {xs : List V} {ds : List PyData} (h : a ≠ b) (e : H a = some (.lst xs)) (d : DpAll K (delH H b) xs ds) : Dp K (delH H b) (.ref a) (.list ds) := .lst (SqL.of (del_at h e)) d
theorem dp_tup {K : PySem.W.Frag} {b a : Addr} {H : Hp} {xs : List V} {ds : List PyData} (h : a ≠ b) (e : H a = some (.tup xs)) (d : DpAll K (delH H b) xs ds) : Dp K (delH H b) (.ref a) (.tuple ds) := .tup (.inl (.inl (del_at h e))) d
/-- a tuple isn't the box -/
theorem dp_tupS {K : PySem.W.Frag} {b a : Addr} {H : Hp} {xs : List V} {ds : List PyData} (h : Bx H b) (e : SqT K H a xs) (d : DpAll K (delH H b) xs ds) : Dp K (delH H b) (.ref a) (.tuple ds) := .tup ((tp_del h).sqT e) d
def rCatU (K : PySem.W.Frag) : R2 := fun x y H Q => ∃ a b xs ys, x = .ref a ∧ y = .ref b ∧ SqT K H a xs ∧ SqT K H b ys ∧ xs.length + ys.length ≤ sizeLine ∧ ∀ p H', Same H H' → SqT K H' p (xs ++ ys) → Q (.ref p) H'
theorem op_catU {X : Cx} : OpR X (binaryOp .Add) (rCatU X.K) := by
  intro pins s σ H x y v u Q I rx ry h
  obtain ⟨a, b, xs, ys, e1, e2, ha, hb, hz, q⟩ := h
  refine op_catA pins s σ H x y v u Q I rx ry ⟨a, b, xs, ys, e1, e2, ha, hb, hz, fun e => ?_, fun _ e => ?_, fun _ _ p np => ?_⟩
  · subst e; exact q b H (Same.refl _) hb
  · subst e; exact q a H (Same.refl _) (by rw [List.append_nil]; exact ha)
  · exact q p _ (same_new np) (.inl (.inl upd_same))
/-! ### bounds -/
theorem lenD_mono {N N' : Nat} (hN : N ≤ N') : ∀ {D D' : Nat} {d : PyData}, D ≤ D' → lenD N D d → lenD N' D' d
  | 0, _, .list _, _, h => h.elim
  | 0, _, .tuple _, _, h => h.elim
  | D + 1, 0, _, hD, _ => absurd hD (by omega)
  | D + 1, D' + 1, .list ds, hD, h => ⟨Nat.le_trans h.1 hN, fun d hd => lenD_mono hN (by omega) (h.2 d hd)⟩
  | D + 1, D' + 1, .tuple ds, hD, h => ⟨Nat.le_trans h.1 hN, fun d hd => lenD_mono hN (by omega) (h.2 d hd)⟩
  | D, D', .dict _, _, h => by cases D <;> exact h.elim
  | D, D', .str x, _, h => by cases D <;> cases D' <;> exact h
  | D, D', .int _, _, _ => by cases D' <;> trivial
  | D, D', .bool _, _, _ => by cases D' <;> trivial
  | D, D', .none, _, _ => by cases D' <;> trivial
structure SzD (m w N D : Nat) (d : PyData) : Prop where
  g : Gd m d
  w : d.weight ≤ w
  l : lenD N D d
theorem SzD.up {m m' w w' N N' D D' : Nat} {d : PyData} (s : SzD m w N D d) (h1 : m ≤ m') (h2 : w ≤ w') (h3 : N ≤ N') (h4 : D ≤ D') : SzD m' w' N' D' d := ⟨Gd.mono h1 _ s.g, Nat.le_trans s.w h2, lenD_mono h3 h4 s.l⟩
theorem sz_int {m : Nat} {i : Int} (h : i.natAbs ≤ m) (hm : m ≤ 10 ^ 32) (N D : Nat) : SzD m 200 N D (.int i) := by
  refine ⟨h, ?_, by cases D <;> trivial⟩
  show (if i == 0 then 0 else i.natAbs.log2 + 1) ≤ 200
  have := log_lt (Nat.le_trans h hm)
  split <;> omega
theorem sz_bool {m : Nat} (b : Bool) (w N D : Nat) : SzD m w N D (.bool b) := ⟨trivial, Nat.zero_le _, by cases D <;> trivial⟩
theorem int_cps (i : Int) : ∀ c ∈ (Str.ofString (toString i)).cps.toList, c < 4294967296 ∧ c < 1114112 := by
  rw [PySem.Str.ofString_eq_toList]
  intro c hc
  have hc' : c ∈ (toString i).toList.map Char.toNat := hc
  obtain ⟨ch, _, rfl⟩ := List.mem_map.mp hc'
  refine ⟨ch.val.toNat_lt, ?_⟩
  rcases ch.valid with h | h
  · exact Nat.lt_trans h (by decide)
  · exact h.2
theorem sz_str {m : Nat} {i : Int} (h : i.natAbs ≤ m) (hm : m ≤ 10 ^ 32) (N D : Nat) : SzD m 200 N D (.str (Str.ofString (toString i))) := by
  refine ⟨?_, ?_, ?_⟩
  · show (Str.ofString (toString i)).cps.toList.all (fun c => decide (c < 16 ^ 8)) = true
    rw [List.all_eq_true]
    intro c hc
    exact decide_eq_true (Nat.lt_of_lt_of_le (int_cps i c hc).1 (by decide))
  · show (Str.ofString (toString i)).length ≤ 200
    have := short_int (Nat.le_trans h hm)
    have e : (PyData.shown (.int i)).length = (Str.ofString (toString i)).length := rfl
    omega
  · have e : PyData.strOk (Str.ofString (toString i)) = true := by
      unfold PyData.strOk
      rw [Array.all_eq_true']
      intro c hc
      exact decide_eq_true (int_cps i c (Array.mem_toList_iff.mpr hc)).2
    cases D <;> exact e
theorem szs_weight {m w N D : Nat} : ∀ {ds : List PyData}, (∀ d ∈ ds, SzD m w N D d) → Gds m ds := fun h => Gds_iff.mpr fun d hd => (h d hd).g
theorem depth_w (ds : List PyData) : PyData.weight (.tuple ds) = PyData.weightAll ds ∧ PyData.weight (.list ds) = PyData.weightAll ds := ⟨rfl, rfl⟩
theorem weight_rev : ∀ ds : List PyData, PyData.weightAll ds.reverse = PyData.weightAll ds
  | [] => rfl
  | d :: ds => by
    rw [List.reverse_cons, weightAll_app, weight_rev ds]
    simp only [PyData.weightAll]
    omega
theorem weight_drop (ds : List PyData) (k : Nat) : PyData.weightAll (ds.drop k) ≤ PyData.weightAll ds ∧ PyData.weightAll (ds.take k) ≤ PyData.weightAll ds := by
  have e := congrArg PyData.weightAll (List.take_append_drop k ds)
  rw [weightAll_app] at e
  omega
theorem dp_rev {K : PySem.W.Frag} {H : Hp} : ∀ {xs : List V} {ds : List PyData}, DpAll K H xs ds → DpAll K H xs.reverse ds.reverse
  | _, _, .nil => .nil
  | _, _, .cons a r => by
    rw [List.reverse_cons, List.reverse_cons]
    exact DpAll.app (dp_rev r) (.cons a .nil)
theorem dp_take {K : PySem.W.Frag} {H : Hp} : ∀ {xs : List V} {ds : List PyData} (j : Nat), DpAll K H xs ds → DpAll K H (xs.take j) (ds.take j)
  | _, _, 0, _ => by rw [List.take_zero, List.take_zero]; exact .nil
  | _, _, j + 1, .nil => .nil
  | _, _, j + 1, .cons a r => .cons a (dp_take j r)
theorem dp_drop {K : PySem.W.Frag} {H : Hp} : ∀ {xs : List V} {ds : List PyData} (j : Nat), DpAll K H xs ds → DpAll K H (xs.drop j) (ds.drop j)
  | _, _, 0, h => h
  | _, _, j + 1, .nil => .nil
  | _, _, j + 1, .cons a r => dp_drop j r
/-- rows out of a row -/
theorem sz_seq {m w w' N N' D D' : Nat} {d : PyData} {ds : List PyData} (hq : isSeq d = true) (sz : SzD m w N D d) (sub : ∀ e ∈ ds, e ∈ itemsD d) (len : ds.length ≤ N') (hw : PyData.weightAll ds ≤ w') (hN : N ≤ N') (hD : D ≤ D') : SzD m w' N' D' (.tuple ds) ∧ SzD m w' N' D' (.list ds) := by
  have hg : Gds m (itemsD d) := by
    cases d with
    | tuple es => exact sz.g
    | list es => exact sz.g
    | _ => cases hq
  have g : Gds m ds := Gds_iff.mpr fun e he => Gds_iff.mp hg e (sub e he)
  obtain ⟨D1, eD, el⟩ : ∃ D1, D' = D1 + 1 ∧ ∀ e ∈ itemsD d, lenD N' D1 e := by
    have h := lenD_mono hN hD sz.l
    cases d with
    | tuple es =>
      cases D' with
      | zero => exact h.elim
      | succ D1 => exact ⟨D1, rfl, h.2⟩
    | list es =>
      cases D' with
      | zero => exact h.elim
      | succ D1 => exact ⟨D1, rfl, h.2⟩
    | _ => cases hq
  subst eD
  exact ⟨⟨g, hw, len, fun e he => el e (sub e he)⟩, ⟨g, hw, len, fun e he => el e (sub e he)⟩⟩
theorem seq_w {d : PyData} (hq : isSeq d = true) : PyData.weightAll (itemsD d) = d.weight := by
  cases d with
  | tuple es => rfl
  | list es => rfl
  | _ => cases hq
theorem cut_to (xs : List V) (j : Nat) : cutV xs none (some (j : Int)) = xs.take j := by
  unfold cutV
  rw [HT.sIx_none, HT.sIx_nat, List.drop_zero, Nat.sub_zero]
  rcases Nat.le_total j xs.length with h | h
  · rw [Nat.min_eq_left h]
  · rw [Nat.min_eq_right h, List.take_of_length_le (Nat.le_refl _), List.take_of_length_le h]
theorem cut_from (xs : List V) (j : Nat) : cutV xs (some (j : Int)) none = xs.drop j := by
  unfold cutV
  rw [HT.sIx_none, HT.sIx_nat]
  rcases Nat.le_total j xs.length with h | h
  · rw [Nat.min_eq_left h, List.take_of_length_le (by rw [List.length_drop]; omega)]
  · rw [Nat.min_eq_right h, List.drop_of_length_le (Nat.le_refl _), List.drop_of_length_le h, List.take_nil]
end XL
namespace XL
open PySem PySem.Spec PyProof.Rows L2
abbrev sOd : Stmt := topS 32
theorem pe_alt {X : Cx} {e : Expr} {t t' : TE} (h : PE X e t) (h' : PE X e t') : PE X e (fun σ H Q => t σ H Q ∨ t' σ H Q) := ⟨fun pins s σ H Q I q => q.elim (h.run pins s σ H Q I) (h'.run pins s σ H Q I)⟩
section
variable {P : Program} {w : World} {K : PySem.W.Frag} {mg : Str → Option Value} {base : Heap}
abbrev nOd : List Str := ["_law_box_here", "_law_made", "_law_some"]
theorem scOd : FnScope nOd ["_law_box_here", "_law_made"] (defScope sOd) := ⟨rfl, rfl, rfl, by decide +kernel, rfl, by decide +kernel, by decide +kernel⟩
/-- one drawn from this thing: a thing near it -/
def spOd (K : PySem.W.Frag) : Sp := fun vs H Q _ => ∃ (b : Addr) (v : V) (d : PyData) (m N D : Nat), vs = [.ref b, v] ∧ Bx H b ∧ Dp K (delH H b) v d ∧ SzD m 20000 N D d ∧ 2 ≤ N ∧ N ≤ 100 ∧ D ≤ 50 ∧ m ≤ 10 ^ 20 ∧
  ∀ v' d' H', Dr b H H' → Dp K (delH H' b) v' d' → SzD (m + 10 ^ 13) (2 * d.weight + 300) (N + 1) (D + 2) d' → Q v' H'
/-- a list under way, each thing in it near enough -/
structure Lst (K : PySem.W.Frag) (b : Addr) (H Z : Hp) (l : Addr) (xs : List V) (ds : List PyData) (m w N D : Nat) : Prop where
  dr : Dr b H Z
  e : Z l = some (.lst xs)
  nb : l ≠ b
  d : DpAll K (delH Z b) xs ds
  ok : ∀ d ∈ ds, SzD m w N D d
def odd0 : List PyData := [.none, .bool true, .bool false, .int 0, .int 1, .int (-1), .int 2, .str "", .str "a", .tuple [], .list [], .tuple [.int 0], .tuple [.int 0, .int 0], .tuple [.tuple [.int 0, .int 0]], .tuple [.tuple [], .tuple []], .list [.tuple [.int 0, .int 0]]]
theorem odd0_ok : ∀ d ∈ odd0, SzD 10 100 2 2 d := by
  intro d hd
  have key : ∀ d ∈ odd0, d.weight ≤ 100 := by decide +kernel
  refine ⟨?_, key d hd, ?_⟩
  · simp only [odd0, List.mem_cons, List.not_mem_nil, or_false] at hd
    rcases hd with rfl | rfl | rfl | rfl | rfl | rfl | rfl | rfl | rfl | rfl | rfl | rfl | rfl | rfl | rfl | rfl <;> first | exact trivial | (simp only [Gd, Gds]; decide)
  · simp only [odd0, List.mem_cons, List.not_mem_nil, or_false] at hd
    rcases hd with rfl | rfl | rfl | rfl | rfl | rfl | rfl | rfl | rfl | rfl | rfl | rfl | rfl | rfl | rfl | rfl <;> first | exact trivial | (show PyData.strOk _ = true; decide +kernel) | simp [lenD]
theorem mk_tup {b p : Addr} {Z : Hp} {xs : List V} {ds : List PyData} (hb : Bx Z b) (np : Z p = none) (h : DpAll K (delH Z b) xs ds) : Same Z (upd Z p (.tup xs)) ∧ Bx (upd Z p (.tup xs)) b ∧ Dp K (delH (upd Z p (.tup xs)) b) (.ref p) (.tuple ds) :=
  ⟨same_new np, (Dr.new hb np).box, dp_tup (bx_ne hb np) upd_same (DpAll.same (same_del (same_new np)) _ h)⟩
theorem mk_lst {b p : Addr} {Z : Hp} {xs : List V} {ds : List PyData} (hb : Bx Z b) (np : Z p = none) (h : DpAll K (delH Z b) xs ds) : Same Z (upd Z p (.lst xs)) ∧ Bx (upd Z p (.lst xs)) b ∧ Dp K (delH (upd Z p (.lst xs)) b) (.ref p) (.list ds) :=
  ⟨same_new np, (Dr.new hb np).box, dp_lst (bx_ne hb np) upd_same (DpAll.same (same_del (same_new np)) _ h)⟩
theorem Lst.next {b l : Addr} {H Z Z' : Hp} {xs : List V} {ds : List PyData} {m w N D : Nat} (h : Lst K b H Z l xs ds m w N D) (s : Same Z Z') : Lst K b H Z' l xs ds m w N D := ⟨h.dr.trans (Dr.of h.dr.box s), s _ _ h.e, h.nb, DpAll.same (same_del s) _ h.d, h.ok⟩
theorem Lst.go {b l : Addr} {H Z : Hp} {xs : List V} {ds : List PyData} {m w N D : Nat} {Q : VK} {E : XK} (h : Lst K b H Z l xs ds m w N D) (ne : xs ≠ []) (len : xs.length < 1000) (q : ∀ v' d' H', Dr b H H' → Dp K (delH H' b) v' d' → SzD m w N D d' → Q v' H') : spOf K [.ref b, .ref l] Z Q E := by
  refine ⟨b, l, xs, rfl, h.dr.box, h.nb, SqL.of h.e, ne, len, fun j v' H' hv dr => ?_⟩
  obtain ⟨d', hd', dv⟩ := DpAll.get h.d hv
  exact q v' d' H' (h.dr.trans dr) (Dp.same dr.del _ dv) (h.ok d' (List.mem_of_getElem? hd'))
/-- a list put behind it, twice over -/
theorem Lst.twice {b l p : Addr} {H Z Z1 : Hp} {xs ys : List V} {ds es : List PyData} {m w N D : Nat} (h : Lst K b H Z l xs ds m w N D) (s : Same Z Z1) (hy : DpAll K (delH Z1 b) ys es) (ok : ∀ d ∈ es, SzD m w N D d) (np : Z1 p = none) :
    Lst K b H (upd Z1 p (.lst (xs ++ (List.replicate (Int.toNat 2) ys).flatten))) p (xs ++ (List.replicate (Int.toNat 2) ys).flatten) (ds ++ (es ++ es)) m w N D := by
  have d1 := h.dr.trans (Dr.of h.dr.box s)
  have e2 : (List.replicate (Int.toNat 2) ys).flatten = ys ++ ys := by
    show (List.replicate 2 ys).flatten = ys ++ ys
    simp [List.replicate]
  refine ⟨d1.trans (Dr.new d1.box np), upd_same, bx_ne d1.box np, ?_, fun d hd => ?_⟩
  · rw [e2]
    have s2 := same_del (b := b) (same_new (o := .lst (xs ++ (ys ++ ys))) np)
    exact DpAll.same s2 _ (DpAll.app (DpAll.same (same_del s) _ h.d) (DpAll.app hy hy))
  · rcases List.mem_append.mp hd with hd | hd
    · exact h.ok d hd
    · rcases List.mem_append.mp hd with hd | hd
      · exact ok d hd
      · exact ok d hd
theorem sz_strB (c : Bool) {m w N D : Nat} (hw : 300 ≤ w) : SzD m w N D (.str (strB c)) := by
  have k1 : ∀ c : Bool, (strB c).cps.toList.all (fun c => decide (c < 16 ^ 8)) = true := by decide +kernel
  have k2 : ∀ c : Bool, (strB c).length ≤ 300 := by decide +kernel
  have k3 : ∀ c : Bool, PyData.strOk (strB c) = true := by decide +kernel
  exact ⟨k1 c, Nat.le_trans (k2 c) hw, by cases D <;> exact k3 c⟩
theorem ok_od {f fo : Addr} {fd fdo : FuncData} {k : Nat} (F : Fun K "_law_odd" "_law_odd" sOd f fd) (Of : Fns P w K mg base k "_law_of" ["_law_box_here", "_law_some"] (spOf K) fo fdo) (m_isinstance : mg "isinstance" = none) (m_int : mg "int" = none) (m_str : mg "str" = none) (m_list : mg "list" = none) (m_tuple : mg "tuple" = none) : FnOk P w K mg base CX0 (k + 1) f fd ["_law_box_here", "_law_made"] (spOd K) := by
  refine F.ok scOd (fun vs H Q E h => ?_) (fun cdv A outer s0 H vs Q E hr h => ?_)
  · obtain ⟨b, v, d, m, N, D, rfl, _⟩ := h
    rfl
  obtain ⟨b, v, d, m, N, D, rfl, hb, hd, sz, hN, hN2, hD, hm, q⟩ := h
  refine ⟨_, (pss_cons (ps_set (i := 2) scOd.nd rfl (.inl rfl) (pe_lst (pa_cons pe_non (pa_cons pe_bl (pa_cons pe_bl (pa_cons pe_int (pa_cons pe_int (pa_cons (pe_un un_neg pe_int) (pa_cons pe_int (pa_cons pe_str (pa_cons pe_str (pa_cons (pe_tup pa_nil) (pa_cons (pe_lst pa_nil) (pa_cons (pe_tup (pa_cons pe_int pa_nil)) (pa_cons (pe_tup (pa_cons pe_int (pa_cons pe_int pa_nil))) (pa_cons (pe_tup (pa_cons (pe_tup (pa_cons pe_int (pa_cons pe_int pa_nil))) pa_nil)) (pa_cons (pe_tup (pa_cons (pe_tup pa_nil) (pa_cons (pe_tup pa_nil) pa_nil))) (pa_cons (pe_lst (pa_cons (pe_tup (pa_cons pe_int (pa_cons pe_int pa_nil))) pa_nil)) pa_nil))))))))))))))))))
    (pss_cons (ps_if (pt_val (pe_callB (r := rIsD K "int" intB) (call_isD kit_intB) rfl m_isinstance boot_isinstance (pa_cons (pv 1) (pa_cons (pe_bltn (v := .ty "int") rfl m_int boot_int' rfl) pa_nil)))) (pss_one (ps_set (i := 2) scOd.nd rfl (.inl rfl) (pe_op op_cat (pv 2) (pe_op op_rep (pe_lst (pa_cons (pe_op (op_add.or op_add_bi) (pv 1) pe_int) (pa_cons (pe_op (op_sub.or op_sub_ib) pe_int (pv 1)) (pa_cons (pe_cmpR (op_eqD hr.units) (pv 1) pe_int (nomark _)) (pa_cons (pe_callTy (call_str_int.or call_str_bl) rfl m_str boot_str' (pa_cons (pv 1) pa_nil)) (pa_cons (pe_op (op_add.or op_add_bi) (pv 1) (pe_op op_pow pe_int pe_int)) pa_nil)))))) pe_int)))) pss_nil)
    (pss_cons (ps_if (pt_val (pe_callB call_isiT rfl m_isinstance boot_isinstance (pa_cons (pv 1) (pa_cons (pe_tup (pa_cons (pe_bltn (v := .ty "list") rfl m_list boot_list rfl) (pa_cons (pe_bltn (v := .ty "tuple") rfl m_tuple boot_tuple rfl) pa_nil))) pa_nil)))) (pss_one (ps_set (i := 2) scOd.nd rfl (.inl rfl) (pe_op op_cat (pv 2) (pe_op op_rep (pe_lst (pa_cons (pe_callTy (r := rLstA K) call_listA rfl m_list boot_list (pa_cons (pv 1) pa_nil)) (pa_cons (pe_alt (pe_revL (pv 1)) (pe_revT (pv 1))) (pa_cons (pe_slice (SlR.or sl_list sl_tupU) (pv 1) (po_some pe_int) po_none) (pa_cons (pe_op (op_catL.or op_catU) (pv 1) (pe_slice (SlR.or sl_list sl_tupU) (pv 1) po_none (po_some pe_int))) pa_nil))))) pe_int)))) pss_nil)
    (pss_one (ps_ret (pe_fn Of hr rfl (pa_cons (pv 0) (pa_cons (pv 2) pa_nil)))))))), ?_⟩
  refine ⟨_, rfl, (by show 0 ≤ sizeLine; decide), fun p1 n1 => ?_⟩
  obtain ⟨u1, hb1, e1⟩ := mk_tup (K := K) hb n1 .nil
  generalize upd H p1 (.tup []) = Z1 at u1 hb1 e1
  have t1 := u1
  refine ⟨(by show 0 ≤ sizeLine; decide), fun p2 n2 => ?_⟩
  obtain ⟨u2, hb2, e2⟩ := mk_lst (K := K) hb1 n2 .nil
  generalize upd Z1 p2 (.lst []) = Z2 at u2 hb2 e2
  replace e1 := Dp.same (same_del u2) _ e1
  have t2 := t1.trans u2
  refine ⟨(by show 1 ≤ sizeLine; decide), fun p3 n3 => ?_⟩
  obtain ⟨u3, hb3, e3⟩ := mk_tup (K := K) hb2 n3 (.cons (.int 0) .nil)
  generalize upd Z2 p3 (.tup [.int 0]) = Z3 at u3 hb3 e3
  replace e1 := Dp.same (same_del u3) _ e1
  replace e2 := Dp.same (same_del u3) _ e2
  have t3 := t2.trans u3
  refine ⟨(by show 2 ≤ sizeLine; decide), fun p4 n4 => ?_⟩
  obtain ⟨u4, hb4, e4⟩ := mk_tup (K := K) hb3 n4 (.cons (.int 0) (.cons (.int 0) .nil))
  generalize upd Z3 p4 (.tup [.int 0, .int 0]) = Z4 at u4 hb4 e4
  replace e1 := Dp.same (same_del u4) _ e1
  replace e2 := Dp.same (same_del u4) _ e2
  replace e3 := Dp.same (same_del u4) _ e3
  have t4 := t3.trans u4
  refine ⟨(by show 2 ≤ sizeLine; decide), fun p5 n5 => ?_⟩
  obtain ⟨u5, hb5, e5⟩ := mk_tup (K := K) hb4 n5 (.cons (.int 0) (.cons (.int 0) .nil))
  generalize upd Z4 p5 (.tup [.int 0, .int 0]) = Z5 at u5 hb5 e5
  replace e1 := Dp.same (same_del u5) _ e1
  replace e2 := Dp.same (same_del u5) _ e2
  replace e3 := Dp.same (same_del u5) _ e3
  replace e4 := Dp.same (same_del u5) _ e4
  have t5 := t4.trans u5
  refine ⟨(by show 1 ≤ sizeLine; decide), fun p6 n6 => ?_⟩
  obtain ⟨u6, hb6, e6⟩ := mk_tup (K := K) hb5 n6 (.cons e5 .nil)
  generalize upd Z5 p6 (.tup [.ref p5]) = Z6 at u6 hb6 e6
  replace e1 := Dp.same (same_del u6) _ e1
  replace e2 := Dp.same (same_del u6) _ e2
  replace e3 := Dp.same (same_del u6) _ e3
  replace e4 := Dp.same (same_del u6) _ e4
  have t6 := t5.trans u6
  refine ⟨(by show 0 ≤ sizeLine; decide), fun p7 n7 => ?_⟩
  obtain ⟨u7, hb7, e7⟩ := mk_tup (K := K) hb6 n7 .nil
  generalize upd Z6 p7 (.tup []) = Z7 at u7 hb7 e7
  replace e1 := Dp.same (same_del u7) _ e1
  replace e2 := Dp.same (same_del u7) _ e2
  replace e3 := Dp.same (same_del u7) _ e3
  replace e4 := Dp.same (same_del u7) _ e4
  replace e6 := Dp.same (same_del u7) _ e6
  have t7 := t6.trans u7
  refine ⟨(by show 0 ≤ sizeLine; decide), fun p8 n8 => ?_⟩
  obtain ⟨u8, hb8, e8⟩ := mk_tup (K := K) hb7 n8 .nil
  generalize upd Z7 p8 (.tup []) = Z8 at u8 hb8 e8
  replace e1 := Dp.same (same_del u8) _ e1
  replace e2 := Dp.same (same_del u8) _ e2
  replace e3 := Dp.same (same_del u8) _ e3
  replace e4 := Dp.same (same_del u8) _ e4
  replace e6 := Dp.same (same_del u8) _ e6
  replace e7 := Dp.same (same_del u8) _ e7
  have t8 := t7.trans u8
  refine ⟨(by show 2 ≤ sizeLine; decide), fun p9 n9 => ?_⟩
  obtain ⟨u9, hb9, e9⟩ := mk_tup (K := K) hb8 n9 (.cons e7 (.cons e8 .nil))
  generalize upd Z8 p9 (.tup [.ref p7, .ref p8]) = Z9 at u9 hb9 e9
  replace e1 := Dp.same (same_del u9) _ e1
  replace e2 := Dp.same (same_del u9) _ e2
  replace e3 := Dp.same (same_del u9) _ e3
  replace e4 := Dp.same (same_del u9) _ e4
  replace e6 := Dp.same (same_del u9) _ e6
  have t9 := t8.trans u9
  refine ⟨(by show 2 ≤ sizeLine; decide), fun p10 n10 => ?_⟩
  obtain ⟨u10, hb10, e10⟩ := mk_tup (K := K) hb9 n10 (.cons (.int 0) (.cons (.int 0) .nil))
  generalize upd Z9 p10 (.tup [.int 0, .int 0]) = Z10 at u10 hb10 e10
  replace e1 := Dp.same (same_del u10) _ e1
  replace e2 := Dp.same (same_del u10) _ e2
  replace e3 := Dp.same (same_del u10) _ e3
  replace e4 := Dp.same (same_del u10) _ e4
  replace e6 := Dp.same (same_del u10) _ e6
  replace e9 := Dp.same (same_del u10) _ e9
  have t10 := t9.trans u10
  refine ⟨(by show 1 ≤ sizeLine; decide), fun p11 n11 => ?_⟩
  obtain ⟨u11, hb11, e11⟩ := mk_lst (K := K) hb10 n11 (.cons e10 .nil)
  generalize upd Z10 p11 (.lst [.ref p10]) = Z11 at u11 hb11 e11
  replace e1 := Dp.same (same_del u11) _ e1
  replace e2 := Dp.same (same_del u11) _ e2
  replace e3 := Dp.same (same_del u11) _ e3
  replace e4 := Dp.same (same_del u11) _ e4
  replace e6 := Dp.same (same_del u11) _ e6
  replace e9 := Dp.same (same_del u11) _ e9
  have t11 := t10.trans u11
  refine ⟨(by show 16 ≤ sizeLine; decide), fun l0 nl => ?_⟩
  have xs0e : ∃ xs0 : List V, xs0 = [.non, .bl true, .bl false, .int 0, .int 1, .int (-1), .int 2, .str "", .str "a", .ref p1, .ref p2, .ref p3, .ref p4, .ref p6, .ref p9, .ref p11] := ⟨_, rfl⟩
  obtain ⟨xs0, hx0⟩ := xs0e
  have all0 : DpAll K (delH Z11 b) xs0 odd0 := by
    rw [hx0]
    exact .cons .non (.cons (.bl _) (.cons (.bl _) (.cons (.int _) (.cons (.int _) (.cons (.int _) (.cons (.int _) (.cons (.str _) (.cons (.str _) (.cons e1 (.cons e2 (.cons e3 (.cons e4 (.cons e6 (.cons e9 (.cons e11 .nil)))))))))))))))
  have lx0 : xs0.length = 16 := by rw [hx0]; rfl
  refine at_g (σ' := [some (.ref b), some v, some (.ref l0)]) rfl ?_
  rw [← hx0]
  have L0 : Lst K b H (upd Z11 l0 (.lst xs0)) l0 xs0 odd0 (m + 10 ^ 13) (2 * d.weight + 300) (N + 1) (D + 2) := by
    have d11 := Dr.of hb t11
    refine ⟨d11.trans (Dr.new d11.box nl), upd_same, bx_ne d11.box nl, DpAll.same (same_del (same_new nl)) _ all0, fun e he => (odd0_ok e he).up (by omega) (by omega) (by omega) (by omega)⟩
  generalize upd Z11 l0 (.lst xs0) = Z0 at L0
  have hd0 : Dp K (delH Z0 b) v d := Dp.same L0.dr.del _ hd
  have hv0 : Dp K Z0 v d := Dp.same del_same _ hd0
  clear all0 nl e1 e2 e3 e4 e6 e9 e11 t1 t2 t3 t4 t5 t6 t7 t8 t9 t10 t11 u1 u2 u3 u4 u5 u6 u7 u8 u9 u10 u11 hb1 hb2 hb3 hb4 hb5 hb6 hb7 hb8 hb9 hb10 hb11
  refine ⟨_, rfl, v, d, rfl, hv0, _, rfl, ?_⟩
  cases hsq : isSeq d with
  | true =>
    have hi : intB d = false := by cases d <;> first | rfl | cases hsq
    rw [hi]
    refine iteF ?_
    refine ⟨_, rfl, (by show 2 ≤ sizeLine; decide), fun tp np => ?_⟩
    have sT := same_new np (o := .tup [.ty "list", .ty "tuple"])
    have eTp : (upd Z0 tp (.tup [.ty "list", .ty "tuple"])) tp = some (.tup [.ty "list", .ty "tuple"]) := upd_same
    have L1 := L0.next sT
    have hd1 := Dp.same (same_del (b := b) sT) _ hd0
    generalize upd Z0 tp (.tup [.ty "list", .ty "tuple"]) = Z1 at L1 hd1 eTp
    have hv1 : Dp K Z1 v d := Dp.same del_same _ hd1
    refine ⟨v, tp, _, tyD d, _, isSeq d, rfl, eTp, .cons (.ty _) (.cons (.ty _) .nil), tyx_of hv1, seq_kit d (Dp.nodict hd), isSeq d, rfl, ?_⟩
    rw [hsq]
    refine iteT ?_
    cases d with
    | list ds =>
      have sub0 : ∀ e ∈ ds, e ∈ itemsD (.list ds) := fun e he => he
      have hw0 : PyData.weightAll ds = PyData.weight (.list ds) := rfl
      have len0 : ds.length ≤ N := (lenD_lst sz.l).1
      cases hd1 with
      | lst hs ha =>
      rename_i a xs
      have lx := DpAll.length ha
      have nbL := L1.dr.box
      have hs1 : SqL K Z1 a xs := del_same.seq hs
      refine ⟨_, rfl, _, rfl, a, xs, rfl, .inl hs1, fun l1 n1 => ?_⟩
      obtain ⟨u1, hb1, e1⟩ := mk_lst (K := K) nbL n1 ha
      have ha1 := DpAll.same (same_del (b := b) u1) _ ha
      have hs2 := u1.seq hs1
      generalize upd Z1 l1 (.lst xs) = Y1 at u1 hb1 e1 ha1 hs2
      refine .inl ⟨_, rfl, a, xs, rfl, hs2, fun l2 n2 => ?_⟩
      obtain ⟨u2, hb2, e2⟩ := mk_lst (K := K) hb1 n2 (dp_rev ha1)
      have ha2 := DpAll.same (same_del (b := b) u2) _ ha1
      have hs3 := u2.seq hs2
      replace e1 := Dp.same (same_del u2) _ e1
      generalize upd Y1 l2 (.lst xs.reverse) = Y2 at u2 hb2 e2 ha2 hs3 e1
      refine ⟨_, rfl, 1, rfl, .inl ⟨a, xs, rfl, hs3, fun l3 n3 => ?_⟩⟩
      rw [show cutV xs (some 1) none = xs.drop 1 from cut_from xs 1]
      obtain ⟨u3, hb3, e3⟩ := mk_lst (K := K) hb2 n3 (dp_drop 1 ha2)
      have ha3 := DpAll.same (same_del (b := b) u3) _ ha2
      have hs4 := u3.seq hs3
      generalize upd Y2 l3 (.lst (xs.drop 1)) = Y3 at u3 hb3 e3 ha3 hs4
      replace e1 := Dp.same (same_del u3) _ e1
      replace e2 := Dp.same (same_del u3) _ e2
      refine ⟨_, rfl, _, rfl, 1, rfl, .inl ⟨a, xs, rfl, hs4, fun l4 n4 => ?_⟩⟩
      rw [show cutV xs none (some 1) = xs.take 1 from cut_to xs 1]
      have u4 := same_new n4 (o := .lst (xs.take 1))
      have ha4 := DpAll.same (same_del (b := b) u4) _ ha3
      refine .inl ⟨a, l4, xs, xs.take 1, rfl, rfl, u4.seq hs4, SqL.of upd_same, (by rw [List.length_take, sizeLine_eq]; omega), fun l5 n5 => ?_⟩
      have hb4 := (Dr.of hb3 u4).box
      obtain ⟨u5, hb5, e5⟩ := mk_lst (K := K) hb4 n5 (DpAll.app ha4 (dp_take 1 ha4))
      have u45 := u4.trans u5
      generalize upd (upd Y3 l4 (.lst (xs.take 1))) l5 (.lst (xs ++ xs.take 1)) = Y5 at u45 hb5 e5
      clear u4 u5 n5 n4
      replace e1 := Dp.same (same_del u45) _ e1
      replace e2 := Dp.same (same_del u45) _ e2
      replace e3 := Dp.same (same_del u45) _ e3
      have uA := u1.trans (u2.trans (u3.trans u45))
      refine ⟨(by show 4 ≤ sizeLine; decide), fun l6 n6 => ?_⟩
      have u6 := same_new n6 (o := .lst [.ref l1, .ref l2, .ref l3, .ref l5])
      have el6 : (upd Y5 l6 (.lst [.ref l1, .ref l2, .ref l3, .ref l5])) l6 = some (.lst [.ref l1, .ref l2, .ref l3, .ref l5]) := upd_same
      refine ⟨l6, 2, _, rfl, rfl, el6, by decide, by decide, (by show 4 * 2 ≤ sizeLine; decide), fun l7 n7 => ?_⟩
      have u7 := same_new n7 (o := .lst (List.replicate (Int.toNat 2) [V.ref l1, .ref l2, .ref l3, .ref l5]).flatten)
      have u67 := u6.trans u7
      have L2 := L1.next (uA.trans u67)
      refine ⟨l0, l7, xs0, _, rfl, rfl, L2.e, upd_same, (by rw [lx0]; show 16 + 8 ≤ sizeLine; decide), fun l8 n8 => ?_⟩
      refine at_g (σ' := [some (.ref b), some (.ref a), some (.ref l8)]) rfl ?_
      have all4 : DpAll K (delH (upd (upd Y5 l6 (.lst [.ref l1, .ref l2, .ref l3, .ref l5])) l7 (.lst (List.replicate (Int.toNat 2) [V.ref l1, .ref l2, .ref l3, .ref l5]).flatten)) b) [.ref l1, .ref l2, .ref l3, .ref l5] [.list ds, .list ds.reverse, .list (ds.drop 1), .list (ds ++ ds.take 1)] :=
        .cons (Dp.same (same_del u67) _ e1) (.cons (Dp.same (same_del u67) _ e2) (.cons (Dp.same (same_del u67) _ e3) (.cons (Dp.same (same_del u67) _ e5) .nil)))
      have L3 := L1.twice (p := l8) (uA.trans u67) all4 (fun e he => ?_) n8
      · refine ⟨_, rfl, _, rfl, L3.go (E := E0) (by rw [hx0]; exact fun z => by cases z) ?_ q⟩
        rw [List.length_append, lx0]
        show 16 + 8 < 1000
        decide
      · have wd := weight_drop ds 1
        have sq0 : isSeq (.list ds) = true := rfl
        simp only [List.mem_cons, List.not_mem_nil, or_false] at he
        rcases he with rfl | rfl | rfl | rfl
        · exact ((sz_seq (w' := 2 * PyData.weight (.list ds) + 300) (N' := N + 1) (D' := D + 2) sq0 sz sub0 (by omega) (by omega) (by omega) (by omega)).2).up (by omega) (Nat.le_refl _) (Nat.le_refl _) (Nat.le_refl _)
        · exact ((sz_seq (w' := 2 * PyData.weight (.list ds) + 300) (N' := N + 1) (D' := D + 2) (ds := ds.reverse) sq0 sz (fun e he => sub0 e (List.mem_reverse.mp he)) (by rw [List.length_reverse]; omega) (by rw [weight_rev]; omega) (by omega) (by omega)).2).up (by omega) (Nat.le_refl _) (Nat.le_refl _) (Nat.le_refl _)
        · exact ((sz_seq (w' := 2 * PyData.weight (.list ds) + 300) (N' := N + 1) (D' := D + 2) (ds := ds.drop 1) sq0 sz (fun e he => sub0 e (List.mem_of_mem_drop he)) (by rw [List.length_drop]; omega) (by omega) (by omega) (by omega)).2).up (by omega) (Nat.le_refl _) (Nat.le_refl _) (Nat.le_refl _)
        · exact ((sz_seq (w' := 2 * PyData.weight (.list ds) + 300) (N' := N + 1) (D' := D + 2) (ds := ds ++ ds.take 1) sq0 sz (fun e he => sub0 e ((List.mem_append.mp he).elim id List.mem_of_mem_take)) (by rw [List.length_append, List.length_take]; omega) (by rw [weightAll_app]; omega) (by omega) (by omega)).2).up (by omega) (Nat.le_refl _) (Nat.le_refl _) (Nat.le_refl _)
    | tuple ds =>
      have sub0 : ∀ e ∈ ds, e ∈ itemsD (.tuple ds) := fun e he => he
      have hw0 : PyData.weightAll ds = PyData.weight (.tuple ds) := rfl
      have len0 : ds.length ≤ N := (lenD_tup sz.l).1
      cases hd1 with
      | tup hs ha =>
      rename_i a xs
      have lx := DpAll.length ha
      have nbL := L1.dr.box
      have hs1 : SqT K Z1 a xs := Same.tup del_same hs
      refine ⟨_, rfl, _, rfl, a, xs, rfl, .inr hs1, fun l1 n1 => ?_⟩
      obtain ⟨u1, hb1, e1⟩ := mk_lst (K := K) nbL n1 ha
      have ha1 := DpAll.same (same_del (b := b) u1) _ ha
      have hs2 := Same.tup u1 hs1
      generalize upd Z1 l1 (.lst xs) = Y1 at u1 hb1 e1 ha1 hs2
      refine .inr ⟨_, rfl, a, xs, rfl, hs2, fun l2 n2 => ?_⟩
      obtain ⟨u2, hb2, e2⟩ := mk_tup (K := K) hb1 n2 (dp_rev ha1)
      have ha2 := DpAll.same (same_del (b := b) u2) _ ha1
      have hs3 := Same.tup u2 hs2
      replace e1 := Dp.same (same_del u2) _ e1
      generalize upd Y1 l2 (.tup xs.reverse) = Y2 at u2 hb2 e2 ha2 hs3 e1
      refine ⟨_, rfl, 1, rfl, .inr ⟨a, xs, rfl, hs3, fun l3 Y3 u3 h3 => ?_⟩⟩
      rw [show cutV xs (some 1) none = xs.drop 1 from cut_from xs 1] at h3
      have hb3 := (Dr.of hb2 u3).box
      have e3 := dp_tupS hb3 h3 (dp_drop 1 (DpAll.same (same_del (b := b) u3) _ ha2))
      have ha3 := DpAll.same (same_del (b := b) u3) _ ha2
      have hs4 := Same.tup u3 hs3
      replace e1 := Dp.same (same_del u3) _ e1
      replace e2 := Dp.same (same_del u3) _ e2
      refine ⟨_, rfl, _, rfl, 1, rfl, .inr ⟨a, xs, rfl, hs4, fun l4 Y4 u4 h4 => ?_⟩⟩
      rw [show cutV xs none (some 1) = xs.take 1 from cut_to xs 1] at h4
      have ha4 := DpAll.same (same_del (b := b) u4) _ ha3
      refine .inr ⟨a, l4, xs, xs.take 1, rfl, rfl, Same.tup u4 hs4, h4, (by rw [List.length_take, sizeLine_eq]; omega), fun l5 Y5 u5 h5 => ?_⟩
      have hb4 := (Dr.of hb3 u4).box
      have hb5 := (Dr.of hb4 u5).box
      have e5 := dp_tupS hb5 h5 (DpAll.app (DpAll.same (same_del (b := b) u5) _ ha4) (dp_take 1 (DpAll.same (same_del (b := b) u5) _ ha4)))
      have u45 := u4.trans u5
      clear u4 u5 h5 h4
      replace e1 := Dp.same (same_del u45) _ e1
      replace e2 := Dp.same (same_del u45) _ e2
      replace e3 := Dp.same (same_del u45) _ e3
      have uA := u1.trans (u2.trans (u3.trans u45))
      refine ⟨(by show 4 ≤ sizeLine; decide), fun l6 n6 => ?_⟩
      have u6 := same_new n6 (o := .lst [.ref l1, .ref l2, .ref l3, .ref l5])
      have el6 : (upd Y5 l6 (.lst [.ref l1, .ref l2, .ref l3, .ref l5])) l6 = some (.lst [.ref l1, .ref l2, .ref l3, .ref l5]) := upd_same
      refine ⟨l6, 2, _, rfl, rfl, el6, by decide, by decide, (by show 4 * 2 ≤ sizeLine; decide), fun l7 n7 => ?_⟩
      have u7 := same_new n7 (o := .lst (List.replicate (Int.toNat 2) [V.ref l1, .ref l2, .ref l3, .ref l5]).flatten)
      have u67 := u6.trans u7
      have L2 := L1.next (uA.trans u67)
      refine ⟨l0, l7, xs0, _, rfl, rfl, L2.e, upd_same, (by rw [lx0]; show 16 + 8 ≤ sizeLine; decide), fun l8 n8 => ?_⟩
      refine at_g (σ' := [some (.ref b), some (.ref a), some (.ref l8)]) rfl ?_
      have all4 : DpAll K (delH (upd (upd Y5 l6 (.lst [.ref l1, .ref l2, .ref l3, .ref l5])) l7 (.lst (List.replicate (Int.toNat 2) [V.ref l1, .ref l2, .ref l3, .ref l5]).flatten)) b) [.ref l1, .ref l2, .ref l3, .ref l5] [.list ds, .tuple ds.reverse, .tuple (ds.drop 1), .tuple (ds ++ ds.take 1)] :=
        .cons (Dp.same (same_del u67) _ e1) (.cons (Dp.same (same_del u67) _ e2) (.cons (Dp.same (same_del u67) _ e3) (.cons (Dp.same (same_del u67) _ e5) .nil)))
      have L3 := L1.twice (p := l8) (uA.trans u67) all4 (fun e he => ?_) n8
      · refine ⟨_, rfl, _, rfl, L3.go (E := E0) (by rw [hx0]; exact fun z => by cases z) ?_ q⟩
        rw [List.length_append, lx0]
        show 16 + 8 < 1000
        decide
      · have wd := weight_drop ds 1
        have sq0 : isSeq (.tuple ds) = true := rfl
        simp only [List.mem_cons, List.not_mem_nil, or_false] at he
        rcases he with rfl | rfl | rfl | rfl
        · exact ((sz_seq (w' := 2 * PyData.weight (.tuple ds) + 300) (N' := N + 1) (D' := D + 2) sq0 sz sub0 (by omega) (by omega) (by omega) (by omega)).2).up (by omega) (Nat.le_refl _) (Nat.le_refl _) (Nat.le_refl _)
        · exact ((sz_seq (w' := 2 * PyData.weight (.tuple ds) + 300) (N' := N + 1) (D' := D + 2) (ds := ds.reverse) sq0 sz (fun e he => sub0 e (List.mem_reverse.mp he)) (by rw [List.length_reverse]; omega) (by rw [weight_rev]; omega) (by omega) (by omega)).1).up (by omega) (Nat.le_refl _) (Nat.le_refl _) (Nat.le_refl _)
        · exact ((sz_seq (w' := 2 * PyData.weight (.tuple ds) + 300) (N' := N + 1) (D' := D + 2) (ds := ds.drop 1) sq0 sz (fun e he => sub0 e (List.mem_of_mem_drop he)) (by rw [List.length_drop]; omega) (by omega) (by omega) (by omega)).1).up (by omega) (Nat.le_refl _) (Nat.le_refl _) (Nat.le_refl _)
        · exact ((sz_seq (w' := 2 * PyData.weight (.tuple ds) + 300) (N' := N + 1) (D' := D + 2) (ds := ds ++ ds.take 1) sq0 sz (fun e he => sub0 e ((List.mem_append.mp he).elim id List.mem_of_mem_take)) (by rw [List.length_append, List.length_take]; omega) (by rw [weightAll_app]; omega) (by omega) (by omega)).1).up (by omega) (Nat.le_refl _) (Nat.le_refl _) (Nat.le_refl _)
    | _ => cases hsq
  | false =>
    have e12 : (10 : Int) ^ Int.toNat 12 = 1000000000000 := by decide
    cases hd with
    | int i =>
      have hi : i.natAbs ≤ m := sz.g
      refine iteT ?_
      refine ⟨_, rfl, _, rfl, .inl ⟨i, _, rfl, rfl, _, rfl, .inl ⟨_, i, rfl, rfl, _, rfl, ⟨.int i, .int 1, hv0, .int 1, lenD_shp sz.l (by omega), by decide +kernel, _, rfl, .inl ⟨i, rfl, Nat.lt_trans (log_lt (show i.natAbs ≤ 10 ^ 32 by omega)) (by decide), _, rfl, _, _, rfl, rfl, ⟨by decide, by decide, by decide⟩, .inl ⟨i, _, rfl, rfl, (by show 5 ≤ sizeLine; decide), fun l6 n6 => ?_⟩⟩⟩⟩⟩⟩
      have u6 := same_new n6 (o := .lst [.int (i + 1), .int (0 - i), .bl (PyData.eqv (.int i) (.int 1)), .str (Str.ofString (toString i)), .int (i + 10 ^ Int.toNat 12)])
      have el6 : (upd Z0 l6 (.lst [.int (i + 1), .int (0 - i), .bl (PyData.eqv (.int i) (.int 1)), .str (Str.ofString (toString i)), .int (i + 10 ^ Int.toNat 12)])) l6 = some (.lst [.int (i + 1), .int (0 - i), .bl (PyData.eqv (.int i) (.int 1)), .str (Str.ofString (toString i)), .int (i + 10 ^ Int.toNat 12)]) := upd_same
      refine ⟨l6, 2, _, rfl, rfl, el6, by decide, by decide, (by show 5 * 2 ≤ sizeLine; decide), fun l7 n7 => ?_⟩
      have u7 := same_new n7 (o := .lst (List.replicate (Int.toNat 2) ([.int (i + 1), .int (0 - i), .bl (PyData.eqv (.int i) (.int 1)), .str (Str.ofString (toString i)), .int (i + 10 ^ Int.toNat 12)] : List V)).flatten)
      have u67 := u6.trans u7
      have L2 := L0.next u67
      refine ⟨l0, l7, xs0, _, rfl, rfl, L2.e, upd_same, (by rw [lx0]; show 16 + 10 ≤ sizeLine; decide), fun l8 n8 => ?_⟩
      have all5 : DpAll K (delH (upd (upd Z0 l6 (.lst [.int (i + 1), .int (0 - i), .bl (PyData.eqv (.int i) (.int 1)), .str (Str.ofString (toString i)), .int (i + 10 ^ Int.toNat 12)])) l7 (.lst (List.replicate (Int.toNat 2) ([.int (i + 1), .int (0 - i), .bl (PyData.eqv (.int i) (.int 1)), .str (Str.ofString (toString i)), .int (i + 10 ^ Int.toNat 12)] : List V)).flatten)) b) [.int (i + 1), .int (0 - i), .bl (PyData.eqv (.int i) (.int 1)), .str (Str.ofString (toString i)), .int (i + 10 ^ Int.toNat 12)] [.int (i + 1), .int (0 - i), .bool (PyData.eqv (.int i) (.int 1)), .str (Str.ofString (toString i)), .int (i + 10 ^ Int.toNat 12)] :=
        .cons (.int _) (.cons (.int _) (.cons (.bl _) (.cons (.str _) (.cons (.int _) .nil))))
      have L3 := L0.twice (p := l8) u67 all5 (fun e he => ?_) n8
      · refine at_g (σ' := [some (.ref b), some (.int i), some (.ref l8)]) rfl ?_
        generalize upd (upd (upd Z0 l6 (.lst [.int (i + 1), .int (0 - i), .bl (PyData.eqv (.int i) (.int 1)), .str (Str.ofString (toString i)), .int (i + 10 ^ Int.toNat 12)])) l7 (.lst (List.replicate (Int.toNat 2) ([.int (i + 1), .int (0 - i), .bl (PyData.eqv (.int i) (.int 1)), .str (Str.ofString (toString i)), .int (i + 10 ^ Int.toNat 12)] : List V)).flatten)) l8 (.lst (xs0 ++ (List.replicate (Int.toNat 2) ([.int (i + 1), .int (0 - i), .bl (PyData.eqv (.int i) (.int 1)), .str (Str.ofString (toString i)), .int (i + 10 ^ Int.toNat 12)] : List V)).flatten)) = Z3 at L3
        refine ⟨_, rfl, (by show 2 ≤ sizeLine; decide), fun tp np => ?_⟩
        have sT := same_new np (o := .tup [.ty "list", .ty "tuple"])
        have eTp : (upd Z3 tp (.tup [.ty "list", .ty "tuple"])) tp = some (.tup [.ty "list", .ty "tuple"]) := upd_same
        have L4 := L3.next sT
        generalize upd Z3 tp (.tup [.ty "list", .ty "tuple"]) = Z4 at L4 eTp sT
        have hv4 : Dp K Z4 (.int i) (.int i) := .int i
        refine ⟨.int i, tp, _, tyD (.int i), _, _, rfl, eTp, .cons (.ty _) (.cons (.ty _) .nil), tyx_of hv4, seq_kit _ (Dp.nodict hv4), _, rfl, ?_⟩
        refine iteF ⟨_, rfl, _, rfl, L4.go (E := E0) (by rw [hx0]; exact fun z => by cases z) ?_ q⟩
        rw [List.length_append, lx0]
        show 16 + 10 < 1000
        decide
      · simp only [List.mem_cons, List.not_mem_nil, or_false] at he
        rcases he with rfl | rfl | rfl | rfl | rfl
        · exact (sz_int (m := m + 10 ^ 13) (by omega) (by omega) _ _).up (Nat.le_refl _) (by omega) (Nat.le_refl _) (Nat.le_refl _)
        · exact (sz_int (m := m + 10 ^ 13) (by omega) (by omega) _ _).up (Nat.le_refl _) (by omega) (Nat.le_refl _) (Nat.le_refl _)
        · exact sz_bool _ _ _ _
        · exact (sz_str (m := m + 10 ^ 13) (by omega) (by omega) _ _).up (Nat.le_refl _) (by omega) (Nat.le_refl _) (Nat.le_refl _)
        · exact (sz_int (m := m + 10 ^ 13) (by rw [e12]; omega) (by omega) _ _).up (Nat.le_refl _) (by omega) (Nat.le_refl _) (Nat.le_refl _)
    | bl c =>
      refine iteT ?_
      refine ⟨_, rfl, _, rfl, .inr ⟨c, _, rfl, rfl, _, rfl, .inr ⟨_, c, rfl, rfl, _, rfl, ⟨.bool c, .int 1, hv0, .int 1, lenD_shp sz.l (by omega), by decide +kernel, _, rfl, .inr ⟨c, rfl, _, rfl, _, _, rfl, rfl, ⟨by decide, by decide, by decide⟩, .inr ⟨c, _, rfl, rfl, (by show 5 ≤ sizeLine; decide), fun l6 n6 => ?_⟩⟩⟩⟩⟩⟩
      have u6 := same_new n6 (o := .lst [.int (bI c + 1), .int (0 - bI c), .bl (PyData.eqv (.bool c) (.int 1)), .str (strB c), .int (bI c + 10 ^ Int.toNat 12)])
      have el6 : (upd Z0 l6 (.lst [.int (bI c + 1), .int (0 - bI c), .bl (PyData.eqv (.bool c) (.int 1)), .str (strB c), .int (bI c + 10 ^ Int.toNat 12)])) l6 = some (.lst [.int (bI c + 1), .int (0 - bI c), .bl (PyData.eqv (.bool c) (.int 1)), .str (strB c), .int (bI c + 10 ^ Int.toNat 12)]) := upd_same
      refine ⟨l6, 2, _, rfl, rfl, el6, by decide, by decide, (by show 5 * 2 ≤ sizeLine; decide), fun l7 n7 => ?_⟩
      have u7 := same_new n7 (o := .lst (List.replicate (Int.toNat 2) ([.int (bI c + 1), .int (0 - bI c), .bl (PyData.eqv (.bool c) (.int 1)), .str (strB c), .int (bI c + 10 ^ Int.toNat 12)] : List V)).flatten)
      have u67 := u6.trans u7
      have L2 := L0.next u67
      refine ⟨l0, l7, xs0, _, rfl, rfl, L2.e, upd_same, (by rw [lx0]; show 16 + 10 ≤ sizeLine; decide), fun l8 n8 => ?_⟩
      have all5 : DpAll K (delH (upd (upd Z0 l6 (.lst [.int (bI c + 1), .int (0 - bI c), .bl (PyData.eqv (.bool c) (.int 1)), .str (strB c), .int (bI c + 10 ^ Int.toNat 12)])) l7 (.lst (List.replicate (Int.toNat 2) ([.int (bI c + 1), .int (0 - bI c), .bl (PyData.eqv (.bool c) (.int 1)), .str (strB c), .int (bI c + 10 ^ Int.toNat 12)] : List V)).flatten)) b) [.int (bI c + 1), .int (0 - bI c), .bl (PyData.eqv (.bool c) (.int 1)), .str (strB c), .int (bI c + 10 ^ Int.toNat 12)] [.int (bI c + 1), .int (0 - bI c), .bool (PyData.eqv (.bool c) (.int 1)), .str (strB c), .int (bI c + 10 ^ Int.toNat 12)] :=
        .cons (.int _) (.cons (.int _) (.cons (.bl _) (.cons (.str _) (.cons (.int _) .nil))))
      have L3 := L0.twice (p := l8) u67 all5 (fun e he => ?_) n8
      · refine at_g (σ' := [some (.ref b), some (.bl c), some (.ref l8)]) rfl ?_
        generalize upd (upd (upd Z0 l6 (.lst [.int (bI c + 1), .int (0 - bI c), .bl (PyData.eqv (.bool c) (.int 1)), .str (strB c), .int (bI c + 10 ^ Int.toNat 12)])) l7 (.lst (List.replicate (Int.toNat 2) ([.int (bI c + 1), .int (0 - bI c), .bl (PyData.eqv (.bool c) (.int 1)), .str (strB c), .int (bI c + 10 ^ Int.toNat 12)] : List V)).flatten)) l8 (.lst (xs0 ++ (List.replicate (Int.toNat 2) ([.int (bI c + 1), .int (0 - bI c), .bl (PyData.eqv (.bool c) (.int 1)), .str (strB c), .int (bI c + 10 ^ Int.toNat 12)] : List V)).flatten)) = Z3 at L3
        refine ⟨_, rfl, (by show 2 ≤ sizeLine; decide), fun tp np => ?_⟩
        have sT := same_new np (o := .tup [.ty "list", .ty "tuple"])
        have eTp : (upd Z3 tp (.tup [.ty "list", .ty "tuple"])) tp = some (.tup [.ty "list", .ty "tuple"]) := upd_same
        have L4 := L3.next sT
        generalize upd Z3 tp (.tup [.ty "list", .ty "tuple"]) = Z4 at L4 eTp sT
        have hv4 : Dp K Z4 (.bl c) (.bool c) := .bl c
        refine ⟨.bl c, tp, _, tyD (.bool c), _, _, rfl, eTp, .cons (.ty _) (.cons (.ty _) .nil), tyx_of hv4, seq_kit _ (Dp.nodict hv4), _, rfl, ?_⟩
        refine iteF ⟨_, rfl, _, rfl, L4.go (E := E0) (by rw [hx0]; exact fun z => by cases z) ?_ q⟩
        rw [List.length_append, lx0]
        show 16 + 10 < 1000
        decide
      · simp only [List.mem_cons, List.not_mem_nil, or_false] at he
        rcases he with rfl | rfl | rfl | rfl | rfl
        · exact (sz_int (m := m + 10 ^ 13) (by cases c <;> (simp only [bI]; omega)) (by omega) _ _).up (Nat.le_refl _) (by omega) (Nat.le_refl _) (Nat.le_refl _)
        · exact (sz_int (m := m + 10 ^ 13) (by cases c <;> (simp only [bI]; omega)) (by omega) _ _).up (Nat.le_refl _) (by omega) (Nat.le_refl _) (Nat.le_refl _)
        · exact sz_bool _ _ _ _
        · exact sz_strB c (by omega)
        · exact (sz_int (m := m + 10 ^ 13) (by rw [e12]; cases c <;> (simp only [bI]; omega)) (by omega) _ _).up (Nat.le_refl _) (by omega) (Nat.le_refl _) (Nat.le_refl _)
    | lst _ _ => cases hsq
    | tup _ _ => cases hsq
    | _ =>
      refine iteF ?_
      refine ⟨_, rfl, (by show 2 ≤ sizeLine; decide), fun tp np => ?_⟩
      have sT := same_new np (o := .tup [.ty "list", .ty "tuple"])
      have eTp : (upd Z0 tp (.tup [.ty "list", .ty "tuple"])) tp = some (.tup [.ty "list", .ty "tuple"]) := upd_same
      have L1 := L0.next sT
      generalize upd Z0 tp (.tup [.ty "list", .ty "tuple"]) = Z1 at L1 eTp sT
      refine ⟨_, tp, _, tyD _, _, _, rfl, eTp, .cons (.ty _) (.cons (.ty _) .nil), tyx_of (Dp.same sT _ hv0), seq_kit _ (Dp.nodict hv0), _, rfl, ?_⟩
      refine iteF ⟨_, rfl, _, rfl, L1.go (E := E0) (by rw [hx0]; exact fun z => by cases z) (by rw [lx0]; decide) q⟩
end
end XL
namespace XL
open PySem PySem.Spec PyProof.Rows L2
abbrev sBt : Stmt := topS 33
theorem cut_two (xs : List V) (j : Nat) (h : j < xs.length) : cutV xs (some (j : Int)) (some ((j : Int) + 2)) = (xs.drop j).take 2 := by
  unfold cutV
  rw [show ((j : Int) + 2) = ((j + 2 : Nat) : Int) by omega, HT.sIx_nat, HT.sIx_nat, Nat.min_eq_left (Nat.le_of_lt h)]
  by_cases q : j + 2 ≤ xs.length
  · rw [Nat.min_eq_left q, show j + 2 - j = 2 by omega]
  · rw [Nat.min_eq_right (by omega), List.take_of_length_le (by rw [List.length_drop]; exact Nat.le_refl _), List.take_of_length_le (by rw [List.length_drop]; omega)]
theorem dp_put {K : PySem.W.Frag} {H : Hp} : ∀ {xs : List V} {ds : List PyData} {v : V} {d : PyData} (j : Nat), DpAll K H xs ds → Dp K H v d → DpAll K H (xs.set j v) (ds.set j d)
  | _, _, _, _, 0, .nil, _ => .nil
  | _, _, _, _, 0, .cons a r, h => .cons h r
  | _, _, _, _, j + 1, .nil, _ => .nil
  | _, _, _, _, j + 1, .cons a r, h => .cons a (dp_put j r h)
theorem pss_never {X : Cx} {st : List Stmt} : PSs X st (fun _ _ _ => False) := ⟨fun _ _ _ _ _ _ h => h.elim⟩
/-- f(e, ..) while the list at D is hidden -/
theorem pe_callH {X : Cx} {k : Nat} {f : Addr} {fd : FuncData} {ps : List Str} {sp : Sp} {x : Str} {p pos : Pos} {e : Expr} {es : List Expr} {t : TA} (F : FnOk X.prog X.w X.K X.mg X.base CX0 k f fd ps sp) (hr : Room k X.A) (hg : Gl X x) (hm : X.mg x = some (.ref f)) (hk : PySem.W.keepIn X.K (.ref f) = true) (hb : Binds X.K fd ps [])
    (ha : PA X (e :: es) t) (hdb : (x == ("__debug__" : Str)) = false := by decide) (he : starEach (e :: es) X.env = (false, eval e X.env) :: starEach es X.env := by rfl)
    (hpl : (backTo pos (starEach es X.env)).any (·.1) = false := by rfl) : PE X (.Call (.Name x p) (e :: es) [] pos) (fun σ H Q => t σ H fun vs H1 => ∃ D xs, H1 D = some (.lst xs) ∧ sp vs (delH H1 D) (fun v H' => H' D = none → Q v (upd H' D (.lst xs))) E0) := by
  refine ⟨fun pins s σ H Q I h => wpAny_Call_Name_kw (ld_glob I hg hm ?_ hdb)⟩
  refine PySem.W.callWith_K (h₀ := X.base) I.ok.mod.kin hk (thn (ha.run pos pins s σ H _ I h) fun us s1 ⟨vs, H1, I1, r, D, xs, hD, q⟩ => ⟨I1.kIn, ?_⟩) he hpl
  have hl : us.length = ps.length := by rw [← r.length]; exact F.len _ _ _ _ q
  have hb' : BindsTo s1 fd ⟨us, []⟩ (ps.zip us) := by have b2 := hb s1 us I1.kIn (by rw [List.append_nil]; exact hl); rwa [List.append_nil] at b2
  obtain ⟨its, n, rv, hz, J⟩ := Inv.hide I1 hD
  refine wpAny_call (codeAny_mono (F.run X.A X.stack s1 _ ⟨us, []⟩ us vs _ E0 hr J.env0 hb' r q) fun r s' hq => ?_)
  cases r with
  | error e => exact False.elim hq
  | ok fl =>
    cases fl with
    | ret u =>
      obtain ⟨v, H', J', rv', q'⟩ := J.after hq
      obtain ⟨hn, I'⟩ := Inv.unhide I1 hD rv hz J'
      exact ⟨v, _, I', rv', q' hn⟩
    | next => exact False.elim hq
    | brk => exact False.elim hq
    | cont => exact False.elim hq
section
variable {P : Program} {w : World} {K : PySem.W.Frag} {mg : Str → Option Value} {base : Heap}
theorem fn_up {k n : Nat} {f : Addr} {fd : FuncData} {ps : List Str} {sp : Sp} (h : k ≤ n) (F : FnOk P w K mg base CX0 k f fd ps sp) : FnOk P w K mg base CX0 n f fd ps sp :=
  ⟨F.len, fun A outer s H args us vs Q E hr e0 hb r q => F.run A outer s H args us vs Q E (hr.mono h) e0 hb r q⟩
theorem Fns.up {k n : Nat} {name : Str} {f : Addr} {fd : FuncData} {ps : List Str} {sp : Sp} (h : k ≤ n) (F : Fns P w K mg base k name ps sp f fd) : Fns P w K mg base n name ps sp f fd := ⟨fn_up h F.ok, F.g, F.k, F.b⟩
end
section
variable {P : Program} {w : World} {K : PySem.W.Frag} {mg : Str → Option Value} {base : Heap}
abbrev nBt : List Str := ["_law_box_here", "_law_made", "_law_some", "_law_at", "_law_mode"]
theorem scBt : FnScope nBt ["_law_box_here", "_law_made"] (defScope sBt) := ⟨rfl, rfl, rfl, by decide +kernel, rfl, by decide +kernel, by decide +kernel⟩
def spBt (K : PySem.W.Frag) (n : Nat) : Sp := fun vs H Q _ => ∃ (b : Addr) (v : V) (d : PyData) (m N : Nat), vs = [.ref b, v] ∧ Bx H b ∧ Dp K (delH H b) v d ∧ SzD m 20000 N n d ∧ 2 ≤ N ∧ N ≤ 100 ∧ n ≤ 50 ∧ m ≤ 10 ^ 20 ∧
  ∀ v' d' H', Dr b H H' → Dp K (delH H' b) v' d' → SzD (m + 10 ^ 13) (2 * d.weight + 300) (N + 1) (n + 2) d' → Q v' H'
theorem od_go {b : Addr} {v : V} {d : PyData} {m N D : Nat} {H Z : Hp} {Q : VK} {E : XK} (dr : Dr b H Z) (hd : Dp K (delH H b) v d) (sz : SzD m 20000 N D d) (hN : 2 ≤ N) (hN2 : N ≤ 100) (hD : D ≤ 50) (hm : m ≤ 10 ^ 20)
    (q : ∀ v' d' H', Dr b H H' → Dp K (delH H' b) v' d' → SzD (m + 10 ^ 13) (2 * d.weight + 300) (N + 1) (D + 2) d' → Q v' H') : spOd K [.ref b, v] Z Q E :=
  ⟨b, v, d, m, N, D, rfl, dr.box, Dp.same dr.del _ hd, sz, hN, hN2, hD, hm, fun v' d' H' d2 h s => q v' d' H' (dr.trans d2) h s⟩
theorem ok_bt {f ft fo : Addr} {fd fdt fdo : FuncData} (F : Fun K "_law_bent" "_law_bent" sBt f fd) (b : Binds K fd ["_law_box_here", "_law_made"] []) (gF : mg "_law_bent" = some (.ref f)) (T0 : Fns P w K mg base 3 "_law_take" ["_law_box_here", "_law_size"] spTake ft fdt) (O0 : Fns P w K mg base 3 "_law_odd" ["_law_box_here", "_law_made"] (spOd K) fo fdo)
    (m_isinstance : mg "isinstance" = none) (m_list : mg "list" = none) (m_tuple : mg "tuple" = none) (m_len : mg "len" = none) : ∀ n : Nat, FnOk P w K mg base CX0 (n + 4) f fd ["_law_box_here", "_law_made"] (spBt K n)
  | 0 => by
    have Tk := T0.up (show 3 ≤ 3 by omega)
    have Od := O0.up (show 3 ≤ 3 by omega)
    refine F.ok scBt (fun vs H Q E h => ?_) (fun cdv A outer s0 H vs Q E hr h => ?_)
    · obtain ⟨b, v, d, m, N, rfl, _⟩ := h
      rfl
    obtain ⟨bx, v, d, m, N, rfl, hb, hd, sz, hN, hN2, hn, hm, q⟩ := h
    refine ⟨_, (pss_cons (ps_if (PW.pt (pw_or (pt_not (pt_val (pe_callB (r := rIsD K "tuple" isT) (call_isD kit_isT) rfl m_isinstance boot_isinstance (pa_cons (pv 1) (pa_cons (pe_bltn (v := .ty "tuple") rfl m_tuple boot_tuple rfl) pa_nil))))) (pw_or (pt_cmpR op_eq (pe_callB (r := rLenA K) call_lenA rfl m_len PySem.boot_len (pa_cons (pv 1) pa_nil)) pe_int (nomark _)) (pw_or1 (pt_cmpR op_eq (pe_fn Tk hr rfl (pa_cons (pv 0) (pa_cons pe_int pa_nil))) pe_int (nomark _)))))) (pss_one (ps_ret (pe_fn Od hr rfl (pa_cons (pv 0) (pa_cons (pv 1) pa_nil))))) pss_nil) pss_never), ?_⟩
    have ht : isT d = false := by
      cases d with
      | tuple ds => exact sz.l.elim
      | _ => rfl
    refine ⟨_, rfl, v, d, rfl, Dp.same del_same _ hd, _, rfl, ?_⟩
    rw [ht]
    exact iteT (iteT ⟨_, rfl, _, rfl, od_go (E := E0) (Dr.refl hb) hd sz hN hN2 hn hm q⟩)
  | n + 1 => by
    have G := ok_bt F b gF T0 O0 m_isinstance m_list m_tuple m_len n
    have Tk := T0.up (show 3 ≤ n + 4 by omega)
    have Od := O0.up (show 3 ≤ n + 4 by omega)
    refine F.ok scBt (fun vs H Q E h => ?_) (fun cdv A outer s0 H vs Q E hr h => ?_)
    · obtain ⟨b, v, d, m, N, rfl, _⟩ := h
      rfl
    obtain ⟨bx, v, d, m, N, rfl, hb, hd, sz, hN, hN2, hn, hm, q⟩ := h
    refine ⟨_, (pss_cons (ps_if (PW.pt (pw_or (pt_not (pt_val (pe_callB (r := rIsD K "tuple" isT) (call_isD kit_isT) rfl m_isinstance boot_isinstance (pa_cons (pv 1) (pa_cons (pe_bltn (v := .ty "tuple") rfl m_tuple boot_tuple rfl) pa_nil))))) (pw_or (pt_cmpR op_eq (pe_callB (r := rLenA K) call_lenA rfl m_len PySem.boot_len (pa_cons (pv 1) pa_nil)) pe_int (nomark _)) (pw_or1 (pt_cmpR op_eq (pe_fn Tk hr rfl (pa_cons (pv 0) (pa_cons pe_int pa_nil))) pe_int (nomark _)))))) (pss_one (ps_ret (pe_fn Od hr rfl (pa_cons (pv 0) (pa_cons (pv 1) pa_nil))))) pss_nil)
    (pss_cons (ps_par3 (i := 2) (j := 3) (l := 4) rfl scBt.nd rfl rfl rfl (by decide) (by decide) (by decide) rfl rfl rfl (pa_cons (pe_callTy (r := rLstA K) call_listA rfl m_list boot_list (pa_cons (pv 1) pa_nil)) (pa_cons (pe_fn Tk hr rfl (pa_cons (pv 0) (pa_cons (pe_callB (r := rLenA K) call_lenA rfl m_len PySem.boot_len (pa_cons (pv 1) pa_nil)) pa_nil))) (pa_cons (pe_fn Tk hr rfl (pa_cons (pv 0) (pa_cons pe_int pa_nil))) pa_nil))) rfl)
    (pss_cons (ps_if (pt_cmpR op_eq (pv 4) pe_int (nomark _)) (pss_one (ps_expr (pe_bm PySem.F.plainAttrs_list PySem.F.slot_list_pop PySem.F.type_list_pop mt_popAt (pv 2) (pa_cons (pv 3) pa_nil)))) (pss_one (ps_if (pt_cmpR op_eq (pv 4) pe_int (nomark _)) (pss_one (ps_expr (pe_bm PySem.F.plainAttrs_list PySem.F.slot_list_insert PySem.F.type_list_insert mt_insert (pv 2) (pa_cons (pv 3) (pa_cons (pe_ix (r := rIxA K) ix_any (pv 2) (pv 3) (fun _ _ => rfl)) pa_nil))))) (pss_one (ps_if (pt_cmpR op_eq (pv 4) pe_int (nomark _)) (pss_one (ps_asg (pe_revL (pe_slice sl_list (pv 2) (po_some (pv 3)) (po_some (pe_op op_add (pv 3) pe_int)))) (pg_cut (pv 2) (po_some (pv 3)) (po_some (pe_op op_add (pv 3) pe_int))))) (pss_one (ps_asg (pe_callH G hr rfl gF F.kp b (pa_cons (pv 0) (pa_cons (pe_ix (r := rIxA K) ix_any (pv 2) (pv 3) (fun _ _ => rfl)) pa_nil))) (pg_sub (pv 2) (pv 3) set_list))))))))
    (pss_one (ps_ret (pe_callTy (r := rTupA K) call_tupleA rfl m_tuple boot_tuple (pa_cons (pv 2) pa_nil))))))), ?_⟩
    refine ⟨_, rfl, v, d, rfl, Dp.same del_same _ hd, _, rfl, ?_⟩
    cases ht : isT d with
    | false => exact iteT (iteT ⟨_, rfl, _, rfl, od_go (E := E0) (Dr.refl hb) hd sz hN hN2 hn hm q⟩)
    | true =>
    have ed := tup_isT ht
    generalize hds : itemsD d = ds at ed
    subst ed
    have sq0 : isSeq (.tuple ds) = true := rfl
    have sub0 : ∀ e ∈ ds, e ∈ itemsD (.tuple ds) := fun e he => he
    have len0 : ds.length ≤ N := (lenD_tup sz.l).1
    have hd' := hd
    cases hd' with
    | tup hs ha =>
    rename_i a xs
    have lx := DpAll.length ha
    have hs1 : SqT K H a xs := Same.tup del_same hs
    refine iteF ?_
    refine ⟨_, rfl, a, xs, rfl, .inr hs1, rfl, _, rfl, ite2 (fun e0 => ?_) (fun e0 => ?_)⟩
    · exact iteT ⟨_, rfl, _, rfl, od_go (E := E0) (Dr.refl hb) hd sz hN hN2 hn hm q⟩
    have ne0 : ds.length ≠ 0 := fun z => e0 (decide_eq_true (by rw [lx, z]; rfl))
    refine ⟨_, rfl, bx, 6, rfl, hb, by decide, by decide, fun v6 H1 _ _ d1 => ⟨rfl, _, rfl, ite2 (fun e1 => ?_) (fun e1 => ?_)⟩⟩
    · exact ⟨_, rfl, _, rfl, od_go (E := E0) d1 hd sz hN hN2 hn hm q⟩
    have hsd : ∀ Z, Dr bx H Z → SqT K Z a xs := fun Z d => Same.tup del_same (Same.tup d.del hs)
    have had : ∀ Z, Dr bx H Z → DpAll K (delH Z bx) xs ds := fun Z d => DpAll.same d.del _ ha
    refine ⟨_, rfl, a, xs, rfl, .inr (hsd _ d1), fun l nl => ?_⟩
    have lb := bx_ne d1.box nl
    have d2 := d1.trans (Dr.new (o := .lst xs) d1.box nl)
    have el2 : (upd H1 l (.lst xs)) l = some (.lst xs) := upd_same
    generalize upd H1 l (.lst xs) = H2 at d2 el2
    refine ⟨_, rfl, _, rfl, a, xs, rfl, .inr (hsd _ d2), bx, (xs.length : Nat), rfl, d2.box, by omega, by omega, fun vat H3 a0 a1 d3 => ?_⟩
    have d4 := d2.trans d3
    refine ⟨_, rfl, bx, 8, rfl, d4.box, by decide, by decide, fun vm H4 m0 m1 d5 => ?_⟩
    refine ⟨_, _, _, rfl, ?_⟩
    have d6 := d4.trans d5
    have el := d5.same _ _ lb (d3.same _ _ lb el2)
    obtain ⟨j, rfl⟩ : ∃ j : Nat, vat = (j : Int) := ⟨vat.toNat, by omega⟩
    have hj : j < ds.length := by omega
    refine at_g (σ' := [some (.ref bx), some (.ref a), some (.ref l), some (.int (j : Int)), some (.int vm)]) rfl ?_
    have nlH : H l = none := by
      cases e : H l with
      | none => rfl
      | some o =>
        have := d1.same l o lb e
        rw [nl] at this
        cases this
    clear d2 d3 d4 d5 el2 nl d1
    have d7 : ∀ o : HO, Dr bx H (upd H4 l o) := fun o => ⟨by
      obtain ⟨x, y, z, e⟩ := d6.box
      exact ⟨x, y, z, by rw [upd_ne lb.symm]; exact e⟩, fun q o e ne => by
      rw [upd_ne (fun z => by rw [z, nlH] at ne; cases ne)]
      exact d6.same q o e ne⟩
    obtain ⟨e, he⟩ : ∃ e, ds[j]? = some e := ⟨_, List.getElem?_eq_getElem hj⟩
    obtain ⟨x, hx⟩ : ∃ x, xs[j]? = some x := ⟨_, List.getElem?_eq_getElem (by omega)⟩
    have he0 := split_at he
    have w0 : PyData.weight (.tuple ds) = PyData.weightAll (ds.take j) + (e.weight + 1 + PyData.weightAll (ds.drop (j + 1))) := by
      show PyData.weightAll ds = _
      conv => lhs; rw [he0, weightAll_app]
      rfl
    have fin : ∀ (Z : Hp) (ys : List V) (es : List PyData), Dr bx H Z → DpAll K (delH Z bx) ys es → SzD (m + 10 ^ 13) (2 * PyData.weight (.tuple ds) + 300) (N + 1) (n + 1 + 2) (.tuple es) → ∀ T, Z T = none → Q (.ref T) (upd Z T (.tup ys)) := fun Z ys es dZ hall sm T nT => by
      have sT := same_new nT (o := .tup ys)
      exact q _ (.tuple es) _ (dZ.trans (Dr.of dZ.box sT)) (dp_tup (bx_ne dZ.box nT) upd_same (DpAll.same (same_del sT) _ hall)) sm
    refine ⟨_, rfl, rfl, _, rfl, ite2 (fun c0 => ?_) (fun c0 => ?_)⟩
    · refine ⟨_, rfl, .inl ⟨rfl, _, SqL.of el⟩, _, rfl, l, xs, (j : Int), j, x, rfl, rfl, el, by omega, by omega, seqIndex_of (by omega) (by omega), hx, ?_⟩
      rw [List.eraseIdx_eq_take_drop_succ]
      have d8 := d7 (.lst (xs.take j ++ xs.drop (j + 1)))
      refine ⟨_, rfl, l, _, rfl, .inl ⟨SqL.of upd_same, fun T nT => fin _ _ (ds.take j ++ ds.drop (j + 1)) d8 (DpAll.app (dp_take j (had _ d8)) (dp_drop (j + 1) (had _ d8))) ?_ T nT⟩⟩
      exact ((sz_seq (w' := 2 * PyData.weight (.tuple ds) + 300) (N' := N + 1) (D' := n + 1 + 2) (ds := ds.take j ++ ds.drop (j + 1)) sq0 sz (fun e he => (List.mem_append.mp he).elim List.mem_of_mem_take List.mem_of_mem_drop) (by rw [List.length_append, List.length_take, List.length_drop]; omega) (by rw [weightAll_app]; omega) (by omega) (by omega)).1).up (by omega) (Nat.le_refl _) (Nat.le_refl _) (Nat.le_refl _)
    refine ⟨_, rfl, rfl, _, rfl, ite2 (fun c1 => ?_) (fun c1 => ?_)⟩
    · refine ⟨_, rfl, .inl ⟨rfl, _, SqL.of el⟩, _, rfl, _, rfl, _, rfl, l, xs, (j : Int), x, rfl, rfl, .inl (SqL.of el), atI_nat hx, l, xs, (j : Int), x, rfl, rfl, el, by rw [lx, sizeLine_eq]; omega, by omega, by omega, ?_⟩
      rw [Int.toNat_natCast]
      have d8 := d7 (.lst (xs.take j ++ [x] ++ xs.drop j))
      obtain ⟨e', he', hxe⟩ := DpAll.get (had _ d8) hx
      obtain rfl := Option.some.inj (he.symm.trans he')
      refine ⟨_, rfl, l, _, rfl, .inl ⟨SqL.of upd_same, fun T nT => fin _ _ (ds.take j ++ [e] ++ ds.drop j) d8 (DpAll.app (DpAll.app (dp_take j (had _ d8)) (.cons hxe .nil)) (dp_drop j (had _ d8))) ?_ T nT⟩⟩
      have wj := weight_drop ds j
      have wt : PyData.weightAll (ds.take j) + PyData.weightAll (ds.drop j) = PyData.weightAll ds := by rw [← weightAll_app, List.take_append_drop]
      have wds : PyData.weight (.tuple ds) = PyData.weightAll ds := rfl
      have w1 : PyData.weightAll [e] = e.weight + 1 := rfl
      exact ((sz_seq (w' := 2 * PyData.weight (.tuple ds) + 300) (N' := N + 1) (D' := n + 1 + 2) (ds := ds.take j ++ [e] ++ ds.drop j) sq0 sz (fun e' he' => by
        rcases List.mem_append.mp he' with q | q
        · rcases List.mem_append.mp q with q | q
          · exact List.mem_of_mem_take q
          · rw [List.mem_singleton.mp q]; exact List.mem_of_getElem? he
        · exact List.mem_of_mem_drop q) (by rw [List.length_append, List.length_append, List.length_take, List.length_drop, List.length_singleton]; omega) (by rw [weightAll_app, weightAll_app, w1]; omega) (by omega) (by omega)).1).up (by omega) (Nat.le_refl _) (Nat.le_refl _) (Nat.le_refl _)
    refine ⟨_, rfl, rfl, _, rfl, ite2 (fun c2 => ?_) (fun c2 => ?_)⟩
    · refine ⟨_, rfl, _, rfl, (j : Int), rfl, _, rfl, _, _, rfl, rfl, ((j : Int) + 2), rfl, l, xs, rfl, SqL.of el, fun p1 n1 => ?_⟩
      rw [cut_two xs j (by omega)]
      have d9 := d6.trans (Dr.new (o := .lst ((xs.drop j).take 2)) d6.box n1)
      have el9 := same_new n1 (o := .lst ((xs.drop j).take 2)) _ _ el
      refine ⟨p1, _, rfl, SqL.of upd_same, fun p2 n2 => ?_⟩
      have sB := same_new n2 (o := .lst ((xs.drop j).take 2).reverse)
      have el10 := sB _ _ el9
      have d10 := d9.trans (Dr.of d9.box sB)
      have ep2 : (upd (upd H4 p1 (.lst ((xs.drop j).take 2))) p2 (.lst ((xs.drop j).take 2).reverse)) p2 = some (.lst ((xs.drop j).take 2).reverse) := upd_same
      have nlp : l ≠ p2 := fun z => by rw [z, n2] at el9; cases el9
      generalize upd (upd H4 p1 (.lst ((xs.drop j).take 2))) p2 (.lst ((xs.drop j).take 2).reverse) = H5 at el10 d10 ep2
      refine ⟨_, rfl, _, rfl, (j : Int), rfl, _, rfl, _, _, rfl, rfl, ((j : Int) + 2), rfl, l, p2, xs, _, j, j + 2, rfl, rfl, rfl, congrArg some (by omega), el10, ep2, nlp, by omega, by omega, (by rw [List.length_reverse, List.length_take, lx, sizeLine_eq]; omega), ?_⟩
      have d11 : Dr bx H (upd H5 l (.lst (xs.take j ++ ((xs.drop j).take 2).reverse ++ xs.drop (j + 2)))) := ⟨by
        obtain ⟨x, y, z, e⟩ := d10.box
        exact ⟨x, y, z, by rw [upd_ne lb.symm]; exact e⟩, fun q o e ne => by
        rw [upd_ne (fun z => by rw [z, nlH] at ne; cases ne)]
        exact d10.same q o e ne⟩
      have hA := had _ d11
      refine ⟨_, rfl, l, _, rfl, .inl ⟨SqL.of upd_same, fun T nT => fin _ _ (ds.take j ++ ((ds.drop j).take 2).reverse ++ ds.drop (j + 2)) d11 (DpAll.app (DpAll.app (dp_take j hA) (dp_rev (dp_take 2 (dp_drop j hA)))) (dp_drop (j + 2) hA)) ?_ T nT⟩⟩
      have e1 : PyData.weightAll (ds.take j) + PyData.weightAll (ds.drop j) = PyData.weightAll ds := by rw [← weightAll_app, List.take_append_drop]
      have e2 : PyData.weightAll ((ds.drop j).take 2) + PyData.weightAll (ds.drop (j + 2)) = PyData.weightAll (ds.drop j) := by
        have := congrArg PyData.weightAll (List.take_append_drop 2 (ds.drop j))
        rw [weightAll_app, List.drop_drop] at this
        exact this
      have wds : PyData.weight (.tuple ds) = PyData.weightAll ds := rfl
      exact ((sz_seq (w' := 2 * PyData.weight (.tuple ds) + 300) (N' := N + 1) (D' := n + 1 + 2) (ds := ds.take j ++ ((ds.drop j).take 2).reverse ++ ds.drop (j + 2)) sq0 sz (fun e' he' => by
        rcases List.mem_append.mp he' with q | q
        · rcases List.mem_append.mp q with q | q
          · exact List.mem_of_mem_take q
          · exact List.mem_of_mem_drop (List.mem_of_mem_take (List.mem_reverse.mp q))
        · exact List.mem_of_mem_drop q) (by rw [List.length_append, List.length_append, List.length_reverse, List.length_take, List.length_take, List.length_drop, List.length_drop]; omega) (by rw [weightAll_app, weightAll_app, weight_rev]; omega) (by omega) (by omega)).1).up (by omega) (Nat.le_refl _) (Nat.le_refl _) (Nat.le_refl _)
    · have d8 : Dr bx H (delH H4 l) := ⟨by
        obtain ⟨x, y, z, e⟩ := d6.box
        exact ⟨x, y, z, by rw [delH_ne lb.symm]; exact e⟩, fun q o e ne => by
        rw [delH_ne (fun z => by rw [z, nlH] at ne; cases ne)]
        exact d6.same q o e ne⟩
      obtain ⟨e', he', hxe⟩ := DpAll.get (had _ d8) hx
      obtain rfl := Option.some.inj (he.symm.trans he')
      have em : e ∈ ds := List.mem_of_getElem? he
      have wds : PyData.weight (.tuple ds) = PyData.weightAll ds := rfl
      have w20 := sz.w
      have sze : SzD m 20000 N n e := ⟨Gds_iff.mp (show Gds m ds from sz.g) e em, by omega, sz.l.2 e em⟩
      refine ⟨_, rfl, _, rfl, _, rfl, l, xs, (j : Int), x, rfl, rfl, .inl (SqL.of el), atI_nat hx, l, xs, el, ?_⟩
      refine ⟨bx, x, e, m, N, rfl, d8.box, hxe, sze, hN, hN2, by omega, hm, fun v' d' H9 dr9 hp9 sm9 nl9 => ?_⟩
      refine ⟨_, rfl, _, rfl, l, xs, _, j, rfl, rfl, upd_same, ?_, ?_⟩
      · unfold ixN
        rw [if_pos (by omega), if_pos (by omega)]
        rfl
      rw [upd_upd]
      have d9 := d8.trans dr9
      have d11 := d9.trans (Dr.new (o := .lst (xs.set j v')) d9.box nl9)
      have s9 := same_del (b := bx) (same_new (o := .lst (xs.set j v')) nl9)
      refine ⟨_, rfl, l, _, rfl, .inl ⟨SqL.of upd_same, fun T nT => fin _ _ (ds.set j d') d11 (DpAll.same s9 _ (dp_put j (had _ d9) hp9)) ?_ T nT⟩⟩
      have mem : ∀ e' ∈ ds.set j d', e' = d' ∨ e' ∈ ds := fun e' he' => set_mem he'
      refine ⟨?_, ?_, ?_⟩
      · exact Gds_iff.mpr fun e' he' => (mem e' he').elim (fun z => z ▸ sm9.g) fun z => Gd.mono (by omega) _ (Gds_iff.mp (show Gds m ds from sz.g) e' z)
      · show PyData.weightAll (ds.set j d') ≤ _
        have w9 := sm9.w
        rw [set_at he, weightAll_app]
        have w1 : PyData.weightAll (d' :: ds.drop (j + 1)) = d'.weight + 1 + PyData.weightAll (ds.drop (j + 1)) := rfl
        omega
      · exact ⟨by rw [List.length_set]; omega, fun e' he' => (mem e' he').elim (fun z => z ▸ sm9.l) fun z => lenD_mono (by omega) (by omega) (sz.l.2 e' z)⟩
end
end XL
namespace XL
open PySem PySem.Spec PyProof.Rows L2
abbrev sKr : Stmt := topS 34
/-! ### constants -/
def tK (K : PySem.W.Frag) (d : PyData) : TE := fun σ H Q => ∀ v H', Same H H' → (∀ b, H b ≠ none → Dp K (delH H' b) v d) → Dp K H' v d → Q v H'
def tKs (K : PySem.W.Frag) (ds : List PyData) : TA := fun σ H Q => ∀ vs H', Same H H' → vs.length = ds.length → (∀ b, H b ≠ none → DpAll K (delH H' b) vs ds) → DpAll K H' vs ds → Q vs H'
theorem same_some {H H' : Hp} {b : Addr} (s : Same H H') (h : H b ≠ none) : H' b ≠ none := fun z => by
  cases e : H b with
  | none => exact h e
  | some o => rw [s _ _ e] at z; cases z
theorem PA.imp {X : Cx} {es : List Expr} {t t' : TA} (h : PA X es t) (i : ∀ σ H Q, t' σ H Q → t σ H Q) : PA X es t' := ⟨fun pos pins s σ H Q I q => h.run pos pins s σ H Q I (i σ H Q q)⟩
theorem del_upd_same {H : Hp} {p : Addr} {o : HO} : Same (delH H p) (upd H p o) := fun a q e => by
  by_cases h : a = p
  · rw [h, delH_same] at e; cases e
  · rw [upd_ne h]
    rw [delH_ne h] at e
    exact e
section
variable {X : Cx} {e : Expr} {es : List Expr} {d : PyData} {ds : List PyData} {k : Nat} {pos p2 : Pos}
theorem pe_kInt {i : Int} {j : Nat} : PE X (.Constant (.int i) j pos) (tK X.K (.int i)) := PE.imp pe_int fun σ H Q h => h _ _ (Same.refl _) (fun b _ => .int i) (.int i)
theorem pe_kBl {i : Bool} {j : Nat} : PE X (.Constant (.bool i) j pos) (tK X.K (.bool i)) := PE.imp pe_bl fun σ H Q h => h _ _ (Same.refl _) (fun b _ => .bl i) (.bl i)
theorem pe_kNon {j : Nat} : PE X (.Constant .none j pos) (tK X.K .none) := PE.imp pe_non fun σ H Q h => h _ _ (Same.refl _) (fun b _ => .non) .non
theorem pe_kStr {i : Str} {j : Nat} : PE X (.Constant (.str i) j pos) (tK X.K (.str i)) := PE.imp pe_str fun σ H Q h => h _ _ (Same.refl _) (fun b _ => .str i) (.str i)
theorem pe_kNeg {i : Int} {j : Nat} : PE X (.UnaryOp .USub (.Constant (.int i) j pos) p2) (tK X.K (.int (-i))) := PE.imp (pe_un un_neg pe_int) fun σ H Q h => ⟨_, rfl, h _ _ (Same.refl _) (fun b _ => .int _) (.int _)⟩
theorem pa_k0 : PA X [] (tKs X.K []) := PA.imp pa_nil fun σ H Q h => h _ _ (Same.refl _) rfl (fun b _ => .nil) .nil
theorem pa_k (h1 : PE X e (tK X.K d)) (h2 : PA X es (tKs X.K ds)) (hs : starEach (e :: es) X.env = (false, eval e X.env) :: starEach es X.env := by rfl) : PA X (e :: es) (tKs X.K (d :: ds)) :=
  PA.imp (pa_cons h1 h2 hs) fun σ H Q h => fun v H1 s1 p1 q1 vs H2 s2 l2 p2 q2 => h (v :: vs) H2 (s1.trans s2) (by simp [l2]) (fun b hb => .cons (Dp.same (same_del s2) _ (p1 b hb)) (p2 b (same_some s1 hb))) (.cons (Dp.same s2 _ q1) q2)
theorem pe_kTup (h : PA X es (tKs X.K ds)) (hl : ds.length ≤ 1000 := by decide) : PE X (.Tuple es k pos) (tK X.K (.tuple ds)) :=
  PE.imp (pe_tup h) fun σ H Q q => fun vs H1 s1 l1 p1 q1 => ⟨by rw [l1]; exact Nat.le_of_lt (small1000 hl), fun p np => q (.ref p) _ (s1.trans (same_new np)) (fun b hb => by
    have hb1 := same_some s1 hb
    have hn : p ≠ b := fun z => hb1 (by rw [← z]; exact np)
    exact dp_tup hn upd_same (DpAll.same (same_del (same_new np)) _ (p1 b hb))) (.tup (.inl (.inl upd_same)) (DpAll.same (same_new np) _ q1))⟩
theorem pe_kLst (h : PA X es (tKs X.K ds)) (hl : ds.length ≤ 1000 := by decide) : PE X (.List es pos) (tK X.K (.list ds)) :=
  PE.imp (pe_lst h) fun σ H Q q => fun vs H1 s1 l1 p1 q1 => ⟨by rw [l1]; exact Nat.le_of_lt (small1000 hl), fun p np => q (.ref p) _ (s1.trans (same_new np)) (fun b hb => by
    have hb1 := same_some s1 hb
    have hn : p ≠ b := fun z => hb1 (by rw [← z]; exact np)
    exact dp_lst hn upd_same (DpAll.same (same_del (same_new np)) _ (p1 b hb))) (.lst (SqL.of upd_same) (DpAll.same (same_new np) _ q1))⟩
end
def kFine : List PyData := [.tuple [.tuple []], .tuple [.tuple [.tuple [.int 0, .int 0], .tuple [.int 0, .int 1]]], .tuple [.tuple [.tuple [.int 0, .int 1]], .tuple [.tuple [.int 0, .int 0]]], .tuple [.tuple [.tuple [.int 0, .int 0], .tuple [.int 1, .int 0]], .tuple [.tuple [.int 1, .int 1], .tuple [.int 0, .int 1]]]]
def kB0 : List PyData := [.tuple [], .list [.tuple []], .tuple [.tuple [], .tuple []], .tuple [.tuple [.tuple [.int 0, .int 0]]], .tuple [.tuple [.tuple [.int 0, .int 0], .tuple [.int 0, .int 0]]], .tuple [.tuple [.tuple [.int 1, .int 0], .tuple [.int 1, .int 1]]], .tuple [.tuple [.tuple [.int 0, .int 0], .tuple [.int 0, .int 1]], .tuple []], .none]
def kB1 : List PyData := [.tuple [.tuple [.tuple [.int 0, .int 0], .tuple [.int 0, .bool true]]], .tuple [.tuple [.tuple [.int 0, .bool false], .tuple [.int 0, .int 1]]], .tuple [.tuple [.tuple [.int 0, .int 0], .tuple [.int 0, .int 1]], .tuple [.tuple [.int 1, .int 0], .tuple [.int 1, .int 1]]]]
def kB2 : PyData := .tuple [.list [.tuple [.int 0, .int 0], .tuple [.int 0, .int 1]]]
def kB3 : List PyData := [.str "a", .tuple [.tuple [.tuple [.int 0, .int 0], .list [.int 0, .int 1]]], .tuple [.tuple [.tuple [.int 0, .int 0], .tuple [.int 0, .int 2]]], .tuple [.tuple [.tuple [.int 0, .int 0], .tuple [.int 0, .int 1], .tuple [.int (-1), .int 0], .tuple [.int (-1), .int 1]]]]
def kB4 : PyData := .tuple [.tuple [.tuple [.int 0, .int 0, .int 0], .tuple [.int 0, .int 1]]]
def kBad : List PyData := (((kB0 ++ kB1) ++ [kB2]) ++ kB3) ++ [kB4]
theorem k_fine : kFine.all (fun d => mapB d == true) = true := by decide +kernel
theorem k_bad : kBad.all (fun d => mapB d == false) = true := by decide +kernel
theorem k_lenf : ∀ d ∈ kFine, lenD 18 6 d := by
  intro d hd
  simp only [kFine, List.mem_cons, List.not_mem_nil, or_false] at hd
  rcases hd with rfl | rfl | rfl | rfl <;> simp [lenD]
theorem k_lenb : ∀ d ∈ kBad, lenD 18 6 d := by
  intro d hd
  simp only [kBad, kB0, kB1, kB2, kB3, kB4, List.cons_append, List.nil_append, List.mem_cons, List.not_mem_nil, or_false] at hd
  rcases hd with rfl | rfl | rfl | rfl | rfl | rfl | rfl | rfl | rfl | rfl | rfl | rfl | rfl | rfl | rfl | rfl | rfl <;> first | exact trivial | (show PyData.strOk _ = true; decide +kernel) | simp [lenD]
section
variable {P : Program} {w : World} {K : PySem.W.Frag} {mg : Str → Option Value} {base : Heap}
abbrev nKr : List Str := ["_law_fine", "_law_bad", "_law_one"]
theorem scKr : FnScope nKr [] (defScope sKr) := ⟨rfl, rfl, rfl, by decide +kernel, rfl, by decide +kernel, by decide +kernel⟩
def spKr : Sp := fun vs H Q _ => vs = [] ∧ ∀ H', Same H H' → Q (.bl true) H'
theorem ok_kr {f fm : Addr} {fd fdm : FuncData} {k : Nat} (F : Fun K "_law_known_right" "_law_known_right" sKr f fd) (Mp : Fns P w K mg base k "is_map" ["thing"] (spMp K) fm fdm) (m_all : mg "all" = none) : FnOk P w K mg base CX0 (k + 1) f fd [] spKr := by
  refine F.ok scKr (fun vs H Q E h => ?_) (fun cdv A outer s0 H vs Q E hr h => ?_)
  · rw [h.1]; rfl
  obtain ⟨rfl, q⟩ := h
  refine ⟨_, (pss_cons (ps_set (i := 0) scKr.nd rfl (.inl rfl) (pe_lst (pa_k (pe_kTup (pa_k (pe_kTup pa_k0) pa_k0)) (pa_k (pe_kTup (pa_k (pe_kTup (pa_k (pe_kTup (pa_k pe_kInt (pa_k pe_kInt pa_k0))) (pa_k (pe_kTup (pa_k pe_kInt (pa_k pe_kInt pa_k0))) pa_k0))) pa_k0)) (pa_k (pe_kTup (pa_k (pe_kTup (pa_k (pe_kTup (pa_k pe_kInt (pa_k pe_kInt pa_k0))) pa_k0)) (pa_k (pe_kTup (pa_k (pe_kTup (pa_k pe_kInt (pa_k pe_kInt pa_k0))) pa_k0)) pa_k0))) (pa_k (pe_kTup (pa_k (pe_kTup (pa_k (pe_kTup (pa_k pe_kInt (pa_k pe_kInt pa_k0))) (pa_k (pe_kTup (pa_k pe_kInt (pa_k pe_kInt pa_k0))) pa_k0))) (pa_k (pe_kTup (pa_k (pe_kTup (pa_k pe_kInt (pa_k pe_kInt pa_k0))) (pa_k (pe_kTup (pa_k pe_kInt (pa_k pe_kInt pa_k0))) pa_k0))) pa_k0))) pa_k0))))))
    (pss_cons (ps_set (i := 1) scKr.nd rfl (.inl rfl) (pe_lst (pa_k (pe_kTup pa_k0) (pa_k (pe_kLst (pa_k (pe_kTup pa_k0) pa_k0)) (pa_k (pe_kTup (pa_k (pe_kTup pa_k0) (pa_k (pe_kTup pa_k0) pa_k0))) (pa_k (pe_kTup (pa_k (pe_kTup (pa_k (pe_kTup (pa_k pe_kInt (pa_k pe_kInt pa_k0))) pa_k0)) pa_k0)) (pa_k (pe_kTup (pa_k (pe_kTup (pa_k (pe_kTup (pa_k pe_kInt (pa_k pe_kInt pa_k0))) (pa_k (pe_kTup (pa_k pe_kInt (pa_k pe_kInt pa_k0))) pa_k0))) pa_k0)) (pa_k (pe_kTup (pa_k (pe_kTup (pa_k (pe_kTup (pa_k pe_kInt (pa_k pe_kInt pa_k0))) (pa_k (pe_kTup (pa_k pe_kInt (pa_k pe_kInt pa_k0))) pa_k0))) pa_k0)) (pa_k (pe_kTup (pa_k (pe_kTup (pa_k (pe_kTup (pa_k pe_kInt (pa_k pe_kInt pa_k0))) (pa_k (pe_kTup (pa_k pe_kInt (pa_k pe_kInt pa_k0))) pa_k0))) (pa_k (pe_kTup pa_k0) pa_k0))) (pa_k pe_kNon pa_k0))))))))))
    (pss_cons (ps_set (i := 1) scKr.nd rfl (.inl rfl) (pe_op op_cat (pv 1) (pe_lst (pa_k (pe_kTup (pa_k (pe_kTup (pa_k (pe_kTup (pa_k pe_kInt (pa_k pe_kInt pa_k0))) (pa_k (pe_kTup (pa_k pe_kInt (pa_k pe_kBl pa_k0))) pa_k0))) pa_k0)) (pa_k (pe_kTup (pa_k (pe_kTup (pa_k (pe_kTup (pa_k pe_kInt (pa_k pe_kBl pa_k0))) (pa_k (pe_kTup (pa_k pe_kInt (pa_k pe_kInt pa_k0))) pa_k0))) pa_k0)) (pa_k (pe_kTup (pa_k (pe_kTup (pa_k (pe_kTup (pa_k pe_kInt (pa_k pe_kInt pa_k0))) (pa_k (pe_kTup (pa_k pe_kInt (pa_k pe_kInt pa_k0))) pa_k0))) (pa_k (pe_kTup (pa_k (pe_kTup (pa_k pe_kInt (pa_k pe_kInt pa_k0))) (pa_k (pe_kTup (pa_k pe_kInt (pa_k pe_kInt pa_k0))) pa_k0))) pa_k0))) pa_k0))))))
    (pss_cons (ps_expr (pe_bm PySem.F.plainAttrs_list PySem.F.slot_list_append PySem.F.type_list_append mt_append (pv 1) (pa_cons (pe_kTup (pa_k (pe_kLst (pa_k (pe_kTup (pa_k pe_kInt (pa_k pe_kInt pa_k0))) (pa_k (pe_kTup (pa_k pe_kInt (pa_k pe_kInt pa_k0))) pa_k0))) pa_k0)) pa_nil)))
    (pss_cons (ps_set (i := 1) scKr.nd rfl (.inl rfl) (pe_op op_cat (pv 1) (pe_lst (pa_k pe_kStr (pa_k (pe_kTup (pa_k (pe_kTup (pa_k (pe_kTup (pa_k pe_kInt (pa_k pe_kInt pa_k0))) (pa_k (pe_kLst (pa_k pe_kInt (pa_k pe_kInt pa_k0))) pa_k0))) pa_k0)) (pa_k (pe_kTup (pa_k (pe_kTup (pa_k (pe_kTup (pa_k pe_kInt (pa_k pe_kInt pa_k0))) (pa_k (pe_kTup (pa_k pe_kInt (pa_k pe_kInt pa_k0))) pa_k0))) pa_k0)) (pa_k (pe_kTup (pa_k (pe_kTup (pa_k (pe_kTup (pa_k pe_kInt (pa_k pe_kInt pa_k0))) (pa_k (pe_kTup (pa_k pe_kInt (pa_k pe_kInt pa_k0))) (pa_k (pe_kTup (pa_k (pe_kNeg) (pa_k pe_kInt pa_k0))) (pa_k (pe_kTup (pa_k (pe_kNeg) (pa_k pe_kInt pa_k0))) pa_k0))))) pa_k0)) pa_k0)))))))
    (pss_cons (ps_expr (pe_bm PySem.F.plainAttrs_list PySem.F.slot_list_append PySem.F.type_list_append mt_append (pv 1) (pa_cons (pe_kTup (pa_k (pe_kTup (pa_k (pe_kTup (pa_k pe_kInt (pa_k pe_kInt (pa_k pe_kInt pa_k0)))) (pa_k (pe_kTup (pa_k pe_kInt (pa_k pe_kInt pa_k0))) pa_k0))) pa_k0)) pa_nil)))
    (pss_one (ps_ret (pe_and (pe_callB (r := rAll K) (cr_all rfl) rfl m_all boot_all (pa_cons (pe_lc (own := [("_law_one", 2)]) (g := gName 2) (tt := tYes) rfl scKr.nd (pi_seqA rfl (pv 0)) (blkOk_by (own := [("_law_one", 2)]) (N := nKr) (sc := defScope sKr) (by decide +kernel)) (fun _ _ _ _ _ => (pg_name (i := 2) scKr.nd rfl (.inl rfl))) (fun _ _ _ _ _ => pts_nil) (fun _ _ _ _ _ => pe_hide (pe_cmpR op_isBl (pe_fn Mp hr rfl (pa_cons (pv 2) pa_nil)) pe_bl (nomark _)))) pa_nil)) (pe_one (pe_callB (r := rAll K) (cr_all rfl) rfl m_all boot_all (pa_cons (pe_lc (own := [("_law_one", 2)]) (g := gName 2) (tt := tYes) rfl scKr.nd (pi_seqA rfl (pv 1)) (blkOk_by (own := [("_law_one", 2)]) (N := nKr) (sc := defScope sKr) (by decide +kernel)) (fun _ _ _ _ _ => (pg_name (i := 2) scKr.nd rfl (.inl rfl))) (fun _ _ _ _ _ => pts_nil) (fun _ _ _ _ _ => pe_hide (pe_cmpR op_isBl (pe_fn Mp hr rfl (pa_cons (pv 2) pa_nil)) pe_bl (nomark _)))) pa_nil)))))))))))), ?_⟩
  refine fun xs0 B0 u0 l0 _ d0 => ⟨(by rw [l0]; decide), fun p0 n0 => ?_⟩
  have e0 : (upd B0 p0 (.lst xs0)) p0 = some (.lst xs0) := upd_same
  have v0 := same_new n0 (o := .lst xs0)
  refine at_g (σ' := [some (.ref p0), none, none]) rfl ?_
  have w0 := u0.trans v0
  have D0 := DpAll.same v0 _ d0
  generalize upd B0 p0 (.lst xs0) = Z0 at e0 w0 D0
  refine fun xs1 B1 u1 l1 _ d1 => ⟨(by rw [l1]; decide), fun p1 n1 => ?_⟩
  refine at_g (σ' := [some (.ref p0), some (.ref p1), none]) rfl ?_
  refine ⟨_, rfl, fun xs2 B2 u2 l2 _ d2 => ⟨(by rw [l2]; decide), fun p2 n2 => ?_⟩⟩
  have e2 : (upd B2 p2 (.lst xs2)) p1 = some (.lst xs1) := same_new n2 _ _ (u2 _ _ upd_same)
  refine ⟨p1, p2, xs1, xs2, rfl, rfl, e2, upd_same, (by rw [l1, l2]; show 8 + 3 ≤ sizeLine; decide), fun p3 n3 => ?_⟩
  refine at_g (σ' := [some (.ref p0), some (.ref p3), none]) rfl ?_
  have t2 : Same B1 (upd B2 p2 (.lst xs2)) := (same_new n1).trans (u2.trans (same_new n2))
  have dA := DpAll.app (DpAll.same t2 _ d1) (DpAll.same (same_new n2 (o := .lst xs2)) _ d2)
  have w3 : Same Z0 (upd (upd B2 p2 (.lst xs2)) p3 (.lst (xs1 ++ xs2))) := u1.trans (t2.trans (same_new n3))
  have lA : (xs1 ++ xs2).length = 11 := by rw [List.length_append, l1, l2]; rfl
  have e3 : (upd (upd B2 p2 (.lst xs2)) p3 (.lst (xs1 ++ xs2))) p3 = some (.lst (xs1 ++ xs2)) := upd_same
  have f3 := same_new n3 (o := .lst (xs1 ++ xs2))
  have Z0p3 : Z0 p3 = none := by
    cases e : Z0 p3 with
    | none => rfl
    | some o => have := u1.trans t2 _ _ e; rw [n3] at this; cases this
  generalize upd B2 p2 (.lst xs2) = BA at f3 e3 w3 dA n3
  generalize upd BA p3 (.lst (xs1 ++ xs2)) = ZA at f3 e3 w3
  generalize xs1 ++ xs2 = xsA at e3 dA lA
  clear t2 d1 d2 u2 n2 l2 e2 n1 u1 l1
  refine ⟨_, rfl, .inl ⟨rfl, _, SqL.of e3⟩, fun vc ZB uc pc _ => ⟨p3, xsA, vc, rfl, rfl, uc _ _ e3, small2000 (by omega), ?_⟩⟩
  have np3 : ZA p3 ≠ none := by rw [e3]; exact fun z => by cases z
  have hBA : Same BA (delH ZB p3) := fun a o e => by
    rw [delH_ne (fun z => by rw [z, n3] at e; cases e)]
    exact uc _ _ (f3 _ _ e)
  have dB := DpAll.app (DpAll.same hBA _ dA) (.cons (pc p3 np3) .nil)
  have w4 : Same Z0 (upd ZB p3 (.lst (xsA ++ [vc]))) := fun a o e => by
    rw [upd_ne (fun z => by rw [z, Z0p3] at e; cases e)]
    exact uc _ _ (w3 _ _ e)
  have e4 : (upd ZB p3 (.lst (xsA ++ [vc]))) p3 = some (.lst (xsA ++ [vc])) := upd_same
  have f4 : Same (delH ZB p3) (upd ZB p3 (.lst (xsA ++ [vc]))) := del_upd_same
  generalize upd ZB p3 (.lst (xsA ++ [vc])) = ZC at w4 e4 f4
  have dC := DpAll.same f4 _ dB
  have lC : (xsA ++ [vc]).length = 12 := by rw [List.length_append, lA]; rfl
  generalize xsA ++ [vc] = xsC at e4 dC lC
  clear dB f4 hBA w3 pc uc np3 dA e3 f3 n3 Z0p3 lA
  refine ⟨_, rfl, fun xs4 B4 u4 l4 _ d4 => ⟨(by rw [l4]; decide), fun p4 n4 => ?_⟩⟩
  have t4 := same_new n4 (o := .lst xs4)
  refine ⟨p3, p4, xsC, xs4, rfl, rfl, t4 _ _ (u4 _ _ e4), upd_same, (by rw [lC, l4]; show 12 + 4 ≤ sizeLine; decide), fun p5 n5 => ?_⟩
  refine at_g (σ' := [some (.ref p0), some (.ref p5), none]) rfl ?_
  have dD := DpAll.app (DpAll.same (u4.trans t4) _ dC) (DpAll.same t4 _ d4)
  have w5 := w4.trans (u4.trans t4)
  generalize upd B4 p4 (.lst xs4) = BD at dD w5 n5
  have f5 := same_new n5 (o := .lst (xsC ++ xs4))
  have e5 : (upd BD p5 (.lst (xsC ++ xs4))) p5 = some (.lst (xsC ++ xs4)) := upd_same
  have lD : (xsC ++ xs4).length = 16 := by rw [List.length_append, lC, l4]; rfl
  have Z0p5 : Z0 p5 = none := by
    cases e : Z0 p5 with
    | none => rfl
    | some o => have := w5 _ _ e; rw [n5] at this; cases this
  generalize upd BD p5 (.lst (xsC ++ xs4)) = ZD at f5 e5
  generalize xsC ++ xs4 = xsD at e5 dD lD
  refine ⟨_, rfl, .inl ⟨rfl, _, SqL.of e5⟩, fun vd ZE ud pd _ => ⟨p5, xsD, vd, rfl, rfl, ud _ _ e5, small2000 (by omega), ?_⟩⟩
  have np5 : ZD p5 ≠ none := by rw [e5]; exact fun z => by cases z
  have hBD : Same BD (delH ZE p5) := fun a o e => by
    rw [delH_ne (fun z => by rw [z, n5] at e; cases e)]
    exact ud _ _ (f5 _ _ e)
  have dE := DpAll.app (DpAll.same hBD _ dD) (.cons (pd p5 np5) .nil)
  have w6 : Same Z0 (upd ZE p5 (.lst (xsD ++ [vd]))) := fun a o e => by
    rw [upd_ne (fun z => by rw [z, Z0p5] at e; cases e)]
    exact ud _ _ (f5 _ _ (w5 _ _ e))
  have e6 : (upd ZE p5 (.lst (xsD ++ [vd]))) p5 = some (.lst (xsD ++ [vd])) := upd_same
  have dF := DpAll.same (del_upd_same (H := ZE) (p := p5) (o := .lst (xsD ++ [vd]))) _ dE
  generalize upd ZE p5 (.lst (xsD ++ [vd])) = ZF at w6 e6 dF
  have lF : (xsD ++ [vd]).length = 17 := by rw [List.length_append, lD]; rfl
  generalize xsD ++ [vd] = xsF at e6 dF lF
  have eF0 := w6 _ _ e0
  have D0F : DpAll K ZF xs0 kFine := DpAll.same w6 _ D0
  have dFb : DpAll K ZF xsF kBad := dF
  have wHF : Same H ZF := w0.trans w6
  refine ⟨_, rfl, p0, xs0, true, fun Y => SqL K Y p0 xs0, rfl, SqL.of eF0, fun _ h => h, fun J wk => lc_map wk Same (fun a b => a.trans b) (fun i y F => ∃ d, kFine[i]? = some d ∧ y = .bl (mapB d == true)) (fun i y A B _ p => p) (by rw [l0]; decide) (Same.refl _) (fun D acc F sF nF => (sF.trans (same_new nF)).seq (SqL.of eF0)) (fun j x D acc F H' hj nD sF nF hy B hB => ?_) (fun D ys F nD sF nF hl hR => ?_)⟩
  · obtain ⟨rfl, hx⟩ := hy
    obtain ⟨d, ed, dx⟩ := DpAll.get D0F hx
    refine hB _ F rfl nF fun Qt hQ => ?_
    exact ⟨_, rfl, x, d, 6, rfl, Dp.same sF _ dx, k_lenf d (List.mem_of_getElem? ed), fun G s => ⟨_, _, rfl, rfl, hQ _ _ s ⟨d, ed, rfl⟩⟩⟩
  · have e := bls_map (f := fun d => mapB d == true) (ys := ys) (ds := kFine) (by rw [hl, DpAll.length D0F]) hR
    refine ⟨D, kFine.map (fun d => mapB d == true), rfl, by rw [← e]; exact SqL.of upd_same, ?_⟩
    rw [all_map, k_fine]
    have sG := sF.trans (same_new nF (o := .lst ys))
    generalize upd F D (.lst ys) = ZG at sG
    clear sF nF hl hR nD
    refine ⟨true, rfl, iteT ?_⟩
    refine ⟨_, rfl, p5, xsF, true, fun Y => SqL K Y p5 xsF, rfl, SqL.of (sG _ _ e6), fun _ h => h, fun J wk => lc_map wk Same (fun a b => a.trans b) (fun i y F => ∃ d, kBad[i]? = some d ∧ y = .bl (mapB d == false)) (fun i y A B _ p => p) (by rw [lF]; decide) (Same.refl _) (fun D acc F sF nF => (sF.trans (same_new nF)).seq (SqL.of (sG _ _ e6))) (fun j x D acc F H' hj nD sF nF hy B hB => ?_) (fun D ys F nD sF nF hl hR => ?_)⟩
    · obtain ⟨rfl, hx⟩ := hy
      obtain ⟨d, ed, dx⟩ := DpAll.get (DpAll.same sG _ dFb) hx
      refine hB _ F rfl nF fun Qt hQ => ?_
      exact ⟨_, rfl, x, d, 6, rfl, Dp.same sF _ dx, k_lenb d (List.mem_of_getElem? ed), fun G s => ⟨_, _, rfl, rfl, hQ _ _ s ⟨d, ed, rfl⟩⟩⟩
    · have e := bls_map (f := fun d => mapB d == false) (ys := ys) (ds := kBad) (by rw [hl, DpAll.length (DpAll.same sG _ dFb)]) hR
      refine ⟨D, kBad.map (fun d => mapB d == false), rfl, by rw [← e]; exact SqL.of upd_same, ?_⟩
      rw [all_map, k_bad]
      have sG2 := sF.trans (same_new nF (o := .lst ys))
      generalize upd F D (.lst ys) = ZH at sG2
      clear sF nF hl hR nD
      exact q _ (wHF.trans (sG.trans sG2))
end
end XL
namespace XL
open PySem PySem.Spec PyProof.Rows L2
/-! ### a drawn map is a map -/
theorem hng_true {n : Nat} {c : Cht} (H : Hng c) (wf : WfC n c) (hc : c ≠ []) : hgB n c = true := by
  have pos := List.length_pos_iff.mpr hc
  refine decide_eq_true ((pieces_one (pr0_ok wf)).mpr ⟨pos, fun j j0 j1 => ?_⟩)
  by_cases l1 : c.length = 1
  · have : j = 0 := by omega
    subst this
    exact .refl
  · have ne : ∀ a ∈ c, a ≠ [] := fun a ha z => l1 (H.one a ha z)
    have row : ∀ (i : Nat) (a : List Tip), c[i]? = some a → ∀ e ∈ a, e ∈ c.flatten ∧ wz c e = (i : Int) := fun i a ha e he => by
      obtain ⟨m1, m2⟩ := whr_at wf.nd ha he
      exact ⟨m1, by unfold wz; rw [m2]⟩
    have key := H.all (fun e => Cc (pr0 n c) 0 (wz c e)) (fun a ha x hx y hy p => by
      obtain ⟨i, hi⟩ := List.mem_iff_getElem?.mp ha
      show Cc (pr0 n c) 0 (wz c y)
      rw [(row i a hi y hy).2, ← (row i a hi x hx).2]
      exact p) (fun e he p => by
      obtain ⟨g, hg, e1⟩ := wf.mem.mp he
      have m : (wz c ((g : Int), 0), wz c ((g : Int), 1)) ∈ pr0 n c := List.mem_map.mpr ⟨g, List.mem_range.mpr hg, rfl⟩
      rcases e1 with rfl | rfl
      · exact Cc.fw p m
      · exact Cc.bw p m)
    have h0 : c[0]? = some (c[0]'pos) := List.getElem?_eq_getElem _
    obtain ⟨e0, he0⟩ := List.exists_mem_of_ne_nil _ (ne _ (List.getElem_mem pos))
    obtain ⟨m0, w0⟩ := row 0 _ h0 e0 he0
    obtain ⟨k, rfl⟩ := Int.eq_ofNat_of_zero_le j0
    have kl : k < c.length := by omega
    have hk : c[k]? = some (c[k]'kl) := List.getElem?_eq_getElem _
    obtain ⟨e, he⟩ := List.exists_mem_of_ne_nil _ (ne _ (List.getElem_mem kl))
    obtain ⟨m1, w1⟩ := row k _ hk e he
    have := key e0 m0 (by show Cc (pr0 n c) 0 (wz c e0); rw [w0]; exact .refl) e m1
    rw [← w1]
    exact this
theorem map_true {n : Nat} {c : Cht} (H : Hng c) (wf : WfC n c) (hc : c ≠ []) : mapB (chT c) = true := by
  have h := wf_half wf
  rw [mapB_chT, h, hng_true H wf hc, show permB c = true from permB_iff.mpr (by rw [h]; exact wf)]
  rfl
theorem flat_in {c : Cht} {a : List Tip} (h : a ∈ c) : a.length ≤ c.flatten.length := by
  induction c with
  | nil => cases h
  | cons b c ih =>
    rw [List.flatten_cons, List.length_append]
    rcases List.mem_cons.mp h with rfl | h
    · omega
    · have := ih h; omega
theorem int_w {i : Int} (h : i.natAbs ≤ 100) : PyData.weight (.int i) ≤ 7 := by
  show (if i == 0 then 0 else i.natAbs.log2 + 1) ≤ 7
  split
  · omega
  · rename_i h0
    have nz : i.natAbs ≠ 0 := fun e => h0 (by rw [Int.natAbs_eq_zero.mp e]; rfl)
    have := (Nat.log2_lt nz).mpr (Nat.lt_of_le_of_lt h (show 100 < 2 ^ 7 by decide))
    omega
theorem chT_w {c : Cht} (hb : ∀ e ∈ c.flatten, e.1.natAbs ≤ 100 ∧ e.2.natAbs ≤ 100) : PyData.weightAll (c.map fun a => PyData.tuple (a.map enD)) ≤ c.length + c.flatten.length * 17 := by
  have row : ∀ a : List Tip, (∀ e ∈ a, e.1.natAbs ≤ 100 ∧ e.2.natAbs ≤ 100) → PyData.weightAll (a.map enD) ≤ a.length * 17 := by
    intro a
    induction a with
    | nil => intro _; exact Nat.le_refl _
    | cons e a ih =>
      intro h
      have h1 := int_w (h e (List.mem_cons_self ..)).1
      have h2 := int_w (h e (List.mem_cons_self ..)).2
      have h3 := ih fun x hx => h x (List.mem_cons_of_mem _ hx)
      have e1 : PyData.weightAll ((e :: a).map enD) = (PyData.weight (.int e.1) + 1 + (PyData.weight (.int e.2) + 1 + 0)) + 1 + PyData.weightAll (a.map enD) := rfl
      rw [e1, List.length_cons]
      omega
  induction c with
  | nil => exact Nat.le_refl _
  | cons a c ih =>
    rw [List.flatten_cons] at hb
    have h1 := row a fun e he => hb e (List.mem_append_left _ he)
    have h2 := ih fun e he => hb e (List.mem_append_right _ he)
    have e1 : PyData.weightAll ((a :: c).map fun a => PyData.tuple (a.map enD)) = PyData.weightAll (a.map enD) + 1 + PyData.weightAll (c.map fun a => PyData.tuple (a.map enD)) := rfl
    rw [e1, List.flatten_cons, List.length_append, List.length_cons]
    omega
theorem sz_chT {n : Nat} {c : Cht} (wf : WfC n c) (hn : n ≤ 8) (hl : c.length ≤ 6) : SzD 100 300 16 3 (chT c) := by
  have flen := wf.len
  have hb : ∀ e ∈ c.flatten, e.1.natAbs ≤ 100 ∧ e.2.natAbs ≤ 100 := fun e he => by
    obtain ⟨g, hg, rfl | rfl⟩ := wf.mem.mp he
    · exact ⟨by show (g : Int).natAbs ≤ _; omega, by show (0 : Int).natAbs ≤ 100; decide⟩
    · exact ⟨by show (g : Int).natAbs ≤ _; omega, by show (1 : Int).natAbs ≤ 100; decide⟩
  refine ⟨?_, ?_, ?_⟩
  · show Gds 100 _
    refine Gds_iff.mpr fun d hd => ?_
    obtain ⟨a, ha, rfl⟩ := List.mem_map.mp hd
    show Gds 100 _
    refine Gds_iff.mpr fun d hd => ?_
    obtain ⟨e, he, rfl⟩ := List.mem_map.mp hd
    have h := hb e (List.mem_flatten.mpr ⟨a, ha, he⟩)
    exact ⟨h.1, h.2, trivial⟩
  · have := chT_w hb
    show PyData.weightAll _ ≤ 300
    omega
  · refine ⟨by rw [List.length_map]; omega, fun d hd => ?_⟩
    obtain ⟨a, ha, rfl⟩ := List.mem_map.mp hd
    have fa := flat_in ha
    refine ⟨by rw [List.length_map]; omega, fun d hd => ?_⟩
    obtain ⟨e, he, rfl⟩ := List.mem_map.mp hd
    refine ⟨by show 2 ≤ 16; decide, fun d hd => ?_⟩
    simp only [List.mem_cons, List.not_mem_nil, or_false] at hd
    rcases hd with rfl | rfl <;> trivial
/-- what repr and the rest are asked of -/
theorem SzD.ask {m w N D : Nat} {d : PyData} (s : SzD m w N D d) (hm : m ≤ 10 ^ 32) (hw : w ≤ 300000) (hD : D ≤ 50) : d.showable = true ∧ d.hasDict = false ∧ d.depth ≤ 50 ∧ d.shown.length ≤ sizeLine := by
  obtain ⟨a, b, c⟩ := Gd.shows hm d s.g
  have := (lenD_lay s.l).2
  have := s.w
  exact ⟨a, b, by omega, shown_fits40 c (by omega)⟩
theorem boot_repr' : bootBuiltins "repr" = some (.builtin "repr") := by decide +kernel
section
variable {P : Program} {w : World} {K : PySem.W.Frag} {mg : Str → Option Value} {base : Heap}
def spB2 (K : PySem.W.Frag) : Sp := fun vs H Q E => ∃ n ≤ 9, spBt K n vs H Q E
theorem ok_b2 {f ft fo : Addr} {fd fdt fdo : FuncData} (F : Fun K "_law_bent" "_law_bent" sBt f fd) (b : Binds K fd ["_law_box_here", "_law_made"] []) (gF : mg "_law_bent" = some (.ref f)) (T0 : Fns P w K mg base 3 "_law_take" ["_law_box_here", "_law_size"] spTake ft fdt) (O0 : Fns P w K mg base 3 "_law_odd" ["_law_box_here", "_law_made"] (spOd K) fo fdo)
    (m_isinstance : mg "isinstance" = none) (m_list : mg "list" = none) (m_tuple : mg "tuple" = none) (m_len : mg "len" = none) : FnOk P w K mg base CX0 13 f fd ["_law_box_here", "_law_made"] (spB2 K) := by
  have G : ∀ n, n ≤ 9 → FnOk P w K mg base CX0 13 f fd ["_law_box_here", "_law_made"] (spBt K n) := fun n hn => fn_up (show n + 4 ≤ 13 by omega) (ok_bt F b gF T0 O0 m_isinstance m_list m_tuple m_len n)
  exact ⟨fun vs H Q E ⟨n, hn, h⟩ => (G n hn).len vs H Q E h, fun A outer s H args us vs Q E hr e0 hb r ⟨n, hn, h⟩ => (G n hn).run A outer s H args us vs Q E hr e0 hb r h⟩
end
end XL
namespace XL
open PySem PySem.Spec PyProof.Rows L2
abbrev sRight : Stmt := topS 35
theorem ife_same {c : Bool} {A : Prop} (h : A) : if c = true then A else A := by cases c <;> exact h
section
variable {P : Program} {w : World} {K : PySem.W.Frag} {mg : Str → Option Value} {base : Heap}
abbrev nRight : List Str := ["_law_box_here", "_law_made", "_law_things", "_law_turn", "_law_bent_here", "_law_one", "_law_kept"]
theorem scRight : FnScope nRight ["_law_box_here"] (defScope sRight) := ⟨rfl, rfl, rfl, by decide +kernel, rfl, by decide +kernel, by decide +kernel⟩
def spRight : Sp := fun vs H Q _ => ∃ b : Addr, vs = [.ref b] ∧ Bx H b ∧ ∀ H' : Hp, Dr b H H' → Q (.bl true) H'
/-- a thing that is asked about -/
def Tg (d : PyData) : Prop := SzD (3 * 10 ^ 13) 5000 18 7 d
theorem ok_right {f f1 f2 f3 f4 f5 f6 f7 : Addr} {fd fd1 fd2 fd3 fd4 fd5 fd6 fd7 : FuncData} (F : Fun K "_law_right" "_law_right" sRight f fd)
    (Tk : Fns P w K mg base 13 "_law_take" ["_law_box_here", "_law_size"] spTake f1 fd1) (Fl : Fns P w K mg base 13 "_law_flat_chart" ["_law_box_here", "_law_wide", "_law_utmost"] (spFl K) f2 fd2) (An : Fns P w K mg base 13 "_law_any_chart" ["_law_box_here", "_law_wide", "_law_utmost"] (spFl K) f3 fd3)
    (Mp : Fns P w K mg base 13 "is_map" ["thing"] (spMp K) f4 fd4) (Ic : Fns P w K mg base 13 "_law_is_chart" ["_law_made"] (spIc K) f5 fd5) (Bt : Fns P w K mg base 13 "_law_bent" ["_law_box_here", "_law_made"] (spB2 K) f6 fd6) (Sa : Fns P w K mg base 13 "_law_same" ["_law_found", "_law_due"] (spSame K 13) f7 fd7)
    (kbMp : KBinds K fd4 ["thing"] ["thing"] g1 g1) (m_repr : mg "repr" = none) (m_range : mg "range" = none) (m_list : mg "list" = none) :
    FnG P w K mg base 14 f fd ["_law_box_here"] spRight := by
  refine okG F scRight (fun vs H Q E h => ?_) (fun cdv A outer s H vs Q E hG hr h => ?_)
  · obtain ⟨b, rfl, _⟩ := h
    rfl
  obtain ⟨b, rfl, hb, q⟩ := h
  refine ⟨_, (pss_cons (ps_set (i := 1) scRight.nd rfl (.inl rfl) (pe_ifExp (pt_cmpR op_eq (pe_fn Tk hr rfl (pa_cons (pv 0) (pa_cons pe_int pa_nil))) pe_int (nomark _)) (pe_fn Fl hr rfl (pa_cons (pv 0) (pa_cons pe_int (pa_cons pe_int pa_nil)))) (pe_fn An hr rfl (pa_cons (pv 0) (pa_cons pe_int (pa_cons pe_int pa_nil))))))
    (pss_cons (ps_if (PW.pt (pw_or (pt_cmpR op_notBl (pe_fn Mp hr rfl (pa_cons (pv 1) pa_nil)) pe_bl (nomark _)) (pw_or1 (pt_not (pt_val (pe_fn Ic hr rfl (pa_cons (pv 1) pa_nil))))))) (pss_one (ps_ret pe_bl)) pss_nil)
    (pss_cons (ps_set (i := 2) scRight.nd rfl (.inl rfl) (pe_lst (pa_cons (pv 1) (pa_cons (pe_callTy (r := rLstA K) call_listA rfl m_list boot_list (pa_cons (pv 1) pa_nil)) (pa_cons (pe_op op_catU (pv 1) (pe_tup (pa_cons (pe_tup pa_nil) pa_nil))) (pa_cons (pe_slice sl_tupU (pv 1) (po_some pe_int) po_none) pa_nil))))))
    (pss_cons (ps_for PassesOwn.never rfl (pi_range1 rfl m_range (pa_cons pe_int pa_nil)) (pg_name (i := 3) scRight.nd rfl (.inl rfl))
    (pss_cons (ps_set (i := 4) scRight.nd rfl (.inl rfl) (pe_callH Bt.ok hr rfl Bt.g Bt.k Bt.b (pa_cons (pv 0) (pa_cons (pv 1) pa_nil))))
    (pss_one (ps_expr (pe_bm PySem.F.plainAttrs_list PySem.F.slot_list_append PySem.F.type_list_append mt_append (pv 2) (pa_cons (pe_ifExp (pt_cmpR op_eq (pe_callH Tk.ok hr rfl Tk.g Tk.k Tk.b (pa_cons (pv 0) (pa_cons pe_int pa_nil))) pe_int (nomark _)) (pe_callH Bt.ok hr rfl Bt.g Bt.k Bt.b (pa_cons (pv 0) (pa_cons (pv 4) pa_nil))) (pv 4)) pa_nil))))))
    (pss_cons (ps_for PassesOwn.never rfl (pi_seqA rfl (pv 2)) (pg_name (i := 5) scRight.nd rfl (.inl rfl))
    (pss_cons (ps_set (i := 6) scRight.nd rfl (.inl rfl) (pe_rep2 hG hr rfl m_repr boot_repr' (pv 5)))
    (pss_one (ps_if (PW.pt (pw_or (pt_not (pt_val (pe_fn Sa hr rfl (pa_cons (pe_lst (pa_cons (pe_fn Mp hr rfl (pa_cons (pv 5) pa_nil)) (pa_cons (pe_callK0 Mp.ok hr rfl Mp.g Mp.k kbMp pass0 (pk_cons (pv 5) pk_nil)) pa_nil))) (pa_cons (pe_op op_rep (pe_lst (pa_cons (pe_fn Ic hr rfl (pa_cons (pv 5) pa_nil)) pa_nil)) pe_int) pa_nil))))) (pw_or1 (pt_cmpR op_ne (pe_rep2 hG hr rfl m_repr boot_repr' (pv 5)) (pv 6) (nomark _))))) (pss_one (ps_ret pe_bl)) pss_nil))))
    (pss_one (ps_ret pe_bl))))))), ?_⟩
  refine ⟨_, rfl, b, 2, rfl, hb, by decide, by decide, fun v H1 _ _ d1 => ⟨rfl, _, rfl, ife_same ?_⟩⟩
  refine ⟨_, rfl, b, 6, 8, rfl, d1.box, by decide, by decide, by decide, fun p c n H2 d2 np hm wf hn cne cl hng => ?_⟩
  have dH := d1.trans d2
  refine at_g (σ' := [some (.ref b), some (.ref p), none, none, none, none, none]) rfl ?_
  clear d1 d2 np
  have sz0 := sz_chT wf hn cl
  have mt := map_true hng wf cne
  have len0 : lenD 18 3 (chT c) := lenD_mono (by decide) (Nat.le_refl _) sz0.l
  refine ⟨_, rfl, _, chT c, 3, rfl, hm, len0, fun H3 s3 => ⟨_, _, rfl, rfl, _, rfl, ?_⟩⟩
  rw [mt]
  refine iteF ⟨_, rfl, _, chT c, 3, rfl, Dp.same s3 _ hm, len0, by decide, fun H4 s4 => ⟨_, rfl, ?_⟩⟩
  rw [mt]
  refine iteF ?_
  have d4 := dH.trans (Dr.of dH.box (s3.trans s4))
  have hm4 := Dp.same (s3.trans s4) _ hm
  clear s3 s4 hm dH
  have hmd : Dp K (delH H4 b) (.ref p) (chT c) := Dp.tp (tp_del d4.box) _ (noL_rws c) hm4
  have hmd' := hmd
  cases hmd' with
  | tup hs ha =>
  rename_i xs
  have lx := DpAll.length ha
  rw [List.length_map] at lx
  have hs1 : SqT K H4 p xs := Same.tup del_same hs
  have bx4 := d4.box
  refine ⟨_, rfl, _, rfl, p, xs, rfl, .inr hs1, fun l1 n1 => ?_⟩
  obtain ⟨u1, b1, e1⟩ := mk_lst (K := K) bx4 n1 ha
  have ha1 := DpAll.same (same_del (b := b) u1) _ ha
  have hs2 := Same.tup u1 hs1
  generalize upd H4 l1 (.lst xs) = Y1 at u1 b1 e1 ha1 hs2
  refine ⟨_, rfl, (by show 0 ≤ sizeLine; decide), fun t1 n2 => ⟨(by show 1 ≤ sizeLine; decide), fun t2 n3 => ?_⟩⟩
  obtain ⟨u2, b2, e2⟩ := mk_tup (K := K) b1 n2 .nil
  generalize upd Y1 t1 (.tup []) = Y2 at u2 b2 e2 n3
  obtain ⟨u3, b3, _⟩ := mk_tup (K := K) b2 n3 (.cons e2 .nil)
  have et2 : (upd Y2 t2 (.tup [.ref t1])) t2 = some (.tup [.ref t1]) := upd_same
  have e2' := Dp.same (same_del (b := b) u3) _ e2
  generalize upd Y2 t2 (.tup [.ref t1]) = Y3 at u3 b3 et2 e2'
  have u13 := u1.trans (u2.trans u3)
  have ha3 := DpAll.same (same_del (b := b) u13) _ ha
  refine ⟨p, t2, xs, _, rfl, rfl, Same.tup u13 hs1, .inl (.inl et2), (by rw [lx, sizeLine_eq]; show c.length + 1 ≤ _; omega), fun p3 Y4 u4 h4 => ?_⟩
  have b4 := (Dr.of b3 u4).box
  have e4 := dp_tupS b4 h4 (DpAll.app (DpAll.same (same_del (b := b) u4) _ ha3) (.cons (Dp.same (same_del (b := b) u4) _ e2') .nil))
  have u14 := u13.trans u4
  refine ⟨_, rfl, 1, rfl, p, xs, rfl, Same.tup u14 hs1, fun p5 Y5 u5 h5 => ?_⟩
  rw [show cutV xs (some 1) none = xs.drop 1 from cut_from xs 1] at h5
  have b5 := (Dr.of b4 u5).box
  have u15 := u14.trans u5
  have ha5 := DpAll.same (same_del (b := b) u15) _ ha
  have e5 := dp_tupS b5 h5 (dp_drop 1 ha5)
  have e1' := Dp.same (same_del (b := b) ((u2.trans u3).trans (u4.trans u5))) _ e1
  have e4' := Dp.same (same_del (b := b) u5) _ e4
  have hm5 := Dp.same (same_del (b := b) u15) _ hmd
  refine ⟨(by show 4 ≤ sizeLine; decide), fun l nl => ?_⟩
  refine at_g (σ' := [some (.ref b), some (.ref p), some (.ref l), none, none, none, none]) rfl ?_
  have d5 := d4.trans (Dr.of d4.box u15)
  obtain ⟨rows, hrows⟩ : ∃ rows : List PyData, rows = c.map fun a => PyData.tuple (a.map enD) := ⟨_, rfl⟩
  have ect : chT c = .tuple rows := congrArg PyData.tuple hrows.symm
  have all4 : DpAll K (delH Y5 b) [.ref p, .ref l1, .ref p3, .ref p5] [.tuple rows, .list rows, .tuple (rows ++ [.tuple []]), .tuple (rows.drop 1)] := by
    rw [hrows]
    exact .cons hm5 (.cons e1' (.cons e4' (.cons e5 .nil)))
  have tg4 : ∀ d ∈ [PyData.tuple rows, .list rows, .tuple (rows ++ [.tuple []]), .tuple (rows.drop 1)], Tg d := by
    have rl : rows.length ≤ 6 := by rw [hrows, List.length_map]; exact cl
    have s0 := sz0
    rw [ect] at s0
    have w0 : PyData.weightAll rows ≤ 300 := s0.w
    have g0 : Gds 100 rows := s0.g
    have l0 : ∀ d ∈ rows, lenD 16 2 d := s0.l.2
    intro d hd
    simp only [List.mem_cons, List.not_mem_nil, or_false] at hd
    rcases hd with rfl | rfl | rfl | rfl
    · exact s0.up (by decide) (by decide) (by decide) (by decide)
    · exact ((sz_seq (w' := 5000) (N' := 18) (D' := 7) (ds := rows) rfl s0 (fun e he => he) (by omega) (by omega) (by decide) (by decide)).2).up (by decide) (Nat.le_refl _) (Nat.le_refl _) (Nat.le_refl _)
    · refine ⟨?_, ?_, ?_⟩
      · exact Gds_app.mpr ⟨Gds.mono (by decide) _ g0, trivial, trivial⟩
      · show PyData.weightAll (rows ++ [.tuple []]) ≤ 5000
        rw [weightAll_app]
        have : PyData.weightAll [PyData.tuple []] = 1 := rfl
        omega
      · refine ⟨by rw [List.length_append]; show rows.length + 1 ≤ 18; omega, fun d hd => ?_⟩
        rcases List.mem_append.mp hd with q | q
        · exact lenD_mono (by decide) (by decide) (l0 d q)
        · rw [List.mem_singleton.mp q]
          exact ⟨by show 0 ≤ 18; decide, fun d hd => by cases hd⟩
    · exact ((sz_seq (w' := 5000) (N' := 18) (D' := 7) (ds := rows.drop 1) rfl s0 (fun e he => List.mem_of_mem_drop he) (by rw [List.length_drop]; omega) (by have := weight_drop rows 1; omega) (by decide) (by decide)).1).up (by decide) (Nat.le_refl _) (Nat.le_refl _) (Nat.le_refl _)
  have hm0 : Dp K (delH Y5 b) (.ref p) (.tuple rows) := by rw [← ect]; exact hm5
  rw [ect] at sz0
  clear u15 u14 u13 u1 u2 u3 u4 u5 e1 e2 e2' e4 e5 e1' e4' hm5 h4 h5 ha5 ha3 ha1 b1 b2 b3 b4 hs2 et2 d4 hm4 hmd hs1 bx4 n1 n2 n3
  have len4 : ([.ref p, .ref l1, .ref p3, .ref p5] : List V).length = 4 := rfl
  generalize ([.ref p, .ref l1, .ref p3, .ref p5] : List V) = xs0 at all4 len4
  generalize [PyData.tuple rows, .list rows, .tuple (rows ++ [.tuple []]), .tuple (rows.drop 1)] = ds0 at all4 tg4
  refine ⟨10, rfl, by decide, by decide, for_it walk_range (fun i σ G => ∃ (y3 y4 : Option V) (xs : List V) (ds : List PyData) (Fh : Hp), σ = [some (.ref b), some (.ref p), some (.ref l), y3, y4, none, none] ∧ G = upd Fh l (.lst xs) ∧ Fh l = none ∧ Dr b H Fh ∧ Dp K (delH Fh b) (.ref p) (.tuple rows) ∧ DpAll K (delH Fh b) xs ds ∧ (∀ d ∈ ds, Tg d) ∧ xs.length = 4 + i)
    ⟨none, none, xs0, ds0, Y5, rfl, rfl, nl, d5, hm0, all4, tg4, len4⟩ (fun _ _ _ _ _ => trivial) (fun i x σ G G' hi h hy => ?_) (fun σ G h => ?_)⟩
  · obtain ⟨y3, y4, ys, es, Fh, rfl, rfl, nF, dF, hmF, hall, hok, hln⟩ := h
    obtain ⟨rfl, rfl⟩ := hy
    have hi' : i < 10 := hi
    have w300 : PyData.weight (.tuple rows) ≤ 300 := sz0.w
    refine at_g (σ' := [some (.ref b), some (.ref p), some (.ref l), some (.int (0 + i)), y4, none, none]) rfl ?_
    refine ⟨_, rfl, _, rfl, l, ys, upd_same, ?_⟩
    rw [delH_upd nF]
    refine ⟨3, by decide, b, .ref p, .tuple rows, 100, 16, rfl, dF.box, hmF, sz0.up (Nat.le_refl _) (by decide) (Nat.le_refl _) (Nat.le_refl _), by decide, by decide, by decide, by decide, fun v1 x1 F1 r1 p1 m1 k1 => ?_⟩
    refine at_g (σ' := [some (.ref b), some (.ref p), some (.ref l), some (.int (0 + i)), some v1, none, none]) rfl ?_
    refine ⟨_, rfl, .inl ⟨rfl, _, SqL.of upd_same⟩, _, rfl, l, ys, upd_same, ?_⟩
    rw [delH_upd k1]
    refine ⟨b, 3, rfl, r1.box, by decide, by decide, fun v3 F2 _ _ r2 k2 => ⟨rfl, _, rfl, ite2 (fun c3 => ?_) (fun c3 => ?_)⟩⟩
    · refine ⟨_, rfl, _, rfl, l, ys, upd_same, ?_⟩
      rw [delH_upd k2]
      have w1 := m1.w
      refine ⟨5, by decide, b, v1, x1, 100 + 10 ^ 13, 17, rfl, r2.box, Dp.same r2.del _ p1, m1.up (Nat.le_refl _) (by omega) (Nat.le_refl _) (Nat.le_refl _), by decide, by decide, by decide, by decide, fun v5 x5 F5 r5 p5 m5 k5 => ?_⟩
      refine ⟨l, ys, _, rfl, rfl, upd_same, small2000 (by omega), ?_⟩
      rw [upd_upd]
      have r15 := (r1.trans r2).trans r5
      refine ⟨_, _, ys ++ [v5], es ++ [x5], F5, rfl, rfl, k5, dF.trans r15, Dp.same r15.del _ hmF, DpAll.app (DpAll.same r15.del _ hall) (.cons p5 .nil), fun d hd => ?_, by rw [List.length_append, hln]; rfl⟩
      rcases List.mem_append.mp hd with z | z
      · exact hok d z
      · rw [List.mem_singleton.mp z]
        exact m5.up (by decide) (by omega) (by decide) (by decide)
    · refine ⟨_, rfl, ?_⟩
      refine ⟨l, ys, _, rfl, rfl, upd_same, small2000 (by omega), ?_⟩
      rw [upd_upd]
      have r12 := r1.trans r2
      refine ⟨_, _, ys ++ [v1], es ++ [x1], F2, rfl, rfl, k2, dF.trans r12, Dp.same r12.del _ hmF, DpAll.app (DpAll.same r12.del _ hall) (.cons (Dp.same r2.del _ p1) .nil), fun d hd => ?_, by rw [List.length_append, hln]; rfl⟩
      rcases List.mem_append.mp hd with z | z
      · exact hok d z
      · rw [List.mem_singleton.mp z]
        exact m1.up (by decide) (by omega) (by decide) (by decide)
  · obtain ⟨y3, y4, ys, es, Fh, rfl, rfl, nF, dF, hmF, hall, hok, hln⟩ := h
    have eL : (upd Fh l (.lst ys)) l = some (.lst ys) := upd_same
    have sG : Same (delH Fh b) (upd Fh l (.lst ys)) := fun a o e => same_new nF _ _ (del_same _ _ e)
    have dG := dF.trans (Dr.of dF.box (same_new nF (o := .lst ys)))
    have hallG := DpAll.same sG _ hall
    have lyd := DpAll.length hallG
    generalize upd Fh l (.lst ys) = G0 at eL dG hallG
    clear sG hall hmF dF nF
    refine ⟨_, rfl, l, ys, true, fun Y => SqL K Y l ys, rfl, SqL.of eL, fun _ h => h, fun J wk => for_it wk (fun i σ Z => ∃ (y5 y6 : Option V), σ = [some (.ref b), some (.ref p), some (.ref l), y3, y4, y5, y6] ∧ Same G0 Z) ⟨none, none, rfl, Same.refl _⟩ (fun i σ Z _ h => ?_) (fun i x σ Z Z' hi h hy => ?_) (fun σ Z h => ?_)⟩
    · obtain ⟨_, _, _, sZ⟩ := h
      exact sZ.seq (SqL.of eL)
    · obtain ⟨y5, y6, rfl, sZ⟩ := h
      obtain ⟨rfl, hx⟩ := hy
      obtain ⟨d, ed, dx⟩ := DpAll.get hallG hx
      have tg := hok d (List.mem_of_getElem? ed)
      obtain ⟨a1, a2, a3, a4⟩ := tg.ask (by decide) (by decide) (by decide)
      have dZ := Dp.same sZ _ dx
      refine at_g (σ' := [some (.ref b), some (.ref p), some (.ref l), y3, y4, some x, y6]) rfl ?_
      refine ⟨_, rfl, d, dZ, a1, a2, a3, a4, ?_⟩
      refine at_g (σ' := [some (.ref b), some (.ref p), some (.ref l), y3, y4, some x, some (.str d.shown)]) rfl ?_
      refine ⟨_, rfl, x, d, 7, rfl, dZ, tg.l, fun Ha sa => ⟨_, rfl, x, d, 7, rfl, Dp.same sa _ dZ, tg.l, fun Hb sb => ⟨(by show 2 ≤ sizeLine; decide), fun la na => ?_⟩⟩⟩
      have sc := same_new na (o := .lst [.bl (mapB d), .bl (mapB d)])
      have s1 := sa.trans (sb.trans sc)
      have d1 : Dp K (upd Hb la (.lst [.bl (mapB d), .bl (mapB d)])) (.ref la) (.list [.bool (mapB d), .bool (mapB d)]) := .lst (SqL.of upd_same) (.cons (.bl _) (.cons (.bl _) .nil))
      generalize upd Hb la (.lst [.bl (mapB d), .bl (mapB d)]) = Hc at s1 d1
      refine ⟨_, rfl, x, d, 7, rfl, Dp.same s1 _ dZ, tg.l, by decide, fun Hd sd => ⟨(by show 1 ≤ sizeLine; decide), fun l2 n2 => ?_⟩⟩
      refine ⟨l2, 2, _, rfl, rfl, upd_same, by decide, by decide, (by show 1 * 2 ≤ sizeLine; decide), fun l3 n3 => ?_⟩
      have sf := sd.trans ((same_new n2 (o := .lst [.bl (mapB d)])).trans (same_new n3 (o := .lst (List.replicate (Int.toNat 2) [V.bl (mapB d)]).flatten)))
      have d2 : Dp K (upd (upd Hd l2 (.lst [.bl (mapB d)])) l3 (.lst (List.replicate (Int.toNat 2) [V.bl (mapB d)]).flatten)) (.ref l3) (.list [.bool (mapB d), .bool (mapB d)]) := .lst (SqL.of upd_same) (.cons (.bl _) (.cons (.bl _) .nil))
      generalize upd (upd Hd l2 (.lst [.bl (mapB d)])) l3 (.lst (List.replicate (Int.toNat 2) [V.bl (mapB d)]).flatten) = He at sf d2
      refine ⟨.ref la, .ref l3, _, rfl, Dp.same sf _ d1, d2, ⟨by show 2 ≤ 1000; decide, fun d' hd' => ?_⟩, fun Hf sg => ⟨true, rfl, iteF ?_⟩⟩
      · simp only [List.mem_cons, List.not_mem_nil, or_false] at hd'
        rcases hd' with rfl | rfl <;> exact trivial
      have s2 := s1.trans (sf.trans sg)
      refine ⟨_, rfl, d, Dp.same s2 _ dZ, a1, a2, a3, a4, _, rfl, rfl, _, rfl, ?_⟩
      have eq : decide (V.str d.shown = V.str d.shown) = true := decide_eq_true rfl
      rw [eq]
      exact iteF ⟨_, _, rfl, sZ.trans s2⟩
    · obtain ⟨y5, y6, rfl, sZ⟩ := h
      exact q _ (dG.trans (Dr.of dG.box sZ))
end
end XL
namespace XL
open PySem PySem.Spec PyProof.Rows L2
abbrev sLaw : Stmt := topS 36
section
variable {P : Program} {w : World} {K : PySem.W.Frag} {mg : Str → Option Value} {base : Heap}
abbrev nLaw : List Str := ["_law_script", "_law_cells_here", "_law_k"]
theorem scLaw : FnScope nLaw ["_law_script"] (defScope sLaw) := ⟨rfl, rfl, rfl, by decide +kernel, rfl, by decide +kernel, by decide +kernel⟩
def spLaw (K : PySem.W.Frag) : Sp := fun vs H Q _ => ∃ (a : Addr) (ns : List Int), vs = [.ref a] ∧ SqL K H a (ns.map V.int) ∧ ns.length ≤ 63 ∧ ∀ H', Q (.bl true) H'
theorem ok_law {f fc fx fr fk : Addr} {fd fdc fdx fdr fdk : FuncData} (F : Fun K "law" "law" sLaw f fd)
    (C : Fns P w K mg base 14 "_law_cells" ["_law_script", "_law_utmost"] (spCells K) fc fdc) (B : Fns P w K mg base 14 "_law_box" ["_law_cells_here", "_law_k"] (spBox K) fx fdx) (Kr : Fns P w K mg base 14 "_law_known_right" [] spKr fk fdk)
    (R : FnG P w K mg base 14 fr fdr ["_law_box_here"] spRight) (gR : mg "_law_right" = some (.ref fr)) (kR : PySem.W.keepIn K (.ref fr) = true) (bR : Binds K fdr ["_law_box_here"] []) (m_len : mg "len" = none) (m_range : mg "range" = none) :
    FnG P w K mg base 15 f fd ["_law_script"] (spLaw K) := by
  refine okG F scLaw (fun vs H Q E h => ?_) (fun cdv A outer s H vs Q E hG hr h => ?_)
  · obtain ⟨a, ns, rfl, _⟩ := h
    rfl
  obtain ⟨a, ns, rfl, ha, hn, q⟩ := h
  refine ⟨_, (pss_cons (ps_set (i := 1) scLaw.nd rfl (.inl rfl) (pe_fn C hr rfl (pa_cons (pv 0) (pa_cons pe_int pa_nil))))
    (pss_cons (ps_for PassesOwn.never rfl (pi_range1 rfl m_range (pa_cons (pe_callB call_len_seq rfl m_len PySem.boot_len (pa_cons (pv 1) pa_nil)) pa_nil)) (pg_name (i := 2) scLaw.nd rfl (.inl rfl))
    (pss_one (ps_if (pt_not (pt_val (pe_callG hG R hr rfl gR kR bR (pa_cons (pe_fn B hr rfl (pa_cons (pv 1) (pa_cons (pv 2) pa_nil))) pa_nil)))) (pss_one (ps_ret pe_bl)) pss_nil)))
    (pss_one (ps_ret (pe_call0 Kr.ok hr rfl Kr.g Kr.k Kr.b .nil pass0))))), ?_⟩
  refine ⟨_, rfl, a, ns, 4, rfl, ha, hn, by decide, by decide, fun p zs H1 s1 np ep z1 z2 => ?_⟩
  refine ⟨_, rfl, p, _, rfl, .inl (SqL.of ep), _, rfl, by rw [List.length_map]; omega, by rw [List.length_map]; omega, for_it walk_range (fun i σ H3 => ∃ y2, σ = [some (.ref a), some (.ref p), y2] ∧ H3 p = some (.lst (zs.map V.int))) ⟨none, rfl, ep⟩ (fun _ _ _ _ _ => trivial) (fun i x σ H3 H4 hi h hy => ?_) (fun σ H3 h => ?_)⟩
  · obtain ⟨y2, rfl, ep3⟩ := h
    obtain ⟨rfl, rfl⟩ := hy
    have hi' : i < zs.length := by rw [List.length_map] at hi; omega
    refine at_g (σ' := [some (.ref a), some (.ref p), some (.int (0 + (i : Int)))]) rfl ?_
    refine ⟨_, rfl, _, rfl, p, zs, i, by show [V.ref p, V.int (0 + (i : Int))] = _; rw [Int.zero_add], SqL.of ep3, hi', fun b x y nb => ?_⟩
    have hpb : p ≠ b := ne_of_none ep3 nb
    have bx : Bx (upd H4 b (.lst [.int x, .int y, .int 0])) b := ⟨x, y, 0, upd_same⟩
    refine ⟨b, rfl, bx, fun F' d => ⟨true, rfl, iteF ⟨_, rfl, ?_⟩⟩⟩
    exact d.same p _ hpb (by rw [upd_ne hpb]; exact ep3)
  · exact ⟨rfl, fun H' _ => q H'⟩
end
end XL
namespace XL
open PySem PySem.Spec PyProof.Rows L2

set_option maxHeartbeats 4000000 in
theorem all_mk {l : PySem.W.OpenLaw} {w : World} {K : PySem.W.Frag} {h : Heap} {mg : Str → Option Value} {fa f1 f2 f3 f4 f5 f6 f7 f8 f9 f10 f11 f12 f13 f14 f15 f16 f17 f18 f19 f20 f21 f22 f23 f24 f25 f26 f27 f28 f29 f30 f31 f32 : Addr} (X : K.In h) (G : h.Ns mainGlobals mg) (hfa : mg "law" = some (.ref fa))
    {od1 an1 : Option Addr} {sl1 : Array (Option Value)} {oc1 kV1 dc1 pm1 cd1 ct1 : Value}
    {od2 an2 : Option Addr} {sl2 : Array (Option Value)} {oc2 kV2 dc2 pm2 cd2 ct2 : Value}
    {od3 an3 : Option Addr} {sl3 : Array (Option Value)} {oc3 kV3 dc3 pm3 cd3 ct3 : Value}
    {od4 an4 : Option Addr} {sl4 : Array (Option Value)} {oc4 kV4 dc4 pm4 cd4 ct4 : Value}
    {od5 an5 : Option Addr} {sl5 : Array (Option Value)} {oc5 kV5 dc5 pm5 cd5 ct5 : Value}
    {od6 an6 : Option Addr} {sl6 : Array (Option Value)} {oc6 kV6 dc6 pm6 cd6 ct6 : Value}
    {od7 an7 : Option Addr} {sl7 : Array (Option Value)} {oc7 kV7 dc7 pm7 cd7 ct7 : Value}
    {od8 an8 : Option Addr} {sl8 : Array (Option Value)} {oc8 kV8 dc8 pm8 cd8 ct8 : Value}
    {od9 an9 : Option Addr} {sl9 : Array (Option Value)} {oc9 kV9 dc9 pm9 cd9 ct9 : Value}
    {od10 an10 : Option Addr} {sl10 : Array (Option Value)} {oc10 kV10 dc10 pm10 cd10 ct10 : Value}
    {od11 an11 : Option Addr} {sl11 : Array (Option Value)} {oc11 kV11 dc11 pm11 cd11 ct11 : Value}
    {od12 an12 : Option Addr} {sl12 : Array (Option Value)} {oc12 kV12 dc12 pm12 cd12 ct12 : Value}
    {od13 an13 : Option Addr} {sl13 : Array (Option Value)} {oc13 kV13 dc13 pm13 cd13 ct13 : Value}
    {od14 an14 : Option Addr} {sl14 : Array (Option Value)} {oc14 kV14 dc14 pm14 cd14 ct14 : Value}
    {od15 an15 : Option Addr} {sl15 : Array (Option Value)} {oc15 kV15 dc15 pm15 cd15 ct15 : Value}
    {od16 an16 : Option Addr} {sl16 : Array (Option Value)} {oc16 kV16 dc16 pm16 cd16 ct16 : Value}
    {od17 an17 : Option Addr} {sl17 : Array (Option Value)} {oc17 kV17 dc17 pm17 cd17 ct17 : Value}
    {od18 an18 : Option Addr} {sl18 : Array (Option Value)} {oc18 kV18 dc18 pm18 cd18 ct18 : Value}
    {od19 an19 : Option Addr} {sl19 : Array (Option Value)} {oc19 kV19 dc19 pm19 cd19 ct19 : Value}
    {od20 an20 : Option Addr} {sl20 : Array (Option Value)} {oc20 kV20 dc20 pm20 cd20 ct20 : Value}
    {od21 an21 : Option Addr} {sl21 : Array (Option Value)} {oc21 kV21 dc21 pm21 cd21 ct21 : Value}
    {od22 an22 : Option Addr} {sl22 : Array (Option Value)} {oc22 kV22 dc22 pm22 cd22 ct22 : Value}
    {od23 an23 : Option Addr} {sl23 : Array (Option Value)} {oc23 kV23 dc23 pm23 cd23 ct23 : Value}
    {od24 an24 : Option Addr} {sl24 : Array (Option Value)} {oc24 kV24 dc24 pm24 cd24 ct24 : Value}
    {od25 an25 : Option Addr} {sl25 : Array (Option Value)} {oc25 kV25 dc25 pm25 cd25 ct25 : Value}
    {od26 an26 : Option Addr} {sl26 : Array (Option Value)} {oc26 kV26 dc26 pm26 cd26 ct26 : Value}
    {od27 an27 : Option Addr} {sl27 : Array (Option Value)} {oc27 kV27 dc27 pm27 cd27 ct27 : Value}
    {od28 an28 : Option Addr} {sl28 : Array (Option Value)} {oc28 kV28 dc28 pm28 cd28 ct28 : Value}
    {od29 an29 : Option Addr} {sl29 : Array (Option Value)} {oc29 kV29 dc29 pm29 cd29 ct29 : Value}
    {od30 an30 : Option Addr} {sl30 : Array (Option Value)} {oc30 kV30 dc30 pm30 cd30 ct30 : Value}
    {od31 an31 : Option Addr} {sl31 : Array (Option Value)} {oc31 kV31 dc31 pm31 cd31 ct31 : Value}
    {od32 an32 : Option Addr} {sl32 : Array (Option Value)} {oc32 kV32 dc32 pm32 cd32 ct32 : Value}
    {t_RED : Tok}
    (a1 : PySem.W.nsIn K mainGlobals "is_number" = some (some (.ref f1)))
    (l1 : K.lookup f1 = some ⟨oc1, od1, .func (PySem.W.fnOf "is_number" "is_number" (defArgs sNum) (defBody sNum) (defScope sNum) .none kV1 dc1 pm1 an1 cd1 ct1), sl1⟩)
    (d1 : PySem.W.codeIn K cd1 "is_number" = true)
    (k1 : PySem.W.keepIn K (.ref f1) = true)
    (a2 : PySem.W.nsIn K mainGlobals "is_tuple_of" = some (some (.ref f2)))
    (l2 : K.lookup f2 = some ⟨oc2, od2, .func (PySem.W.fnOf "is_tuple_of" "is_tuple_of" (defArgs sTupOf) (defBody sTupOf) (defScope sTupOf) .none kV2 dc2 pm2 an2 cd2 ct2), sl2⟩)
    (d2 : PySem.W.codeIn K cd2 "is_tuple_of" = true)
    (k2 : PySem.W.keepIn K (.ref f2) = true)
    (a3 : PySem.W.nsIn K mainGlobals "are_numbers" = some (some (.ref f3)))
    (l3 : K.lookup f3 = some ⟨oc3, od3, .func (PySem.W.fnOf "are_numbers" "are_numbers" (defArgs sNums) (defBody sNums) (defScope sNums) .none kV3 dc3 pm3 an3 cd3 ct3), sl3⟩)
    (d3 : PySem.W.codeIn K cd3 "are_numbers" = true)
    (k3 : PySem.W.keepIn K (.ref f3) = true)
    (a4 : PySem.W.nsIn K mainGlobals "basins_of" = some (some (.ref f4)))
    (l4 : K.lookup f4 = some ⟨oc4, od4, .func (PySem.W.fnOf "basins_of" "basins_of" (defArgs sBas) (defBody sBas) (defScope sBas) .none kV4 dc4 pm4 an4 cd4 ct4), sl4⟩)
    (d4 : PySem.W.codeIn K cd4 "basins_of" = true)
    (k4 : PySem.W.keepIn K (.ref f4) = true)
    (a5 : PySem.W.nsIn K mainGlobals "ends_of" = some (some (.ref f5)))
    (l5 : K.lookup f5 = some ⟨oc5, od5, .func (PySem.W.fnOf "ends_of" "ends_of" (defArgs sEnds) (defBody sEnds) (defScope sEnds) .none kV5 dc5 pm5 an5 cd5 ct5), sl5⟩)
    (d5 : PySem.W.codeIn K cd5 "ends_of" = true)
    (k5 : PySem.W.keepIn K (.ref f5) = true)
    (a6 : PySem.W.nsIn K mainGlobals "pieces" = some (some (.ref f6)))
    (l6 : K.lookup f6 = some ⟨oc6, od6, .func (PySem.W.fnOf "pieces" "pieces" (defArgs sPieces) (defBody sPieces) (defScope sPieces) .none kV6 dc6 pm6 an6 cd6 ct6), sl6⟩)
    (d6 : PySem.W.codeIn K cd6 "pieces" = true)
    (k6 : PySem.W.keepIn K (.ref f6) = true)
    (a7 : PySem.W.nsIn K mainGlobals "is_end" = some (some (.ref f7)))
    (l7 : K.lookup f7 = some ⟨oc7, od7, .func (PySem.W.fnOf "is_end" "is_end" (defArgs sEnd) (defBody sEnd) (defScope sEnd) .none kV7 dc7 pm7 an7 cd7 ct7), sl7⟩)
    (d7 : PySem.W.codeIn K cd7 "is_end" = true)
    (k7 : PySem.W.keepIn K (.ref f7) = true)
    (a8 : PySem.W.nsIn K mainGlobals "are_ends" = some (some (.ref f8)))
    (l8 : K.lookup f8 = some ⟨oc8, od8, .func (PySem.W.fnOf "are_ends" "are_ends" (defArgs sAe) (defBody sAe) (defScope sAe) .none kV8 dc8 pm8 an8 cd8 ct8), sl8⟩)
    (d8 : PySem.W.codeIn K cd8 "are_ends" = true)
    (k8 : PySem.W.keepIn K (.ref f8) = true)
    (a9 : PySem.W.nsIn K mainGlobals "ends_in" = some (some (.ref f9)))
    (l9 : K.lookup f9 = some ⟨oc9, od9, .func (PySem.W.fnOf "ends_in" "ends_in" (defArgs sEi) (defBody sEi) (defScope sEi) .none kV9 dc9 pm9 an9 cd9 ct9), sl9⟩)
    (d9 : PySem.W.codeIn K cd9 "ends_in" = true)
    (k9 : PySem.W.keepIn K (.ref f9) = true)
    (a10 : PySem.W.nsIn K mainGlobals "both_ends" = some (some (.ref f10)))
    (l10 : K.lookup f10 = some ⟨oc10, od10, .func (PySem.W.fnOf "both_ends" "both_ends" (defArgs sBo) (defBody sBo) (defScope sBo) .none kV10 dc10 pm10 an10 cd10 ct10), sl10⟩)
    (d10 : PySem.W.codeIn K cd10 "both_ends" = true)
    (k10 : PySem.W.keepIn K (.ref f10) = true)
    (a11 : PySem.W.nsIn K mainGlobals "basins_by_end" = some (some (.ref f11)))
    (l11 : K.lookup f11 = some ⟨oc11, od11, .func (PySem.W.fnOf "basins_by_end" "basins_by_end" (defArgs sBb) (defBody sBb) (defScope sBb) .none kV11 dc11 pm11 an11 cd11 ct11), sl11⟩)
    (d11 : PySem.W.codeIn K cd11 "basins_by_end" = true)
    (k11 : PySem.W.keepIn K (.ref f11) = true)
    (a12 : PySem.W.nsIn K mainGlobals "hang_together" = some (some (.ref f12)))
    (l12 : K.lookup f12 = some ⟨oc12, od12, .func (PySem.W.fnOf "hang_together" "hang_together" (defArgs sHa) (defBody sHa) (defScope sHa) .none kV12 dc12 pm12 an12 cd12 ct12), sl12⟩)
    (d12 : PySem.W.codeIn K cd12 "hang_together" = true)
    (k12 : PySem.W.keepIn K (.ref f12) = true)
    (a13 : PySem.W.nsIn K mainGlobals "is_map" = some (some (.ref f13)))
    (l13 : K.lookup f13 = some ⟨oc13, od13, .func (PySem.W.fnOf "is_map" "is_map" (defArgs sMp) (defBody sMp) (defScope sMp) .none kV13 dc13 pm13 an13 cd13 ct13), sl13⟩)
    (d13 : PySem.W.codeIn K cd13 "is_map" = true)
    (k13 : PySem.W.keepIn K (.ref f13) = true)
    (a14 : PySem.W.nsIn K mainGlobals "_law_box" = some (some (.ref f14)))
    (l14 : K.lookup f14 = some ⟨oc14, od14, .func (PySem.W.fnOf "_law_box" "_law_box" (defArgs sBox) (defBody sBox) (defScope sBox) .none kV14 dc14 pm14 an14 cd14 ct14), sl14⟩)
    (d14 : PySem.W.codeIn K cd14 "_law_box" = true)
    (k14 : PySem.W.keepIn K (.ref f14) = true)
    (a15 : PySem.W.nsIn K mainGlobals "_law_take" = some (some (.ref f15)))
    (l15 : K.lookup f15 = some ⟨oc15, od15, .func (PySem.W.fnOf "_law_take" "_law_take" (defArgs sTake) (defBody sTake) (defScope sTake) .none kV15 dc15 pm15 an15 cd15 ct15), sl15⟩)
    (d15 : PySem.W.codeIn K cd15 "_law_take" = true)
    (k15 : PySem.W.keepIn K (.ref f15) = true)
    (a16 : PySem.W.nsIn K mainGlobals "_law_cells" = some (some (.ref f16)))
    (l16 : K.lookup f16 = some ⟨oc16, od16, .func (PySem.W.fnOf "_law_cells" "_law_cells" (defArgs sCells) (defBody sCells) (defScope sCells) .none kV16 dc16 pm16 an16 cd16 ct16), sl16⟩)
    (d16 : PySem.W.codeIn K cd16 "_law_cells" = true)
    (k16 : PySem.W.keepIn K (.ref f16) = true)
    (a17 : PySem.W.nsIn K mainGlobals "_law_of" = some (some (.ref f17)))
    (l17 : K.lookup f17 = some ⟨oc17, od17, .func (PySem.W.fnOf "_law_of" "_law_of" (defArgs sOf) (defBody sOf) (defScope sOf) .none kV17 dc17 pm17 an17 cd17 ct17), sl17⟩)
    (d17 : PySem.W.codeIn K cd17 "_law_of" = true)
    (k17 : PySem.W.keepIn K (.ref f17) = true)
    (a18 : PySem.W.nsIn K mainGlobals "_law_same" = some (some (.ref f18)))
    (l18 : K.lookup f18 = some ⟨oc18, od18, .func (PySem.W.fnOf "_law_same" "_law_same" (defArgs sSame) (defBody sSame) (defScope sSame) .none kV18 dc18 pm18 an18 cd18 ct18), sl18⟩)
    (d18 : PySem.W.codeIn K cd18 "_law_same" = true)
    (k18 : PySem.W.keepIn K (.ref f18) = true)
    (a19 : PySem.W.nsIn K mainGlobals "_law_other_side" = some (some (.ref f19)))
    (l19 : K.lookup f19 = some ⟨oc19, od19, .func (PySem.W.fnOf "_law_other_side" "_law_other_side" (defArgs sOs) (defBody sOs) (defScope sOs) .none kV19 dc19 pm19 an19 cd19 ct19), sl19⟩)
    (d19 : PySem.W.codeIn K cd19 "_law_other_side" = true)
    (k19 : PySem.W.keepIn K (.ref f19) = true)
    (a20 : PySem.W.nsIn K mainGlobals "_law_next_tips" = some (some (.ref f20)))
    (l20 : K.lookup f20 = some ⟨oc20, od20, .func (PySem.W.fnOf "_law_next_tips" "_law_next_tips" (defArgs sNt) (defBody sNt) (defScope sNt) .none kV20 dc20 pm20 an20 cd20 ct20), sl20⟩)
    (d20 : PySem.W.codeIn K cd20 "_law_next_tips" = true)
    (k20 : PySem.W.keepIn K (.ref f20) = true)
    (a21 : PySem.W.nsIn K mainGlobals "_law_faces" = some (some (.ref f21)))
    (l21 : K.lookup f21 = some ⟨oc21, od21, .func (PySem.W.fnOf "_law_faces" "_law_faces" (defArgs sFc) (defBody sFc) (defScope sFc) .none kV21 dc21 pm21 an21 cd21 ct21), sl21⟩)
    (d21 : PySem.W.codeIn K cd21 "_law_faces" = true)
    (k21 : PySem.W.keepIn K (.ref f21) = true)
    (a22 : PySem.W.nsIn K mainGlobals "_law_corners" = some (some (.ref f22)))
    (l22 : K.lookup f22 = some ⟨oc22, od22, .func (PySem.W.fnOf "_law_corners" "_law_corners" (defArgs sCo) (defBody sCo) (defScope sCo) .none kV22 dc22 pm22 an22 cd22 ct22), sl22⟩)
    (d22 : PySem.W.codeIn K cd22 "_law_corners" = true)
    (k22 : PySem.W.keepIn K (.ref f22) = true)
    (a23 : PySem.W.nsIn K mainGlobals "_law_flat_chart" = some (some (.ref f23)))
    (l23 : K.lookup f23 = some ⟨oc23, od23, .func (PySem.W.fnOf "_law_flat_chart" "_law_flat_chart" (defArgs sFl) (defBody sFl) (defScope sFl) .none kV23 dc23 pm23 an23 cd23 ct23), sl23⟩)
    (d23 : PySem.W.codeIn K cd23 "_law_flat_chart" = true)
    (k23 : PySem.W.keepIn K (.ref f23) = true)
    (a24 : PySem.W.nsIn K mainGlobals "_law_told_anew" = some (some (.ref f24)))
    (l24 : K.lookup f24 = some ⟨oc24, od24, .func (PySem.W.fnOf "_law_told_anew" "_law_told_anew" (defArgs sTa) (defBody sTa) (defScope sTa) .none kV24 dc24 pm24 an24 cd24 ct24), sl24⟩)
    (d24 : PySem.W.codeIn K cd24 "_law_told_anew" = true)
    (k24 : PySem.W.keepIn K (.ref f24) = true)
    (a25 : PySem.W.nsIn K mainGlobals "_law_any_chart" = some (some (.ref f25)))
    (l25 : K.lookup f25 = some ⟨oc25, od25, .func (PySem.W.fnOf "_law_any_chart" "_law_any_chart" (defArgs sAn) (defBody sAn) (defScope sAn) .none kV25 dc25 pm25 an25 cd25 ct25), sl25⟩)
    (d25 : PySem.W.codeIn K cd25 "_law_any_chart" = true)
    (k25 : PySem.W.keepIn K (.ref f25) = true)
    (a26 : PySem.W.nsIn K mainGlobals "_law_is_tip" = some (some (.ref f26)))
    (l26 : K.lookup f26 = some ⟨oc26, od26, .func (PySem.W.fnOf "_law_is_tip" "_law_is_tip" (defArgs sIt) (defBody sIt) (defScope sIt) .none kV26 dc26 pm26 an26 cd26 ct26), sl26⟩)
    (d26 : PySem.W.codeIn K cd26 "_law_is_tip" = true)
    (k26 : PySem.W.keepIn K (.ref f26) = true)
    (a27 : PySem.W.nsIn K mainGlobals "_law_is_chart" = some (some (.ref f27)))
    (l27 : K.lookup f27 = some ⟨oc27, od27, .func (PySem.W.fnOf "_law_is_chart" "_law_is_chart" (defArgs sIc) (defBody sIc) (defScope sIc) .none kV27 dc27 pm27 an27 cd27 ct27), sl27⟩)
    (d27 : PySem.W.codeIn K cd27 "_law_is_chart" = true)
    (k27 : PySem.W.keepIn K (.ref f27) = true)
    (a28 : PySem.W.nsIn K mainGlobals "_law_odd" = some (some (.ref f28)))
    (l28 : K.lookup f28 = some ⟨oc28, od28, .func (PySem.W.fnOf "_law_odd" "_law_odd" (defArgs sOd) (defBody sOd) (defScope sOd) .none kV28 dc28 pm28 an28 cd28 ct28), sl28⟩)
    (d28 : PySem.W.codeIn K cd28 "_law_odd" = true)
    (k28 : PySem.W.keepIn K (.ref f28) = true)
    (a29 : PySem.W.nsIn K mainGlobals "_law_bent" = some (some (.ref f29)))
    (l29 : K.lookup f29 = some ⟨oc29, od29, .func (PySem.W.fnOf "_law_bent" "_law_bent" (defArgs sBt) (defBody sBt) (defScope sBt) .none kV29 dc29 pm29 an29 cd29 ct29), sl29⟩)
    (d29 : PySem.W.codeIn K cd29 "_law_bent" = true)
    (k29 : PySem.W.keepIn K (.ref f29) = true)
    (a30 : PySem.W.nsIn K mainGlobals "_law_known_right" = some (some (.ref f30)))
    (l30 : K.lookup f30 = some ⟨oc30, od30, .func (PySem.W.fnOf "_law_known_right" "_law_known_right" (defArgs sKr) (defBody sKr) (defScope sKr) .none kV30 dc30 pm30 an30 cd30 ct30), sl30⟩)
    (d30 : PySem.W.codeIn K cd30 "_law_known_right" = true)
    (k30 : PySem.W.keepIn K (.ref f30) = true)
    (a31 : PySem.W.nsIn K mainGlobals "_law_right" = some (some (.ref f31)))
    (l31 : K.lookup f31 = some ⟨oc31, od31, .func (PySem.W.fnOf "_law_right" "_law_right" (defArgs sRight) (defBody sRight) (defScope sRight) .none kV31 dc31 pm31 an31 cd31 ct31), sl31⟩)
    (d31 : PySem.W.codeIn K cd31 "_law_right" = true)
    (k31 : PySem.W.keepIn K (.ref f31) = true)
    (a32 : PySem.W.nsIn K mainGlobals "law" = some (some (.ref f32)))
    (l32 : K.lookup f32 = some ⟨oc32, od32, .func (PySem.W.fnOf "law" "law" (defArgs sLaw) (defBody sLaw) (defScope sLaw) .none kV32 dc32 pm32 an32 cd32 ct32), sl32⟩)
    (d32 : PySem.W.codeIn K cd32 "law" = true)
    (k32 : PySem.W.keepIn K (.ref f32) = true)
    (z_isinstance : PySem.W.nsIn K mainGlobals "isinstance" = some none)
    (z_list : PySem.W.nsIn K mainGlobals "list" = some none)
    (z_tuple : PySem.W.nsIn K mainGlobals "tuple" = some none)
    (z_zip : PySem.W.nsIn K mainGlobals "zip" = some none)
    (z_len : PySem.W.nsIn K mainGlobals "len" = some none)
    (z_all : PySem.W.nsIn K mainGlobals "all" = some none)
    (z_bool : PySem.W.nsIn K mainGlobals "bool" = some none)
    (z_str : PySem.W.nsIn K mainGlobals "str" = some none)
    (z_int : PySem.W.nsIn K mainGlobals "int" = some none)
    (z_range : PySem.W.nsIn K mainGlobals "range" = some none)
    (z_enumerate : PySem.W.nsIn K mainGlobals "enumerate" = some none)
    (z_abs : PySem.W.nsIn K mainGlobals "abs" = some none)
    (z_sum : PySem.W.nsIn K mainGlobals "sum" = some none)
    (z_max : PySem.W.nsIn K mainGlobals "max" = some none)
    (z_sorted : PySem.W.nsIn K mainGlobals "sorted" = some none)
    (z_repr : PySem.W.nsIn K mainGlobals "repr" = some none)
    (v_RED : PySem.W.nsIn K mainGlobals "RED" = some (some (.str "red" t_RED)))
    : ∃ fd : FuncData, (∀ (s : Shared) (v : Value), BindsTo s fd ⟨[v], []⟩ [("_law_script", v)]) ∧ ∀ base : Heap, K.In base → base.Ns mainGlobals mg → FnG l.prog w K mg base 15 fa fd ["_law_script"] (spLaw K) := by
  have e := hfa.symm.trans (PySem.W.mg_of X G a32)
  cases e
  have F1 := fun_mk (st := sNum) l1 d1 k1
  have b1 := F1.binds (ps := ["thing"]) fun _ _ _ _ _ _ us hl => match us, hl with | [_], _ => rfl
  have g1 := PySem.W.mg_of X G a1
  have F2 := fun_mk (st := sTupOf) l2 d2 k2
  have b2 := F2.binds (ps := ["thing", "many"]) fun _ _ _ _ _ _ us hl => match us, hl with | [_, _], _ => rfl
  have g2 := PySem.W.mg_of X G a2
  have F3 := fun_mk (st := sNums) l3 d3 k3
  have b3 := F3.binds (ps := ["things"]) fun _ _ _ _ _ _ us hl => match us, hl with | [_], _ => rfl
  have g3 := PySem.W.mg_of X G a3
  have F4 := fun_mk (st := sBas) l4 d4 k4
  have b4 := F4.binds (ps := ["canal", "water"]) fun _ _ _ _ _ _ us hl => match us, hl with | [_, _], _ => rfl
  have g4 := PySem.W.mg_of X G a4
  have F5 := fun_mk (st := sEnds) l5 d5 k5
  have b5 := F5.binds (ps := ["lock", "water"]) fun _ _ _ _ _ _ us hl => match us, hl with | [_, _], _ => rfl
  have g5 := PySem.W.mg_of X G a5
  have F6 := fun_mk (st := sPieces) l6 d6 k6
  have b6 := F6.binds (ps := ["canal", "water"]) fun _ _ _ _ _ _ us hl => match us, hl with | [_, _], _ => rfl
  have g6 := PySem.W.mg_of X G a6
  have F7 := fun_mk (st := sEnd) l7 d7 k7
  have b7 := F7.binds (ps := ["thing"]) fun _ _ _ _ _ _ us hl => match us, hl with | [_], _ => rfl
  have g7 := PySem.W.mg_of X G a7
  have F8 := fun_mk (st := sAe) l8 d8 k8
  have b8 := F8.binds (ps := ["thing"]) fun _ _ _ _ _ _ us hl => match us, hl with | [_], _ => rfl
  have g8 := PySem.W.mg_of X G a8
  have F9 := fun_mk (st := sEi) l9 d9 k9
  have b9 := F9.binds (ps := ["chart"]) fun _ _ _ _ _ _ us hl => match us, hl with | [_], _ => rfl
  have g9 := PySem.W.mg_of X G a9
  have F10 := fun_mk (st := sBo) l10 d10 k10
  have b10 := F10.binds (ps := ["many"]) fun _ _ _ _ _ _ us hl => match us, hl with | [_], _ => rfl
  have g10 := PySem.W.mg_of X G a10
  have F11 := fun_mk (st := sBb) l11 d11 k11
  have b11 := F11.binds (ps := ["chart"]) fun _ _ _ _ _ _ us hl => match us, hl with | [_], _ => rfl
  have g11 := PySem.W.mg_of X G a11
  have F12 := fun_mk (st := sHa) l12 d12 k12
  have b12 := F12.binds (ps := ["chart"]) fun _ _ _ _ _ _ us hl => match us, hl with | [_], _ => rfl
  have g12 := PySem.W.mg_of X G a12
  have F13 := fun_mk (st := sMp) l13 d13 k13
  have b13 := F13.binds (ps := ["thing"]) fun _ _ _ _ _ _ us hl => match us, hl with | [_], _ => rfl
  have g13 := PySem.W.mg_of X G a13
  have F14 := fun_mk (st := sBox) l14 d14 k14
  have b14 := F14.binds (ps := ["_law_cells_here", "_law_k"]) fun _ _ _ _ _ _ us hl => match us, hl with | [_, _], _ => rfl
  have g14 := PySem.W.mg_of X G a14
  have F15 := fun_mk (st := sTake) l15 d15 k15
  have b15 := F15.binds (ps := ["_law_box_here", "_law_size"]) fun _ _ _ _ _ _ us hl => match us, hl with | [_, _], _ => rfl
  have g15 := PySem.W.mg_of X G a15
  have F16 := fun_mk (st := sCells) l16 d16 k16
  have b16 := F16.binds (ps := ["_law_script", "_law_utmost"]) fun _ _ _ _ _ _ us hl => match us, hl with | [_, _], _ => rfl
  have g16 := PySem.W.mg_of X G a16
  have F17 := fun_mk (st := sOf) l17 d17 k17
  have b17 := F17.binds (ps := ["_law_box_here", "_law_some"]) fun _ _ _ _ _ _ us hl => match us, hl with | [_, _], _ => rfl
  have g17 := PySem.W.mg_of X G a17
  have F18 := fun_mk (st := sSame) l18 d18 k18
  have b18 := F18.binds (ps := ["_law_found", "_law_due"]) fun _ _ _ _ _ _ us hl => match us, hl with | [_, _], _ => rfl
  have g18 := PySem.W.mg_of X G a18
  have F19 := fun_mk (st := sOs) l19 d19 k19
  have b19 := F19.binds (ps := ["_law_tip"]) fun _ _ _ _ _ _ us hl => match us, hl with | [_], _ => rfl
  have g19 := PySem.W.mg_of X G a19
  have F20 := fun_mk (st := sNt) l20 d20 k20
  have b20 := F20.binds (ps := ["_law_chart_here"]) fun _ _ _ _ _ _ us hl => match us, hl with | [_], _ => rfl
  have g20 := PySem.W.mg_of X G a20
  have F21 := fun_mk (st := sFc) l21 d21 k21
  have b21 := F21.binds (ps := ["_law_chart_here"]) fun _ _ _ _ _ _ us hl => match us, hl with | [_], _ => rfl
  have g21 := PySem.W.mg_of X G a21
  have F22 := fun_mk (st := sCo) l22 d22 k22
  have b22 := F22.binds (ps := ["_law_rounds_here", "_law_chart_here"]) fun _ _ _ _ _ _ us hl => match us, hl with | [_, _], _ => rfl
  have g22 := PySem.W.mg_of X G a22
  have F23 := fun_mk (st := sFl) l23 d23 k23
  have b23 := F23.binds (ps := ["_law_box_here", "_law_wide", "_law_utmost"]) fun _ _ _ _ _ _ us hl => match us, hl with | [_, _, _], _ => rfl
  have g23 := PySem.W.mg_of X G a23
  have F24 := fun_mk (st := sTa) l24 d24 k24
  have b24 := F24.binds (ps := ["_law_box_here", "_law_basins"]) fun _ _ _ _ _ _ us hl => match us, hl with | [_, _], _ => rfl
  have g24 := PySem.W.mg_of X G a24
  have F25 := fun_mk (st := sAn) l25 d25 k25
  have b25 := F25.binds (ps := ["_law_box_here", "_law_wide", "_law_utmost"]) fun _ _ _ _ _ _ us hl => match us, hl with | [_, _, _], _ => rfl
  have g25 := PySem.W.mg_of X G a25
  have F26 := fun_mk (st := sIt) l26 d26 k26
  have b26 := F26.binds (ps := ["_law_made"]) fun _ _ _ _ _ _ us hl => match us, hl with | [_], _ => rfl
  have g26 := PySem.W.mg_of X G a26
  have F27 := fun_mk (st := sIc) l27 d27 k27
  have b27 := F27.binds (ps := ["_law_made"]) fun _ _ _ _ _ _ us hl => match us, hl with | [_], _ => rfl
  have g27 := PySem.W.mg_of X G a27
  have F28 := fun_mk (st := sOd) l28 d28 k28
  have b28 := F28.binds (ps := ["_law_box_here", "_law_made"]) fun _ _ _ _ _ _ us hl => match us, hl with | [_, _], _ => rfl
  have g28 := PySem.W.mg_of X G a28
  have F29 := fun_mk (st := sBt) l29 d29 k29
  have b29 := F29.binds (ps := ["_law_box_here", "_law_made"]) fun _ _ _ _ _ _ us hl => match us, hl with | [_, _], _ => rfl
  have g29 := PySem.W.mg_of X G a29
  have F30 := fun_mk (st := sKr) l30 d30 k30
  have b30 := F30.binds (ps := []) fun _ _ _ _ _ _ us hl => match us, hl with | [], _ => rfl
  have g30 := PySem.W.mg_of X G a30
  have F31 := fun_mk (st := sRight) l31 d31 k31
  have b31 := F31.binds (ps := ["_law_box_here"]) fun _ _ _ _ _ _ us hl => match us, hl with | [_], _ => rfl
  have g31 := PySem.W.mg_of X G a31
  have F32 := fun_mk (st := sLaw) l32 d32 k32
  have m_isinstance := PySem.W.mg_none_of X G z_isinstance
  have m_list := PySem.W.mg_none_of X G z_list
  have m_tuple := PySem.W.mg_none_of X G z_tuple
  have m_zip := PySem.W.mg_none_of X G z_zip
  have m_len := PySem.W.mg_none_of X G z_len
  have m_all := PySem.W.mg_none_of X G z_all
  have m_bool := PySem.W.mg_none_of X G z_bool
  have m_str := PySem.W.mg_none_of X G z_str
  have m_int := PySem.W.mg_none_of X G z_int
  have m_range := PySem.W.mg_none_of X G z_range
  have m_enumerate := PySem.W.mg_none_of X G z_enumerate
  have m_abs := PySem.W.mg_none_of X G z_abs
  have m_sum := PySem.W.mg_none_of X G z_sum
  have m_max := PySem.W.mg_none_of X G z_max
  have m_sorted := PySem.W.mg_none_of X G z_sorted
  have m_repr := PySem.W.mg_none_of X G z_repr
  have c_RED := PySem.W.mg_of X G v_RED
  refine ⟨PySem.W.fnOf "law" "law" (defArgs sLaw) (defBody sLaw) (defScope sLaw) .none kV32 dc32 pm32 an32 cd32 ct32, fun s v => .of_eq rfl, fun base _ _ => ?_⟩
  have v0_law_cells_spCells_14 : Fns l.prog w K mg base 14 "_law_cells" ["_law_script", "_law_utmost"] (spCells K) f16 _ := ⟨ok_cells (k := 13) F16 m_list m_enumerate, g16, k16, b16⟩
  have v1_law_box_spBox_14 : Fns l.prog w K mg base 14 "_law_box" ["_law_cells_here", "_law_k"] (spBox K) f14 _ := ⟨ok_box (k := 13) F14 m_abs m_int, g14, k14, b14⟩
  have v6_is_tuple_of_spTupOf_10 : Fns l.prog w K mg base 10 "is_tuple_of" ["thing", "many"] (spTupOf K) f2 _ := ⟨ok_tupof (k := 9) F2 m_isinstance m_tuple m_len, g2, k2, b2⟩
  have v8_is_number_spNum_9 : Fns l.prog w K mg base 9 "is_number" ["thing"] (spNum K) f1 _ := ⟨ok_num (k := 8) F1 m_isinstance m_int m_bool, g1, k1, b1⟩
  have v7_are_numbers_spNums_10 : Fns l.prog w K mg base 10 "are_numbers" ["things"] (spNums K) f3 _ := ⟨ok_nums (k := 9) F3 v8_is_number_spNum_9 m_all, g3, k3, b3⟩
  have v5_is_end_spEnd_11 : Fns l.prog w K mg base 11 "is_end" ["thing"] (spEnd K) f7 _ := ⟨ok_end (k := 10) F7 v6_is_tuple_of_spTupOf_10 v7_are_numbers_spNums_10, g7, k7, b7⟩
  have v4_are_ends_spAe_12 : Fns l.prog w K mg base 12 "are_ends" ["thing"] (spAe K) f8 _ := ⟨ok_ae (k := 11) F8 v5_is_end_spEnd_11 m_isinstance m_tuple m_all, g8, k8, b8⟩
  have v9_ends_in_spEi_12 : Fns l.prog w K mg base 12 "ends_in" ["chart"] (spEi K) f9 _ := ⟨ok_ei (k := 11) F9, g9, k9, b9⟩
  have v10_both_ends_spBo_12 : Fns l.prog w K mg base 12 "both_ends" ["many"] (spBo K) f10 _ := ⟨ok_bo (k := 11) F10 m_range, g10, k10, b10⟩
  have v12_basins_by_end_spBb_11 : Fns l.prog w K mg base 11 "basins_by_end" ["chart"] (spBb l.prog w K) f11 _ := ⟨ok_bb (k := 10) F11 m_enumerate, g11, k11, b11⟩
  have v14_basins_of_spBas_10 : Fns l.prog w K mg base 10 "basins_of" ["canal", "water"] (spBas K) f4 _ := ⟨ok_bas (k := 9) F4 c_RED, g4, k4, b4⟩
  have v15_ends_of_spEnds_10 : Fns l.prog w K mg base 10 "ends_of" ["lock", "water"] (spEnds K) f5 _ := ⟨ok_ends (k := 9) F5 c_RED, g5, k5, b5⟩
  have v13_pieces_spPieces_11 : Fns l.prog w K mg base 11 "pieces" ["canal", "water"] (spPieces K) f6 _ := ⟨ok_pieces (k := 10) F6 v14_basins_of_spBas_10 v15_ends_of_spEnds_10 m_list m_range m_enumerate m_tuple, g6, k6, b6⟩
  have v11_hang_together_spHa_12 : Fns l.prog w K mg base 12 "hang_together" ["chart"] (spHa K) f12 _ := ⟨ok_ha (k := 11) F12 v12_basins_by_end_spBb_11 v13_pieces_spPieces_11 c_RED m_len m_range, g12, k12, b12⟩
  have v3_is_map_spMp_13 : Fns l.prog w K mg base 13 "is_map" ["thing"] (spMp K) f13 _ := ⟨ok_mp (k := 12) F13 v4_are_ends_spAe_12 v9_ends_in_spEi_12 v10_both_ends_spBo_12 v11_hang_together_spHa_12 m_isinstance m_tuple m_all m_sorted m_len, g13, k13, b13⟩
  have v2_law_known_right_spKr_14 : Fns l.prog w K mg base 14 "_law_known_right" [] (spKr) f30 _ := ⟨ok_kr (k := 13) F30 v3_is_map_spMp_13 m_all, g30, k30, b30⟩
  have v16_law_take_spTake_13 : Fns l.prog w K mg base 13 "_law_take" ["_law_box_here", "_law_size"] (spTake) f15 _ := ⟨ok_take (k := 12) F15, g15, k15, b15⟩
  have v18_law_take_spTake_12 : Fns l.prog w K mg base 12 "_law_take" ["_law_box_here", "_law_size"] (spTake) f15 _ := ⟨ok_take (k := 11) F15, g15, k15, b15⟩
  have v19_law_of_spOf_12 : Fns l.prog w K mg base 12 "_law_of" ["_law_box_here", "_law_some"] (spOf K) f17 _ := ⟨ok_of (k := 10) F17 F15 b15 g15 m_len, g17, k17, b17⟩
  have v20_law_corners_spCo_12 : Fns l.prog w K mg base 12 "_law_corners" ["_law_rounds_here", "_law_chart_here"] (spCo K) f22 _ := ⟨ok_co (k := 11) F22 m_enumerate, g22, k22, b22⟩
  have v22_law_other_side_spOs_11 : Fns l.prog w K mg base 11 "_law_other_side" ["_law_tip"] (spOs K) f19 _ := ⟨ok_os (k := 10) F19, g19, k19, b19⟩
  have v23_law_next_tips_spNt_11 : Fns l.prog w K mg base 11 "_law_next_tips" ["_law_chart_here"] (spNt l.prog w K) f20 _ := ⟨ok_nt (k := 10) F20 m_enumerate m_len, g20, k20, b20⟩
  have v21_law_faces_spFc_12 : Fns l.prog w K mg base 12 "_law_faces" ["_law_chart_here"] (spFc K) f21 _ := ⟨ok_fc (k := 11) F21 v22_law_other_side_spOs_11 v23_law_next_tips_spNt_11 m_int, g21, k21, b21⟩
  have v25_law_take_spTake_11 : Fns l.prog w K mg base 11 "_law_take" ["_law_box_here", "_law_size"] (spTake) f15 _ := ⟨ok_take (k := 10) F15, g15, k15, b15⟩
  have v24_law_told_anew_spTa_12 : Fns l.prog w K mg base 12 "_law_told_anew" ["_law_box_here", "_law_basins"] (spTa K) f24 _ := ⟨ok_ta (k := 11) F24 v25_law_take_spTake_11 m_range m_sum m_len m_max m_tuple, g24, k24, b24⟩
  have v17_law_flat_chart_spFl_13 : Fns l.prog w K mg base 13 "_law_flat_chart" ["_law_box_here", "_law_wide", "_law_utmost"] (spFl K) f23 _ := ⟨ok_fl (k := 12) F23 v18_law_take_spTake_12 v19_law_of_spOf_12 v20_law_corners_spCo_12 v21_law_faces_spFc_12 v24_law_told_anew_spTa_12 m_range m_len m_int, g23, k23, b23⟩
  have v26_law_any_chart_spFl_13 : Fns l.prog w K mg base 13 "_law_any_chart" ["_law_box_here", "_law_wide", "_law_utmost"] (spFl K) f25 _ := ⟨ok_an (k := 12) F25 v18_law_take_spTake_12 v24_law_told_anew_spTa_12 m_range m_len, g25, k25, b25⟩
  have v28_law_is_tip_spIt_12 : Fns l.prog w K mg base 12 "_law_is_tip" ["_law_made"] (spIt K) f26 _ := ⟨ok_it (k := 11) F26 m_isinstance m_tuple m_len m_all m_int m_bool, g26, k26, b26⟩
  have v29_law_other_side_spOs_12 : Fns l.prog w K mg base 12 "_law_other_side" ["_law_tip"] (spOs K) f19 _ := ⟨ok_os (k := 11) F19, g19, k19, b19⟩
  have v27_law_is_chart_spIc_13 : Fns l.prog w K mg base 13 "_law_is_chart" ["_law_made"] (spIc K) f27 _ := ⟨ok_ic (k := 12) F27 v28_law_is_tip_spIt_12 v29_law_other_side_spOs_12 m_isinstance m_tuple m_all m_enumerate m_len m_range, g27, k27, b27⟩
  have v31_law_take_spTake_3 : Fns l.prog w K mg base 3 "_law_take" ["_law_box_here", "_law_size"] (spTake) f15 _ := ⟨ok_take (k := 2) F15, g15, k15, b15⟩
  have v33_law_of_spOf_2 : Fns l.prog w K mg base 2 "_law_of" ["_law_box_here", "_law_some"] (spOf K) f17 _ := ⟨ok_of (k := 0) F17 F15 b15 g15 m_len, g17, k17, b17⟩
  have v32_law_odd_spOd_3 : Fns l.prog w K mg base 3 "_law_odd" ["_law_box_here", "_law_made"] (spOd K) f28 _ := ⟨ok_od (k := 2) F28 v33_law_of_spOf_2 m_isinstance m_int m_str m_list m_tuple, g28, k28, b28⟩
  have v30_law_bent_spB2_13 : Fns l.prog w K mg base 13 "_law_bent" ["_law_box_here", "_law_made"] (spB2 K) f29 _ := ⟨ok_b2 F29 b29 g29 v31_law_take_spTake_3 v32_law_odd_spOd_3 m_isinstance m_list m_tuple m_len, g29, k29, b29⟩
  have v34_law_same_spSame_13 : Fns l.prog w K mg base 13 "_law_same" ["_law_found", "_law_due"] (spSame K 13) f18 _ := ⟨ok_same F18 b18 g18 m_isinstance m_list m_tuple m_zip m_len m_all m_bool m_str m_int 13, g18, k18, b18⟩
  exact ok_law F32 v0_law_cells_spCells_14 v1_law_box_spBox_14 v2_law_known_right_spKr_14 (ok_right F31 v16_law_take_spTake_13 v17_law_flat_chart_spFl_13 v26_law_any_chart_spFl_13 v3_is_map_spMp_13 v27_law_is_chart_spIc_13 v30_law_bent_spB2_13 v34_law_same_spSame_13 (kb1 F13 fun _ _ _ _ _ _ _ => rfl) m_repr m_range m_list) g31 k31 b31 m_len m_range
end XL
open PySem PySem.W PyProof.Rows
set_option maxRecDepth 100000 in
set_option maxHeartbeats 0 in
theorem PySem.Challenge.cw_crosslocks_k49_maps_or_not_holds : PySem.Challenge.rw_crosslocks_k49_maps_or_not.Holds := by
  w_on; o_law; k_head; (case hw => w_witness2)
  k_fill
  refine XL.walkG (l := PySem.Challenge.rw_crosslocks_k49_maps_or_not) (n := 63) (k := 15) (x := "_law_script") (sp := XL.spLaw) rfl (by decide) rfl ⟨rfl, by decide, by decide⟩ (fun w h Y => PySem.W.kIn_of Y) ?F (fun K H a ns hl _ hS => ⟨a, ns, rfl, hS, hl, fun _ => rfl⟩)
  case F =>
    intro w mg fa h KX G hmg
    refine' XL.all_mk KX G hmg ?a1 ?l1 ?d1 ?k1 ?a2 ?l2 ?d2 ?k2 ?a3 ?l3 ?d3 ?k3 ?a4 ?l4 ?d4 ?k4 ?a5 ?l5 ?d5 ?k5 ?a6 ?l6 ?d6 ?k6 ?a7 ?l7 ?d7 ?k7 ?a8 ?l8 ?d8 ?k8 ?a9 ?l9 ?d9 ?k9 ?a10 ?l10 ?d10 ?k10 ?a11 ?l11 ?d11 ?k11 ?a12 ?l12 ?d12 ?k12 ?a13 ?l13 ?d13 ?k13 ?a14 ?l14 ?d14 ?k14 ?a15 ?l15 ?d15 ?k15 ?a16 ?l16 ?d16 ?k16 ?a17 ?l17 ?d17 ?k17 ?a18 ?l18 ?d18 ?k18 ?a19 ?l19 ?d19 ?k19 ?a20 ?l20 ?d20 ?k20 ?a21 ?l21 ?d21 ?k21 ?a22 ?l22 ?d22 ?k22 ?a23 ?l23 ?d23 ?k23 ?a24 ?l24 ?d24 ?k24 ?a25 ?l25 ?d25 ?k25 ?a26 ?l26 ?d26 ?k26 ?a27 ?l27 ?d27 ?k27 ?a28 ?l28 ?d28 ?k28 ?a29 ?l29 ?d29 ?k29 ?a30 ?l30 ?d30 ?k30 ?a31 ?l31 ?d31 ?k31 ?a32 ?l32 ?d32 ?k32 ?z_isinstance ?z_list ?z_tuple ?z_zip ?z_len ?z_all ?z_bool ?z_str ?z_int ?z_range ?z_enumerate ?z_abs ?z_sum ?z_max ?z_sorted ?z_repr ?v_RED
    (case a1 => k_is)
    (case l1 => k_is)
    (case d1 => k_is)
    (case k1 => k_is)
    (case a2 => k_is)
    (case l2 => k_is)
    (case d2 => k_is)
    (case k2 => k_is)
    (case a3 => k_is)
    (case l3 => k_is)
    (case d3 => k_is)
    (case k3 => k_is)
    (case a4 => k_is)
    (case l4 => k_is)
    (case d4 => k_is)
    (case k4 => k_is)
    (case a5 => k_is)
    (case l5 => k_is)
    (case d5 => k_is)
    (case k5 => k_is)
    (case a6 => k_is)
    (case l6 => k_is)
    (case d6 => k_is)
    (case k6 => k_is)
    (case a7 => k_is)
    (case l7 => k_is)
    (case d7 => k_is)
    (case k7 => k_is)
    (case a8 => k_is)
    (case l8 => k_is)
    (case d8 => k_is)
    (case k8 => k_is)
    (case a9 => k_is)
    (case l9 => k_is)
    (case d9 => k_is)
    (case k9 => k_is)
    (case a10 => k_is)
    (case l10 => k_is)
    (case d10 => k_is)
    (case k10 => k_is)
    (case a11 => k_is)
    (case l11 => k_is)
    (case d11 => k_is)
    (case k11 => k_is)
    (case a12 => k_is)
    (case l12 => k_is)
    (case d12 => k_is)
    (case k12 => k_is)
    (case a13 => k_is)
    (case l13 => k_is)
    (case d13 => k_is)
    (case k13 => k_is)
    (case a14 => k_is)
    (case l14 => k_is)
    (case d14 => k_is)
    (case k14 => k_is)
    (case a15 => k_is)
    (case l15 => k_is)
    (case d15 => k_is)
    (case k15 => k_is)
    (case a16 => k_is)
    (case l16 => k_is)
    (case d16 => k_is)
    (case k16 => k_is)
    (case a17 => k_is)
    (case l17 => k_is)
    (case d17 => k_is)
    (case k17 => k_is)
    (case a18 => k_is)
    (case l18 => k_is)
    (case d18 => k_is)
    (case k18 => k_is)
    (case a19 => k_is)
    (case l19 => k_is)
    (case d19 => k_is)
    (case k19 => k_is)
    (case a20 => k_is)
    (case l20 => k_is)
    (case d20 => k_is)
    (case k20 => k_is)
    (case a21 => k_is)
    (case l21 => k_is)
    (case d21 => k_is)
    (case k21 => k_is)
    (case a22 => k_is)
    (case l22 => k_is)
    (case d22 => k_is)
    (case k22 => k_is)
    (case a23 => k_is)
    (case l23 => k_is)
    (case d23 => k_is)
    (case k23 => k_is)
    (case a24 => k_is)
    (case l24 => k_is)
    (case d24 => k_is)
    (case k24 => k_is)
    (case a25 => k_is)
    (case l25 => k_is)
    (case d25 => k_is)
    (case k25 => k_is)
    (case a26 => k_is)
    (case l26 => k_is)
    (case d26 => k_is)
    (case k26 => k_is)
    (case a27 => k_is)
    (case l27 => k_is)
    (case d27 => k_is)
    (case k27 => k_is)
    (case a28 => k_is)
    (case l28 => k_is)
    (case d28 => k_is)
    (case k28 => k_is)
    (case a29 => k_is)
    (case l29 => k_is)
    (case d29 => k_is)
    (case k29 => k_is)
    (case a30 => k_is)
    (case l30 => k_is)
    (case d30 => k_is)
    (case k30 => k_is)
    (case a31 => k_is)
    (case l31 => k_is)
    (case d31 => k_is)
    (case k31 => k_is)
    (case a32 => k_is)
    (case l32 => k_is)
    (case d32 => k_is)
    (case k32 => k_is)
    (case z_isinstance => k_is)
    (case z_list => k_is)
    (case z_tuple => k_is)
    (case z_zip => k_is)
    (case z_len => k_is)
    (case z_all => k_is)
    (case z_bool => k_is)
    (case z_str => k_is)
    (case z_int => k_is)
    (case z_range => k_is)
    (case z_enumerate => k_is)
    (case z_abs => k_is)
    (case z_sum => k_is)
    (case z_max => k_is)
    (case z_sorted => k_is)
    (case z_repr => k_is)
    (case v_RED => k_is)

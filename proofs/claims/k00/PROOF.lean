import PyProof.Rows.All
import Wide.All
import OpenK.AllK
import Wide.FinOn
import KE.GoesMore
import KE.KDictZip
import PyProof.ListNew
import PyProof.SeqWrite
import KE.GoesEnum
import HandS.ForMost
import HandS.Zip
import PyProof.ReprRoads
import HandS.IsInst
import HandS.TupAny
import HandS.NoneIn
import HandS.Flow
import HandS.Conv
import HandS.Walk
import HandS.ExcValue
import HandS.ExcInit
import HandS.ExcField
import KE.KExcIs
import KE.KExcInit
import KE.KExcSuper
import PySem.Challenge.RW_crosslocks_k00_errors_and_words
set_option Elab.async false
set_option linter.all false
set_option maxRecDepth 100000
namespace XL
open PySem PyProof.Rows
section
variable {prog : Program} {w : World} {A : Around} {E : Value → Shared → Prop} {s : Shared} {z TI TO T i1 i2 : Addr}
variable {fp1 fp2 : List Addr} {n1 n2 i : Nat} {P1 P2 : Nat → Value → Prop} {St1 St2 : Nat → Heap → Prop} {a1 a2 : Value} {f : Bool} {oT : Obj}

/-- one more pair while the one given out before is held -/
theorem held_item {Q : Value → Shared → Prop} (S : ZipSep2 z TI TO i1 i2 fp1 fp2)
    (D1 : Draws prog w A i1 fp1 n1 P1 St1) (D2 : Draws prog w A i2 fp2 n2 P2 St2)
    (hz : IsZipHeld s.heap z TI TO T f) (hT : s.heap.get? T = some oT) (hTI : IsTupOf2 s.heap TI (.ref i1) (.ref i2))
    (st1 : St1 i s.heap) (st2 : St2 i s.heap) (l1 : i < n1) (l2 : i < n2)
    (hQ : ∀ x1 x2 h' tk, P1 i x1 → P2 i x2 → IsZipHeld h' z TI TO T true → St1 (i + 1) h' → St2 (i + 1) h' →
      IsTupOf2 h' s.heap.objs.size x1 x2 → h'.objs.size = s.heap.objs.size + 1 →
      (∀ c o, c ≠ z → c ≠ i1 → c ≠ i2 → s.heap.get? c = some o → h'.get? c = some o) →
      Q (.ref s.heap.objs.size) { s with heap := h', toks := tk }) :
    wpAny (model prog w) A (Builtin.«zip.__next__» ⟨[.ref z], []⟩) (fun fin s' => ∃ v, fin = .done (.ret v) ∧ Q v s') E s := by
  obtain ⟨hp, g, d, tk0, os⟩ := s
  show wpAny _ _ (field (.ref z) 2 >>= _) _ _ _
  refine wpAny_bind (wpAny_field hz rfl (x := .bool false) rfl ?_); show wpAny _ _ (field (.ref z) 3 >>= _) _ _ _
  refine wpAny_bind (wpAny_field hz rfl (x := .ref TI) rfl ?_); refine wpAny_bind (wpAny_seqItems hTI rfl ?_)
  show wpAny _ _ (Builtin.SmallTypes.ownedTupleIsFree (.ref z) >>= _) _ _ _
  refine wpAny_bind (wpAny_tupleHeld_zip hz hT fun g0 hz0 hs0 => ?_); simp only [Bool.false_eq_true, if_false]; refine wpAny_bind ?_
  replace hs0 : Heap.SameBut z hp g0 := hs0
  rw [← Array.forIn_toList]; simp only [List.forIn_cons, List.forIn_nil]
  refine wpAny_bind (wpAny_bind (wpAny_holding ?_)); show wpAny _ _ (Builtin.SmallTypes.nextOf (.ref i1) >>= _) _ _ ⟨g0, g, d, tk0, os⟩
  refine wpAny_bind (D1.item i _ _ _ l1 (D1.over st1 hs0 S.zf1) fun x1 p1 tk1 hx1 sn1 hp1 => wpAny_pure ?_)
  replace hp1 : Heap.SameBut i1 g0 p1 := hp1
  refine wpAny_pure ?_
  refine wpAny_bind (wpAny_bind (wpAny_holding ?_)); show wpAny _ _ (Builtin.SmallTypes.nextOf (.ref i2) >>= _) _ _ ⟨p1, g, d, tk1, os⟩
  refine wpAny_bind (D2.item i _ _ _ l2 (D2.over (D2.over st2 hs0 S.zf2) hp1 S.sep1_2) fun x2 p2 tk2 hx2 sn2 hp2 => wpAny_pure ?_)
  replace hp2 : Heap.SameBut i2 p1 p2 := hp2
  refine wpAny_pure (wpAny_pure ?_); show wpAny _ _ (newTuple [x1, x2] >>= _) _ _ _
  refine wpAny_bind (wpAny_newTuple ?_)
  have hsz : p2.objs.size = hp.objs.size := by rw [hp2.1, hp1.1, hs0.1]
  have hz2 : IsZipHeld p2 z TI TO T true := hp2.extBut _ _ S.zi2 (hp1.extBut _ _ S.zi1 hz0)
  have hk : ∀ c o, c ≠ z → c ≠ i1 → c ≠ i2 → hp.get? c = some o → p2.get? c = some o := fun c o c0 c1 c2 e =>
    hp2.extBut _ _ c2 (hp1.extBut _ _ c1 (hs0.extBut _ _ c0 e))
  have j1 : St1 (i + 1) p2 := D1.over sn1 hp2 S.sep2_1
  refine wpAny_pure ⟨_, rfl, ?_⟩; show Q (.ref p2.objs.size) _
  have hpr : IsTupOf2 (p2.push { cls := .type "tuple", data := .seq #[x1, x2] }) p2.objs.size x1 x2 := Heap.get?_push_size _ rfl
  have hz4 : (p2.push { cls := .type "tuple", data := .seq #[x1, x2] }).objs.size = p2.objs.size + 1 := Heap.size_push ..
  rw [hsz] at hpr hz4 ⊢
  exact hQ x1 x2 _ tk2 hx1 hx2 (Heap.get?_push_of_some _ hz2) (D1.frame _ _ _ j1 fun b _ o e => Heap.get?_push_of_some _ e)
    (D2.frame _ _ _ sn2 fun b _ o e => Heap.get?_push_of_some _ e) hpr hz4 fun c o c0 c1 c2 e => Heap.get?_push_of_some _ (hk c o c0 c1 c2 e)

/-- the end while the last pair is held -/
theorem held_end {Q : Fin → Shared → Prop} (S : ZipSep2 z TI TO i1 i2 fp1 fp2)
    (D1 : Draws prog w A i1 fp1 n1 P1 St1) (D2 : Draws prog w A i2 fp2 n2 P2 St2)
    (hz : IsZipHeld s.heap z TI TO T f) (hT : s.heap.get? T = some oT) (hTI : IsTupOf2 s.heap TI (.ref i1) (.ref i2))
    (st1 : St1 i s.heap) (st2 : St2 i s.heap) (e1 : i ≤ n1) (e2 : i ≤ n2) (hend : i = n1 ∨ i = n2)
    (hE : ∀ h' tk e, (∀ c o, c ≠ z → c ≠ i1 → c ≠ i2 → s.heap.get? c = some o → h'.get? c = some o) →
      (∃ o, h'.get? e = some o ∧ o.cls = .type "StopIteration") → E (.ref e) { s with heap := h', toks := tk }) :
    wpAny (model prog w) A (Builtin.«zip.__next__» ⟨[.ref z], []⟩) Q E s := by
  obtain ⟨hp, g, d, tk0, os⟩ := s
  show wpAny _ _ (field (.ref z) 2 >>= _) _ _ _
  refine wpAny_bind (wpAny_field hz rfl (x := .bool false) rfl ?_); show wpAny _ _ (field (.ref z) 3 >>= _) _ _ _
  refine wpAny_bind (wpAny_field hz rfl (x := .ref TI) rfl ?_); refine wpAny_bind (wpAny_seqItems hTI rfl ?_)
  show wpAny _ _ (Builtin.SmallTypes.ownedTupleIsFree (.ref z) >>= _) _ _ _
  refine wpAny_bind (wpAny_tupleHeld_zip hz hT fun g0 hz0 hs0 => ?_); simp only [Bool.false_eq_true, if_false]; refine wpAny_bind ?_
  replace hs0 : Heap.SameBut z hp g0 := hs0
  rw [← Array.forIn_toList]; simp only [List.forIn_cons, List.forIn_nil]
  refine wpAny_bind (wpAny_bind (wpAny_holding ?_)); show wpAny _ _ (Builtin.SmallTypes.nextOf (.ref i1) >>= _) _ _ ⟨g0, g, d, tk0, os⟩
  by_cases l1 : i < n1
  · refine wpAny_bind (D1.item i _ _ _ l1 (D1.over st1 hs0 S.zf1) fun x1 p1 tk1 hx1 sn1 hp1 => wpAny_pure ?_)
    replace hp1 : Heap.SameBut i1 g0 p1 := hp1
    have hi2 : i = n2 := by omega
    refine wpAny_pure ?_
    refine wpAny_bind (wpAny_bind (wpAny_holding ?_)); show wpAny _ _ (Builtin.SmallTypes.nextOf (.ref i2) >>= _) _ _ ⟨p1, g, d, tk1, os⟩
    refine wpAny_bind (D2.done ⟨p1, g, d, tk1, os⟩ _ _ (by rw [← hi2]; exact D2.over (D2.over st2 hs0 S.zf2) hp1 S.sep1_2) fun q e hq he => ?_)
    exact hE q tk1 e (fun c o c0 c1 c2 x => hq _ _ c2 (hp1.extBut _ _ c1 (hs0.extBut _ _ c0 x))) he
  · have hi1 : i = n1 := by omega
    refine wpAny_bind (D1.done ⟨g0, g, d, tk0, os⟩ _ _ (by rw [← hi1]; exact D1.over st1 hs0 S.zf1) fun q e hq he => ?_)
    exact hE q tk0 e (fun c o c0 c1 c2 x => hq _ _ c1 (hs0.extBut _ _ c0 x)) he
end
end XL
namespace XL
open PySem PyProof.Rows
/-- the zip between two nexts: nothing given out yet, or the last pair is held -/
def ZNow (h : Heap) (z TI TO L : Addr) : Prop :=
  (IsZip h z TI TO .none ∧ ∃ a1 a2, IsTupOf2 h TO a1 a2) ∨ ∃ T f oT, IsZipHeld h z TI TO T f ∧ h.get? T = some oT ∧ T ≠ z ∧ T ≠ L
theorem ZNow.typ {s : Shared} {z TI TO L : Addr} (h : ZNow s.heap z TI TO L) : s.TypeIs (.ref z) "zip" := by
  rcases h with ⟨h, _⟩ | ⟨T, f, oT, h, _⟩
  · exact ⟨_, h, rfl⟩
  · exact ⟨_, h, rfl⟩
theorem ZNow.lt {h : Heap} {z TI TO L : Addr} (q : ZNow h z TI TO L) : z < h.objs.size := by
  rcases q with ⟨h, _⟩ | ⟨T, f, oT, h, _⟩
  · exact Heap.lt_size h
  · exact Heap.lt_size h
section
variable {prog : Program} {w : World} {A : Around} {E : Value → Shared → Prop} {s : Shared} {z TI TO L i1 i2 : Addr}
variable {fp1 fp2 : List Addr} {n1 n2 i : Nat} {P1 P2 : Nat → Value → Prop} {St1 St2 : Nat → Heap → Prop}
theorem next_item {Q : Option Value → Shared → Prop} (S : ZipSep2 z TI TO i1 i2 fp1 fp2)
    (D1 : Draws prog w A.in1 i1 fp1 n1 P1 St1) (D2 : Draws prog w A.in1 i2 fp2 n2 P2 St2)
    (hz : ZNow s.heap z TI TO L) (hTI : IsTupOf2 s.heap TI (.ref i1) (.ref i2)) (hL : L < s.heap.objs.size)
    (st1 : St1 i s.heap) (st2 : St2 i s.heap) (l1 : i < n1) (l2 : i < n2)
    (hQ : ∀ x1 x2 h' tk, P1 i x1 → P2 i x2 → ZNow h' z TI TO L → St1 (i + 1) h' → St2 (i + 1) h' →
      IsTupOf2 h' s.heap.objs.size x1 x2 → h'.objs.size = s.heap.objs.size + 1 →
      (∀ c o, c ≠ z → c ≠ TO → c ≠ i1 → c ≠ i2 → s.heap.get? c = some o → h'.get? c = some o) →
      Q (some (.ref s.heap.objs.size)) { s with heap := h', toks := tk }) :
    wpAny (model prog w) A (pyNext (.ref z)) Q E s := by
  have hTy := hz.typ
  have zl : z < s.heap.objs.size := hz.lt
  have zne : s.heap.objs.size ≠ z := Nat.ne_of_gt zl
  have lne : s.heap.objs.size ≠ L := Nat.ne_of_gt hL
  rcases hz with ⟨hz, a1, a2, hTO⟩ | ⟨T, f, oT, hz, hT, hTz, hTL⟩
  · refine wpAny_pyNext_zipD2_item S D1 D2 hz hTI hTO st1 st2 l1 l2 fun x1 x2 h' tk y1 y2 b1 b2 d1 d2 b5 b6 b7 => ?_
    exact hQ x1 x2 h' tk y1 y2 (.inr ⟨s.heap.objs.size, false, _, b1, b5, zne, lne⟩) d1 d2 b5 b6 b7
  · unfold pyNext
    refine wpAny_bind (wpAny_attempt (wpAny_callSpecial?_slot (name := Str.ofString "__next__") hTy F.slot_zip_next
      (wpAny_call_entry F.slot_zip_next hTy F.entry_zip_next (held_item S D1 D2 hz hT hTI st1 st2 l1 l2
        fun x1 x2 h' tk y1 y2 b1 d1 d2 b5 b6 b7 => wpAny_pure ?_) (F.args_zip_next_1 _))))
    have hT' : ∃ o, h'.get? T = some o := by
      by_cases c1 : T = i1
      · rw [c1]; exact D1.live _ _ d1
      · by_cases c2 : T = i2
        · rw [c2]; exact D2.live _ _ d2
        · exact ⟨_, b7 T oT hTz c1 c2 hT⟩
    obtain ⟨o', hT'⟩ := hT'
    exact hQ x1 x2 h' tk y1 y2 (.inr ⟨T, true, o', b1, hT', hTz, hTL⟩) d1 d2 b5 b6 fun c o c0 _ c1 c2 e => b7 c o c0 c1 c2 e
theorem next_end {Q : Option Value → Shared → Prop} (S : ZipSep2 z TI TO i1 i2 fp1 fp2)
    (D1 : Draws prog w A.in1 i1 fp1 n1 P1 St1) (D2 : Draws prog w A.in1 i2 fp2 n2 P2 St2)
    (hz : ZNow s.heap z TI TO L) (hTI : IsTupOf2 s.heap TI (.ref i1) (.ref i2))
    (st1 : St1 i s.heap) (st2 : St2 i s.heap) (e1 : i ≤ n1) (e2 : i ≤ n2) (hend : i = n1 ∨ i = n2)
    (hQ : ∀ h' tk, (∀ c o, c ≠ z → c ≠ TO → c ≠ i1 → c ≠ i2 → s.heap.get? c = some o → h'.get? c = some o) →
      Q none { s with heap := h', toks := tk }) :
    wpAny (model prog w) A (pyNext (.ref z)) Q E s := by
  have hTy := hz.typ
  rcases hz with ⟨hz, a1, a2, hTO⟩ | ⟨T, f, oT, hz, hT, hTz, hTL⟩
  · exact wpAny_pyNext_zipD2_end S D1 D2 hz hTI hTO st1 st2 e1 e2 hend hQ
  · unfold pyNext
    refine wpAny_bind (wpAny_attempt (wpAny_callSpecial?_slot (name := Str.ofString "__next__") hTy F.slot_zip_next
      (wpAny_call_entry F.slot_zip_next hTy F.entry_zip_next (held_end S D1 D2 hz hT hTI st1 st2 e1 e2 hend fun h' tk e hk he => ?_) (F.args_zip_next_1 _))))
    obtain ⟨o, ho, hc⟩ := he
    refine wpAny_bind (wpAny_isInstance (T := "StopIteration") (b := true) ⟨o, ho, hc⟩ isSubtype_stop ?_)
    exact wpAny_pure (hQ _ _ fun c o c0 _ c1 c2 e => hk c o c0 c1 c2 e)
end

/-- the pairs laid so far: at Ts, new, apart from the zip's own cells and the list -/
structure Laid (N L : Nat) (P1 P2 : Nat → Value → Prop) (cells : List Addr) (h : Heap) (Ts : List Addr) : Prop where
  nd : Ts.Nodup
  at_ : ∀ j T, Ts[j]? = some T → N ≤ T ∧ T < h.objs.size ∧ T ≠ L ∧ T ∉ cells ∧ ∃ x y, P1 j x ∧ P2 j y ∧ IsTupOf2 h T x y
theorem Laid.nil {N L : Nat} {P1 P2 : Nat → Value → Prop} {cells : List Addr} {h : Heap} : Laid N L P1 P2 cells h [] := ⟨List.nodup_nil, fun j T e => by simp at e⟩
theorem Laid.over {N L : Nat} {P1 P2 : Nat → Value → Prop} {cells : List Addr} {h h' : Heap} {Ts : List Addr} (q : Laid N L P1 P2 cells h Ts)
    (hs : h.objs.size ≤ h'.objs.size) (hk : ∀ c o, c ∉ cells → c ≠ L → h.get? c = some o → h'.get? c = some o) : Laid N L P1 P2 cells h' Ts :=
  ⟨q.nd, fun j T e => by
    obtain ⟨a, b, c, d, x, y, px, py, t⟩ := q.at_ j T e
    exact ⟨a, Nat.lt_of_lt_of_le b hs, c, d, x, y, px, py, hk _ _ d c t⟩⟩
theorem Laid.push {N L : Nat} {P1 P2 : Nat → Value → Prop} {cells : List Addr} {h h' : Heap} {Ts : List Addr} {x y : Value} (q : Laid N L P1 P2 cells h Ts)
    (hs : h'.objs.size = h.objs.size + 1) (hk : ∀ c o, c ∉ cells → c ≠ L → h.get? c = some o → h'.get? c = some o)
    (hN : N ≤ h.objs.size) (hL : L < h.objs.size) (hc : ∀ c ∈ cells, c < h.objs.size) (px : P1 Ts.length x) (py : P2 Ts.length y) (t : IsTupOf2 h' h.objs.size x y) :
    Laid N L P1 P2 cells h' (Ts ++ [h.objs.size]) := by
  have q' := q.over (h' := h') (by omega) hk
  refine ⟨?_, fun j T e => ?_⟩
  · rw [List.nodup_append]
    refine ⟨q.nd, by simp, fun a ha b hb e => ?_⟩
    simp at hb
    obtain ⟨j, hj⟩ := List.getElem?_of_mem ha
    have := (q.at_ j a hj).2.1
    rw [e, hb] at this
    exact Nat.lt_irrefl _ this
  · by_cases hj : j < Ts.length
    · rw [List.getElem?_append_left hj] at e
      exact q'.at_ j T e
    · rw [List.getElem?_append_right (by omega)] at e
      have hj0 : j - Ts.length = 0 := by
        rcases Nat.eq_zero_or_pos (j - Ts.length) with z | z
        · exact z
        · rw [List.getElem?_eq_none (by simp; omega)] at e
          cases e
      rw [hj0] at e
      have e' : h.objs.size = T := by simpa using e
      subst e'
      have ej : j = Ts.length := by omega
      refine ⟨hN, by rw [hs]; exact Nat.lt_succ_self _, Nat.ne_of_gt hL, fun hm => Nat.lt_irrefl _ (hc _ hm), x, y, ?_, ?_, t⟩
      · rw [ej]; exact px
      · rw [ej]; exact py
section
variable {prog : Program} {w : World} {A : Around} {R : Result → Shared → Prop} {z TI TO i1 i2 : Addr} {N L : Nat}
variable {fp1 fp2 : List Addr} {n1 n2 n : Nat} {P1 P2 : Nat → Value → Prop} {St1 St2 : Nat → Heap → Prop}
theorem loop_zip (S : ZipSep2 z TI TO i1 i2 fp1 fp2) (D1 : Draws prog w A.in1.in1 i1 fp1 n1 P1 St1) (D2 : Draws prog w A.in1.in1 i2 fp2 n2 P2 St2)
    (hn : n = min n1 n2) (hsz : n ≤ sizeLine) (res : Value) (hL1 : L ∉ fp1) (hL2 : L ∉ fp2) (hLz : L ≠ z) (hLTI : L ≠ TI) (hLTO : L ≠ TO) (hNz : N ≤ z) (hNT : N ≤ TO) (hN1 : N ≤ i1) (hN2 : N ≤ i2) (hNL : N ≤ L) :
    ∀ (k : Nat) (s : Shared) (Ts : List Addr) (c : Nat), n - Ts.length = k → Ts.length ≤ n → ZNow s.heap z TI TO L → IsTupOf2 s.heap TI (.ref i1) (.ref i2) → TO < s.heap.objs.size →
      St1 Ts.length s.heap → St2 Ts.length s.heap → N ≤ s.heap.objs.size → s.heap.get? L = some { cls := .type "list", dict := none, data := .seq (Ts.map Value.ref).toArray c, slots := #[] } →
      Laid N L P1 P2 [z, TO, i1, i2] s.heap Ts →
      (∀ h' tk Ts' c', Ts'.length = n → (∀ b o, b < N → s.heap.get? b = some o → h'.get? b = some o) →
        h'.get? L = some { cls := .type "list", dict := none, data := .seq (Ts'.map Value.ref).toArray c', slots := #[] } → Laid N L P1 P2 [z, TO, i1, i2] h' Ts' →
        R (.ok (.ret res)) { s with heap := h', toks := tk }) →
      codeAny (model prog w) A (.builtin "list.extend.loop" ⟨[.ref L, .ref z, res], []⟩) R s := by
  intro k
  have S' := S
  induction k with
  | zero =>
    intro s Ts c hk hle hz hTI hTO st1 st2 hN hLs hld hR
    have hin : Ts.length = n := by omega
    refine codeAny_builtin F.entry_extend_loop ?_
    rw [Around.under_plainId F.plain_extend_loop _]
    show wpAny _ A.in1 (pyNext (.ref z) >>= _) _ _ s
    have hend : Ts.length = n1 ∨ Ts.length = n2 := by omega
    refine wpAny_bind (next_end S D1 D2 hz hTI st1 st2 (by omega) (by omega) hend fun h' tk hk' => ?_)
    have ne : ∀ c, c ∉ [z, TO, i1, i2] → c ≠ z ∧ c ≠ TO ∧ c ≠ i1 ∧ c ≠ i2 := fun c hc => by simpa using hc
    have Li : L ≠ i1 ∧ L ≠ i2 := ⟨fun e => hL1 (e ▸ S.mem1), fun e => hL2 (e ▸ S.mem2)⟩
    refine wpAny_pure (hR h' tk Ts c hin (fun b o hb e => ?_) (hk' L _ hLz hLTO Li.1 Li.2 hLs) ?_)
    · exact hk' b o (Nat.ne_of_lt (Nat.lt_of_lt_of_le hb hNz)) (Nat.ne_of_lt (Nat.lt_of_lt_of_le hb hNT)) (Nat.ne_of_lt (Nat.lt_of_lt_of_le hb hN1)) (Nat.ne_of_lt (Nat.lt_of_lt_of_le hb hN2)) e
    · refine ⟨hld.nd, fun j T e => ?_⟩
      obtain ⟨a, b, c, d, x, y, px, py, t⟩ := hld.at_ j T e
      have t' : IsTupOf2 h' T x y := hk' _ _ (ne T d).1 (ne T d).2.1 (ne T d).2.2.1 (ne T d).2.2.2 t
      exact ⟨a, Heap.lt_size t', c, d, x, y, px, py, t'⟩
  | succ k ih =>
    intro s Ts c hk hle hz hTI hTO st1 st2 hN hLs hld hR
    have hlt1 : Ts.length < n1 := by omega
    have hlt2 : Ts.length < n2 := by omega
    refine codeAny_builtin F.entry_extend_loop ?_
    rw [Around.under_plainId F.plain_extend_loop _]
    show wpAny _ A.in1 (pyNext (.ref z) >>= _) _ _ s
    have hLlt : L < s.heap.objs.size := Heap.lt_size hLs
    refine wpAny_bind (next_item S D1 D2 hz hTI hLlt st1 st2 hlt1 hlt2 fun x1 x2 h' tk px py hz' d1 d2 ht hsz' hk' => ?_)
    have ne : ∀ c, c ∉ [z, TO, i1, i2] → c ≠ z ∧ c ≠ TO ∧ c ≠ i1 ∧ c ≠ i2 := fun c hc => by simpa using hc
    have Li : L ≠ i1 ∧ L ≠ i2 := ⟨fun e => hL1 (e ▸ S.mem1), fun e => hL2 (e ▸ S.mem2)⟩
    have hL' := hk' L _ hLz hLTO Li.1 Li.2 hLs
    have hTI' : IsTupOf2 h' TI (.ref i1) (.ref i2) := hk' TI _ S.TIz S.TITO S.TIi1 S.TIi2 hTI
    have hcells : ∀ b ∈ [z, TO, i1, i2], b < s.heap.objs.size := fun b hb => by
      have hb' : b = z ∨ b = TO ∨ b = i1 ∨ b = i2 := by simpa using hb
      rcases hb' with e | e | e | e
      · rw [e]; exact hz.lt
      · rw [e]; exact hTO
      · rw [e]; obtain ⟨o, q⟩ := D1.live _ _ st1; exact Heap.lt_size q
      · rw [e]; obtain ⟨o, q⟩ := D2.live _ _ st2; exact Heap.lt_size q
    have hld' : Laid N L P1 P2 [z, TO, i1, i2] h' (Ts ++ [s.heap.objs.size]) :=
      hld.push hsz' (fun c o hc _ e => hk' c o (ne c hc).1 (ne c hc).2.1 (ne c hc).2.2.1 (ne c hc).2.2.2 e) hN hLlt hcells px py ht
    show wpAny _ A.in1 (updateSeq L (·.push (Value.ref s.heap.objs.size)) >>= _) _ _ _
    refine wpAny_bind ?_
    have hlen : (Ts ++ [s.heap.objs.size]).length = Ts.length + 1 := by simp
    have hzs : ((Ts.map Value.ref).toArray : Array Value).size = Ts.length := by simp
    refine wpAny_updateSeq hL' rfl (wpAny_pure ⟨plainId_quiet F.plain_extend_loop _, ?_⟩) (by rw [hzs]; omega)
      (by show ((Ts.map Value.ref).toArray.push (Value.ref s.heap.objs.size)).size ≤ sizeLine + 1; rw [Array.size_push, hzs]; omega)
    have hself := Heap.get?_update_self (Obj.mapSeq (·.push (Value.ref s.heap.objs.size))) hL' rfl
    have hoth : ∀ b o, b ≠ L → h'.get? b = some o → (h'.update L (Obj.mapSeq (·.push (Value.ref s.heap.objs.size)))).get? b = some o :=
      fun b o hb e => (Heap.get?_update_other _ _ (Ne.symm hb)).trans e
    have hus : (h'.update L (Obj.mapSeq (·.push (Value.ref s.heap.objs.size)))).objs.size = h'.objs.size := (Heap.SameBut.update ..).1
    obtain ⟨c3, hc3⟩ : ∃ c3, (h'.update L (Obj.mapSeq (·.push (Value.ref s.heap.objs.size)))).get? L = some { cls := .type "list", dict := none, data := .seq ((Ts ++ [s.heap.objs.size]).map Value.ref).toArray c3, slots := #[] } := by
      have eA : ((Ts ++ [s.heap.objs.size]).map Value.ref).toArray = (Ts.map Value.ref).toArray.push (Value.ref s.heap.objs.size) := by simp
      rw [eA, hself]; exact ⟨_, rfl⟩
    refine ih { s with heap := h'.update L (Obj.mapSeq (·.push (Value.ref s.heap.objs.size))), toks := tk } (Ts ++ [s.heap.objs.size]) c3 (by rw [hlen]; omega) (by rw [hlen]; omega) ?_ (hoth TI _ (Ne.symm hLTI) hTI') ?_ ?_ ?_ ?_ ?_ ?_ fun h2 tk2 Ts2 c2 hl2 hk2 hL2' hld2 => ?_
    · rcases hz' with ⟨q, a1, a2, q2⟩ | ⟨T, f, oT, q, q2, q3, q4⟩
      · exact .inl ⟨hoth z _ (Ne.symm hLz) q, a1, a2, hoth TO _ (Ne.symm hLTO) q2⟩
      · exact .inr ⟨T, f, oT, hoth z _ (Ne.symm hLz) q, hoth T _ q4 q2, q3, q4⟩
    · show TO < (h'.update L _).objs.size
      rw [hus, hsz']; exact Nat.lt_succ_of_lt hTO
    · rw [hlen]; exact D1.frame _ _ _ d1 fun b hb o e => hoth b o (fun q => hL1 (q ▸ hb)) e
    · rw [hlen]; exact D2.frame _ _ _ d2 fun b hb o e => hoth b o (fun q => hL2 (q ▸ hb)) e
    · show N ≤ (h'.update L _).objs.size
      rw [hus, hsz']; exact Nat.le_succ_of_le hN
    · exact hc3
    · exact hld'.over (by rw [hus]; exact Nat.le_refl _) fun b o _ hb e => hoth b o hb e
    · refine hR h2 tk2 Ts2 c2 hl2 (fun b o hb e => hk2 b o hb (hoth b o (Nat.ne_of_lt (Nat.lt_of_lt_of_le hb hNL)) ?_)) hL2' hld2
      exact hk' b o (Nat.ne_of_lt (Nat.lt_of_lt_of_le hb hNz)) (Nat.ne_of_lt (Nat.lt_of_lt_of_le hb hNT)) (Nat.ne_of_lt (Nat.lt_of_lt_of_le hb hN1)) (Nat.ne_of_lt (Nat.lt_of_lt_of_le hb hN2)) e
theorem zip_no_len : typeLookup (.type "zip") "__len__" = pure none := am_miss_of_fast (by decide +kernel)
theorem zip_no_hint : typeLookup (.type "zip") "__length_hint__" = pure none := am_miss_of_fast (by decide +kernel)
end
end XL
namespace XL
open PySem PyProof.Rows
section
variable {prog : Program} {w : World} {A : Around} {E : Value → Shared → Prop} {s : Shared}
/-- list(zip(v1, v2)): a new list of new pairs -/
theorem call_list_zip {Q : Value → Shared → Prop} {v1 v2 : Value} {o1 o2 : Obj} {H1 H2 : Heap → Prop} {fp1 fp2 : List Addr} {n1 n2 n : Nat} {P1 P2 : Nat → Value → Prop} {St1 St2 : Nat → Heap → Prop}
    (B1 : Begins v1 o1 H1) (B2 : Begins v2 o2 H2) (h1 : H1 s.heap) (h2 : H2 s.heap) (hf1 : ∀ b ∈ fp1, b < s.heap.objs.size) (hf2 : ∀ b ∈ fp2, b < s.heap.objs.size)
    (D1 : ∀ A', A'.handled = none → Draws prog w A' s.heap.objs.size (s.heap.objs.size :: fp1) n1 P1 St1)
    (D2 : ∀ A', A'.handled = none → Draws prog w A' (s.heap.objs.size + 1) ((s.heap.objs.size + 1) :: fp2) n2 P2 St2)
    (b1 : ∀ h', (∀ b o, s.heap.get? b = some o → h'.get? b = some o) → h'.get? s.heap.objs.size = some o1 → St1 0 h')
    (b2 : ∀ h', (∀ b o, s.heap.get? b = some o → h'.get? b = some o) → h'.get? (s.heap.objs.size + 1) = some o2 → St2 0 h')
    (hA : A.handled = none) (hn : n = min n1 n2) (hz : n ≤ sizeLine)
    (hQ : ∀ (h' : Heap) (tk : Nat) (Ts : List Addr) (c : Nat) (L : Addr), Ts.length = n → (∀ b o, s.heap.get? b = some o → h'.get? b = some o) → s.heap.objs.size ≤ L →
      h'.get? L = some { cls := .type "list", dict := none, data := .seq (Ts.map Value.ref).toArray c, slots := #[] } → Ts.Nodup →
      (∀ j T, Ts[j]? = some T → s.heap.objs.size ≤ T ∧ T ≠ L ∧ ∃ x y, P1 j x ∧ P2 j y ∧ IsTupOf2 h' T x y) → Q (.ref L) { s with heap := h', toks := tk }) :
    wpAny (model prog w) A (call (.type "zip") [v1, v2]) (fun v s1 => wpAny (model prog w) A (call (.type "list") [v]) Q E s1) E s := by
  refine zip_begins2 B1 B2 h1 h2 fun g hz0 hTI hTO e1 e2 hsz hk => ?_
  have hgN : g.objs.size = s.heap.objs.size + 5 := hsz
  generalize hNN : s.heap.objs.size = N at *
  refine callType_codes (Q₁ := fun obj s₁ => obj = .ref g.objs.size ∧ s₁ = { s with heap := g.push { cls := .type "list", data := .seq #[] } }) F.called_list (F.typeCall_list_1 _) F.entry_list_init
    (code_list_new _ ⟨rfl, rfl⟩) fun obj s₁ q₁ => ?_
  obtain ⟨rfl, rfl⟩ := q₁
  have hS : (g.push { cls := .type "list", data := .seq #[] }).get? g.objs.size = some { cls := .type "list", data := .seq #[] } := Heap.get?_push_size _ rfl
  refine ⟨⟨_, hS, rfl⟩, F.args_list_init_2 _ _, ?_⟩
  have SS := zip_sep2 hf1 hf2
  have kp : ∀ b o, g.get? b = some o → (g.push { cls := .type "list", data := .seq #[] }).get? b = some o := fun b o e => Heap.get?_push_of_some _ e
  generalize hG : g.push { cls := .type "list", data := .seq #[] } = G at *
  have hGz : G.objs.size = g.objs.size + 1 := by rw [← hG]; exact Heap.size_push ..
  have hLv : g.objs.size = N + 5 := hgN
  generalize hLL : g.objs.size = L at *
  show wpAny _ _ (do let old ← Builtin.List.listItems (.ref L); Builtin.List.listUpdate (.ref L) (fun _ => #[]); letGo old.toList.reverse; Builtin.List.listExtendWith (.ref L) (.ref (N + 4)) .none) _ _ _
  refine wpAny_bind ?_
  unfold Builtin.List.listItems
  refine wpAny_bind (wpAny_seqItems hS rfl (wpAny_pure ?_))
  show wpAny _ _ (updateSeq L (fun _ => #[]) >>= fun _ => letGo (#[] : Array Value).toList.reverse >>= fun _ => Builtin.List.listExtendWith (.ref L) (.ref (N + 4)) .none) _ _ _
  refine wpAny_bind (wpAny_updateSeq hS rfl ?_)
  have hS₂ := Heap.get?_update_self (Obj.mapSeq (fun _ => (#[] : Array Value))) hS rfl
  have oth : ∀ b o, b ≠ L → G.get? b = some o → (G.update L (Obj.mapSeq (fun _ => (#[] : Array Value)))).get? b = some o :=
    fun b o hb e => (Heap.get?_update_other _ _ (Ne.symm hb)).trans e
  have hG2 : (G.update L (Obj.mapSeq (fun _ => (#[] : Array Value)))).objs.size = G.objs.size := (Heap.SameBut.update ..).1
  generalize hGG : G.update L (Obj.mapSeq (fun _ => (#[] : Array Value))) = G2 at *
  refine wpAny_bind (wpAny_letGo ?_)
  have hNL : N ≤ L := by omega
  have nL : ∀ j : Nat, j < 5 → N + j ≠ L := fun j hj => by omega
  have hz2 : IsZip G2 (N + 4) (N + 2) (N + 3) .none := oth _ _ (nL 4 (by omega)) (kp _ _ hz0)
  have hT2 : IsTupOf2 G2 (N + 2) (.ref N) (.ref (N + 1)) := oth _ _ (nL 2 (by omega)) (kp _ _ hTI)
  have hO2 : IsTupOf2 G2 (N + 3) .none .none := oth _ _ (nL 3 (by omega)) (kp _ _ hTO)
  unfold Builtin.List.listExtendWith
  have hTy : ({ s with heap := G2 } : Shared).TypeIs (.ref (N + 4)) "zip" := ⟨_, hz2, rfl⟩
  refine wpAny_bind (wpAny_typeOf hTy ?_)
  have q1 : Builtin.List.listSameRef (.ref L) (.ref (N + 4)) = false := by simp only [Builtin.List.listSameRef]; exact beq_eq_false_iff_ne.mpr (nL 4 (by omega)).symm
  have q2 : (Value.type "zip" == Value.type "list") = false := by decide
  have q3 : (Value.type "zip" == Value.type "tuple") = false := by decide
  simp only [q1, q2, q3, Bool.or_false, Bool.false_eq_true, if_false]
  refine wpAny_bind (wpAny_pyIter_zip hz2 ?_)
  refine wpAny_bind (wpAny_holding ?_)
  unfold Builtin.List.listLengthHint
  refine wpAny_bind (wpAny_specialOf hTy zip_no_len ?_)
  show wpAny _ _ (specialOf (Value.ref (N + 4)) (Str.ofString "__length_hint__") >>= _) _ _ _
  refine wpAny_bind (wpAny_specialOf hTy zip_no_hint ?_)
  refine wpAny_pure ?_
  show wpAny _ _ (rule "list.extend.makes-room" >>= fun _ => Builtin.List.listTouch (.ref L) >>= fun _ => again (.builtin "list.extend.loop" ⟨[.ref L, .ref (N + 4), .none], []⟩)) _ _ _
  refine wpAny_bind (wpAny_rule ?_)
  refine wpAny_bind ?_
  show wpAny _ _ (updateSeq L (·.push .none) >>= fun _ => updateSeq L (·.pop)) _ _ _
  refine wpAny_bind (wpAny_updateSeq hS₂ rfl ?_)
  have hS₃ := Heap.get?_update_self (Obj.mapSeq (·.push Value.none)) hS₂ rfl
  refine wpAny_updateSeq (hz := by seq_fits) hS₃ rfl ?_
  have hS₄ := Heap.get?_update_self (Obj.mapSeq (·.pop)) hS₃ rfl
  have oth2 : ∀ b o, b ≠ L → G2.get? b = some o → ((G2.update L (Obj.mapSeq (·.push Value.none))).update L (Obj.mapSeq (·.pop))).get? b = some o :=
    fun b o hb e => (Heap.get?_update_other _ _ (Ne.symm hb)).trans ((Heap.get?_update_other _ _ (Ne.symm hb)).trans e)
  have hG3 : ((G2.update L (Obj.mapSeq (·.push Value.none))).update L (Obj.mapSeq (·.pop))).objs.size = G2.objs.size := ((Heap.SameBut.update ..).1).trans ((Heap.SameBut.update ..).1)
  generalize hGGG : (G2.update L (Obj.mapSeq (·.push Value.none))).update L (Obj.mapSeq (·.pop)) = G3 at *
  have old : ∀ b o, s.heap.get? b = some o → G3.get? b = some o := fun b o e => by
    have hb : b < N := by rw [← hNN]; exact Heap.lt_size e
    have hb' : b ≠ L := Nat.ne_of_lt (Nat.lt_of_lt_of_le hb hNL)
    exact oth2 b o hb' (oth b o hb' (kp b o (hk b o e)))
  have at1 : G3.get? N = some o1 := oth2 _ _ (nL 0 (by omega)) (oth _ _ (nL 0 (by omega)) (kp _ _ e1))
  have at2 : G3.get? (N + 1) = some o2 := oth2 _ _ (nL 1 (by omega)) (oth _ _ (nL 1 (by omega)) (kp _ _ e2))
  have hLn1 : L ∉ N :: fp1 := fun hm => by
    rcases List.mem_cons.mp hm with e | hm
    · exact nL 0 (by omega) e.symm
    · exact Nat.lt_irrefl _ (Nat.lt_of_lt_of_le (hf1 _ hm) hNL)
  have hLn2 : L ∉ (N + 1) :: fp2 := fun hm => by
    rcases List.mem_cons.mp hm with e | hm
    · exact nL 1 (by omega) e.symm
    · exact Nat.lt_irrefl _ (Nat.lt_of_lt_of_le (hf2 _ hm) hNL)
  refine wpAny_pure ⟨plainId_quiet F.plain_extend_loop _, loop_zip (A := A.in1) (N := N) (L := L) SS (D1 _ (show A.in1.in1.in1.handled = none from hA)) (D2 _ (show A.in1.in1.in1.handled = none from hA)) hn hz .none hLn1 hLn2 (nL 4 (by omega)).symm (nL 2 (by omega)).symm (nL 3 (by omega)).symm (Nat.le_add_right _ _) (Nat.le_add_right _ _) (Nat.le_refl _) (Nat.le_add_right _ _) (by omega)
    n _ [] _ (by simp) (Nat.zero_le _) (.inl ⟨oth2 _ _ (nL 4 (by omega)) hz2, _, _, oth2 _ _ (nL 3 (by omega)) hO2⟩) (oth2 _ _ (nL 2 (by omega)) hT2) ?_ (b1 G3 old at1) (b2 G3 old at2) ?_ hS₄ .nil fun h' tk Ts c hl hk' hL' hld => ?_⟩
  · show (N + 3 : Nat) < G3.objs.size
    rw [hG3, hG2, hGz]; omega
  · show N ≤ G3.objs.size
    rw [hG3, hG2, hGz]; omega
  · refine ⟨rfl, hQ h' tk Ts c L hl (fun b o e => hk' b o (by rw [← hNN]; exact Heap.lt_size e) (old b o e)) (by omega) hL' hld.nd fun j T e => ?_⟩
    obtain ⟨a, _, b, _, c⟩ := hld.at_ j T e
    exact ⟨a, b, c⟩
end
end XL
namespace XL
open PySem PySem.Spec PyProof.Rows L2
/-- a list or a tuple -/
def Sq2 (K : PySem.W.Frag) (H : Hp) (a : Addr) (xs : List V) : Prop := SqL K H a xs ∨ SqT K H a xs
theorem Same.tup {K : PySem.W.Frag} {H H' : Hp} {a : Addr} {xs : List V} (e : Same H H') (h : SqT K H a xs) : SqT K H' a xs := by
  rcases h with (h | ⟨o, h⟩) | h
  · exact .inl (.inl (e _ _ h))
  · exact .inl (.inr ⟨o, e _ _ h⟩)
  · exact .inr h
theorem Same.sq2 {K : PySem.W.Frag} {H H' : Hp} {a : Addr} {xs : List V} (e : Same H H') (h : Sq2 K H a xs) : Sq2 K H' a xs := h.imp (fun q => e.seq q) (fun q => Same.tup e q)
theorem same_new {H : Hp} {p : Addr} {o : HO} (h : H p = none) : Same H (upd H p o) := fun b x e => by
  rw [upd_ne (ne_of_none e h)]
  exact e
section
variable {X : Cx} {pins : List (Addr × Obj)} {σ : L2.St} {H : Hp} {s : Shared} {a : Addr} {xs : List V}
theorem seq_draws (I : Inv X pins σ H s) (h : Sq2 X.K H a xs) : ∃ (its : List Value) (o : Obj) (B : Heap → Prop) (fp : List Addr), Vals xs its ∧ xs.length ≤ sizeLine ∧ Begins (.ref a) o B ∧ B s.heap ∧
    (∀ b ∈ fp, b < s.heap.objs.size) ∧ ∀ it, s.heap.objs.size ≤ it → ∃ St : Nat → Heap → Prop, (∀ A' : Around, A'.handled = none → Draws X.prog X.w A' it (it :: fp) its.length (fun i v => its[i]? = some v) St) ∧
      ∀ h' : Heap, (∀ b o, s.heap.get? b = some o → h'.get? b = some o) → h'.get? it = some o → St 0 h' := by
  rcases h with h | h
  · obtain ⟨its, rv, p, hz⟩ := I.list h
    have la : a < s.heap.objs.size := p.lt
    refine ⟨its, _, _, [a], rv, hz, begins_list a its.toArray, p.isList, fun b hb => by rw [List.mem_singleton.mp hb]; exact la, fun it hit => ?_⟩
    have hne : a ≠ it := Nat.ne_of_lt (Nat.lt_of_lt_of_le la hit)
    refine ⟨fun i h => h.IsListIter it a i ∧ h.IsList a its.toArray, fun A' hA => ?_, fun h' hk e => ?_⟩
    · have D := Draws.list (prog := X.prog) (w := X.w) hA it a hne its.toArray
      simpa using D
    · exact ⟨⟨_, e, rfl, rfl⟩, p.isList.at fun o q => hk a o q⟩
  · obtain ⟨its, rv, p, hz⟩ := I.tuple h
    have la : a < s.heap.objs.size := by
      obtain ⟨o, e, _⟩ := p
      exact Heap.lt_size e
    have p' : s.heap.IsTuple a its.toArray := p
    refine ⟨its, _, _, [a], rv, hz, begins_tuple a its.toArray, p', fun b hb => by rw [List.mem_singleton.mp hb]; exact la, fun it hit => ?_⟩
    have hne : a ≠ it := Nat.ne_of_lt (Nat.lt_of_lt_of_le la hit)
    refine ⟨fun i h => h.IsTupleIter it a i ∧ h.IsTuple a its.toArray, fun A' hA => ?_, fun h' hk e => ?_⟩
    · have D := Draws.tuple (prog := X.prog) (w := X.w) hA it a hne its.toArray
      simpa using D
    · exact ⟨⟨_, e, rfl, rfl⟩, p'.at fun o q => hk a o q⟩
end
/-- pairs laid at Ts -/
def layP (H : Hp) : List Addr → List V → List V → Hp
  | T :: Ts, x :: xs, y :: ys => upd (layP H Ts xs ys) T (.tup [x, y])
  | _, _, _ => H
theorem layP_off (H : Hp) {c : Addr} : ∀ (Ts : List Addr) (xs ys : List V), c ∉ Ts → layP H Ts xs ys c = H c
  | [], xs, ys, _ => by cases xs <;> cases ys <;> rfl
  | T :: Ts, [], ys, _ => rfl
  | T :: Ts, _ :: _, [], _ => rfl
  | T :: Ts, x :: xs, y :: ys, h => by
    have h1 : c ≠ T := fun e => h (by rw [e]; exact List.mem_cons_self ..)
    show upd (layP H Ts xs ys) T _ c = H c
    rw [upd_ne h1]
    exact layP_off H Ts xs ys fun q => h (List.mem_cons_of_mem _ q)
theorem layP_at (H : Hp) : ∀ (Ts : List Addr) (xs ys : List V) (j : Nat) (T : Addr) (x y : V), Ts.Nodup → Ts[j]? = some T → xs[j]? = some x → ys[j]? = some y → layP H Ts xs ys T = some (.tup [x, y])
  | [], _, _, _, _, _, _, _, h, _, _ => by simp at h
  | T :: Ts, [], _, _, _, _, _, _, _, h, _ => by simp at h
  | T :: Ts, _ :: _, [], _, _, _, _, _, _, _, h => by simp at h
  | T :: Ts, x :: xs, y :: ys, 0, T', x', y', _, h, hx, hy => by
    have e1 : T = T' := Option.some.inj h
    have e2 : x = x' := Option.some.inj hx
    have e3 : y = y' := Option.some.inj hy
    subst e1 e2 e3
    exact upd_same
  | T :: Ts, x :: xs, y :: ys, j + 1, T', x', y', nd, h, hx, hy => by
    have h' : Ts[j]? = some T' := h
    have hne : T' ≠ T := fun e => (List.nodup_cons.mp nd).1 (by rw [← e]; exact List.mem_of_getElem? h')
    show upd (layP H Ts xs ys) T _ T' = _
    rw [upd_ne hne]
    exact layP_at H Ts xs ys j T' x' y' (List.nodup_cons.mp nd).2 h' hx hy
/-- list(zip(e, e2)) -/
def tLZ (K : PySem.W.Frag) (ta : TA) : TE := fun σ H Q => ta σ H fun vs H1 => ∃ a b xs ys, vs = [.ref a, .ref b] ∧ Sq2 K H1 a xs ∧ Sq2 K H1 b ys ∧
  ∀ (L : Addr) (Ts : List Addr) (H2 : Hp), Same H1 H2 → H1 L = none → H2 L = some (.lst (Ts.map V.ref)) → Ts.length = min xs.length ys.length →
    (∀ (j : Nat) (T : Addr), Ts[j]? = some T → ∃ x y, xs[j]? = some x ∧ ys[j]? = some y ∧ H2 T = some (.tup [x, y])) → Q (.ref L) H2
theorem pe_listZip {X : Cx} {e e2 : Expr} {ta : TA} {p p2 pos pos2 : Pos} (hc : X.calm = true) (hg : Gl X "list") (hm : X.mg "list" = none) (hg2 : Gl X "zip") (hm2 : X.mg "zip" = none) (ha : PA X [e, e2] ta)
    (hs : starEach [e, e2] X.env = (false, eval e X.env) :: starEach [e2] X.env := by rfl) (hpl : (backTo pos2 (starEach [e2] X.env)).any (·.1) = false := by rfl)
    (na : starEach [(Expr.Call (.Name "zip" p2) [e, e2] [] pos2)] X.env = (false, eval (.Call (.Name "zip" p2) [e, e2] [] pos2) X.env) :: starEach [] X.env := by rfl) :
    PE X (.Call (.Name "list" p) [.Call (.Name "zip" p2) [e, e2] [] pos2] [] pos) (tLZ X.K ta) := by
  refine ⟨fun pins s σ H Q I h => ?_⟩
  refine Call_ (ld_blt I hg hm boot_list (PyProof.Rows.callWith_type1 (args_cons ?_ na) na))
  obtain ⟨tk0, I0⟩ : ∃ t : Nat, Inv X pins σ H s := ⟨0, I⟩
  refine Call_ (ld_blt I hg2 hm2 PyProof.Rows.boot_zip (PyProof.Rows.callWith_type1 (thn (ha.run pos2 pins s σ H _ I h) fun us s1 ⟨vs, H1, I1, r1, q1⟩ => ?_) hs hpl))
  obtain ⟨a, b, xs, ys, ex, hx, hy, q⟩ := q1
  subst ex
  obtain ⟨u1, u2, rfl, r1, r2⟩ := vals2 r1
  cases (show u1 = Value.ref a from r1)
  cases (show u2 = Value.ref b from r2)
  obtain ⟨its, o1, B1, fp1, rv1, z1, b1, hb1, f1, d1⟩ := seq_draws I1 hx
  obtain ⟨its2, o2, B2, fp2, rv2, z2, b2, hb2, f2, d2⟩ := seq_draws I1 hy
  obtain ⟨St1, D1, s1'⟩ := d1 s1.heap.objs.size (Nat.le_refl _)
  obtain ⟨St2, D2, s2'⟩ := d2 (s1.heap.objs.size + 1) (Nat.le_succ _)
  have l1 := rv1.length
  have l2 := rv2.length
  refine thn (call_list_zip (n := min its.length its2.length) (Q := fun v s2 => ∃ v' H', Inv X pins σ H' s2 ∧ RelV v' v ∧ Q v' H') (E := X.xe) b1 b2 hb1 hb2 f1 f2 D1 D2 s1' s2' (I1.ok.hd hc) rfl (by omega) fun h' tk Ts c L hl hk hLn hL nd hT => ?_) fun v s2 hq => args_nil hq
  have hT' : ∀ (j : Nat) (T : Addr), Ts[j]? = some T → ∃ x y u v, xs[j]? = some x ∧ ys[j]? = some y ∧ RelV x u ∧ RelV y v ∧ s1.heap.objs.size ≤ T ∧ T ≠ L ∧ IsTupOf2 h' T u v := fun j T e => by
    obtain ⟨g1, g2, u, v, pu, pv, t⟩ := hT j T e
    have hj1 : j < xs.length := by
      rw [l1]; exact (List.getElem?_eq_some_iff.mp pu).1
    have hj2 : j < ys.length := by
      rw [l2]; exact (List.getElem?_eq_some_iff.mp pv).1
    obtain ⟨u', eu, ru⟩ := rv1.get (List.getElem?_eq_getElem hj1)
    obtain ⟨v', ev, rv⟩ := rv2.get (List.getElem?_eq_getElem hj2)
    rw [eu] at pu
    rw [ev] at pv
    cases pu
    cases pv
    exact ⟨_, _, _, _, List.getElem?_eq_getElem hj1, List.getElem?_eq_getElem hj2, ru, rv, g1, g2, t⟩
  have hLT : L ∉ Ts := fun hm => by
    obtain ⟨j, e⟩ := List.getElem?_of_mem hm
    obtain ⟨_, _, _, _, _, _, _, _, _, ne, _⟩ := hT' j L e
    exact ne rfl
  have nTs : ∀ c, c < s1.heap.objs.size → c ∉ Ts := fun c hc hm => by
    obtain ⟨j, e⟩ := List.getElem?_of_mem hm
    obtain ⟨_, _, _, _, _, _, _, _, g, _⟩ := hT' j c e
    exact Nat.lt_irrefl _ (Nat.lt_of_lt_of_le hc g)
  have fr : ∀ c, s1.heap.objs.size ≤ c → H1 c = none := fun c hc => I1.hok.fresh hc
  have old : ∀ c o, H1 c = some o → upd (layP H1 Ts xs ys) L (.lst (Ts.map V.ref)) c = some o := fun c o e => by
    have h1 : c ≠ L := fun z => by rw [z, fr L hLn] at e; cases e
    have h2 : c ∉ Ts := fun hm => by
      obtain ⟨j, e'⟩ := List.getElem?_of_mem hm
      obtain ⟨_, _, _, _, _, _, _, _, g, _⟩ := hT' j c e'
      rw [fr c g] at e; cases e
    rw [upd_ne h1, layP_off H1 Ts xs ys h2]; exact e
  have U : Un X.fs [] H1 (upd (layP H1 Ts xs ys) L (.lst (Ts.map V.ref))) s1.heap h' := {
    keep := fun b o e _ _ _ => hk b o e
    slot := fun b o e _ _ _ => ⟨o.slots, hk b o e⟩
    free := fun b o e n _ => by
      have lb := Heap.lt_size e
      rw [upd_ne (Nat.ne_of_lt (Nat.lt_of_lt_of_le lb hLn)), layP_off H1 Ts xs ys (nTs b lb)]; exact n
    there := fun b o e _ => ⟨o, hk b o e⟩
    tups := fun b xs e => old b _ e
    frzs := fun b o u e => old b _ e
    tbls := fun b ps e => ⟨#[], by rw [old b _ e]; simp⟩ }
  have OK : HOk X.prog X.w (upd (layP H1 Ts xs ys) L (.lst (Ts.map V.ref))) h' := fun b o e => by
    by_cases hb : b = L
    · subst hb
      rw [upd_same] at e
      cases e
      refine ⟨by rw [List.length_map, hl]; omega, Ts.map Value.ref, c, ?_, hL⟩
      clear hT hT' hLT nTs old U hL nd hl q
      induction Ts with
      | nil => exact .nil
      | cons T r ih => exact .cons rfl ih
    · rw [upd_ne hb] at e
      by_cases hbT : b ∈ Ts
      · obtain ⟨j, ej⟩ := List.getElem?_of_mem hbT
        obtain ⟨x, y, u, v, ex, ey, ru, rv, g1, g2, t⟩ := hT' j b ej
        rw [layP_at H1 Ts xs ys j b x y nd ej ex ey] at e
        cases e
        exact ⟨by show 2 ≤ sizeLine; decide, [u, v], .cons ru (.cons rv .nil), ⟨_, t, rfl, _, rfl⟩⟩
      · rw [layP_off H1 Ts xs ys hbT] at e
        exact (I1.hok b o e).stay (fun c v _ q => hk c v q) (fun c q => old c _ q) fun c xs q => old c _ q
  refine ⟨.ref L, _, I1.un (t' := tk) U OK, rfl, q L Ts _ (fun c o e => old c o e) (fr L hLn) upd_same (by rw [hl]; omega) fun j T e => ?_⟩
  obtain ⟨x, y, u, v, ex, ey, ru, rv, g1, g2, t⟩ := hT' j T e
  exact ⟨x, y, ex, ey, by rw [upd_ne g2, layP_at H1 Ts xs ys j T x y nd e ex ey]⟩
end XL
namespace XL
open PySem PySem.Spec PyProof.Rows L2
/-- a def that keeps its promise where no repr is under way -/
structure FnG (P : Program) (w : World) (K : PySem.W.Frag) (mg : Str → Option Value) (base : Heap) (k : Nat) (f : Addr) (fd : FuncData) (ps : List Str) (sp : Sp) : Prop where
  len : ∀ vs H Q E, sp vs H Q E → vs.length = ps.length
  run : ∀ (A : Around) (outer : List Env) (s : Shared) (H : Hp) (args : Args) (us : List Value) (vs : List V) (Q : VK) (E : XK),
    A.guards = some [] → Room k A → Env0 P w K mg base A outer s H → BindsTo s fd args (ps.zip us) → Vals vs us → sp vs H Q E →
    codeAny (model P w) A (.call (.ref f) args) (CR CX0 outer P w H s Q E) s
section
variable {P : Program} {w : World} {K : PySem.W.Frag} {mg : Str → Option Value} {base : Heap}
theorem okG {x qual : Str} {st : Stmt} {f : Addr} {fd : FuncData} {N ps : List Str} {k : Nat} {sp : Sp} (F : Fun K x qual st f fd) (S : FnScope N ps (defScope st)) (len : ∀ vs H Q E, sp vs H Q E → vs.length = ps.length)
    (hbody : ∀ (cdv : Value) (A : Around) (outer : List Env) (s : Shared) (H : Hp) (vs : List V) (Q : VK) (E : XK),
      (A.deeper (envOfC qual (defScope st) s.heap.objs.size f cdv)).guards = some [] → Room k (A.deeper (envOfC qual (defScope st) s.heap.objs.size f cdv)) → sp vs H Q E →
      ∃ t, PSs (cxOf CX0 P w K mg base N qual (defScope st) f cdv A outer s H E).nox (defBody st) t ∧ t { nx := fun _ H' => Q .non H', rt := Q } (start N vs) H) : FnG P w K mg base (k + 1) f fd ps sp := by
  obtain ⟨oc, od, kV, doc, pm, an, cdv, ct, osl, rfl, lk, hcd⟩ := F.ex
  refine ⟨len, fun A outer s H args us vs Q E hgd hr e0 hb r hsp => ?_⟩
  have hl := len _ _ _ _ hsp; have KX : K.In s.heap := e0.mod.kin.keeps fun b o e => (e0.bs b o e).1
  have lim : s.heap.NoLimit := e0.mod.nolimit.keeps fun b o e => (e0.bs b o e).1
  have hkind : ∀ y ∈ ps.zip us, (defScope st).names.lookup y.1 = some .local ∨ ((defScope st).names.lookup y.1 = some .cell ∧ ((cellsFrom (s.heap.objs.size + 1) (defScope st).names []).lookup y.1).isSome = true) := fun ⟨n, v⟩ hy => by
    rcases S.par n (List.of_mem_zip hy).1 with q | q
    · exact .inl q
    · exact .inr ⟨q, PySem.W.cellsFrom_some _ _ _ (.inl q)⟩
  refine codeAny_call_function hr.depth (KX _ _ lk) rfl S.co S.gen rfl (PySem.W.codeRec_of KX hcd) (hb _ _ _ _ (wpAny_newFunctionEnv_cells S.kind hkind fun env he s1 x => ?_))
  subst he
  refine ⟨lim.keeps x.toInCall.keep, codeAny_func ?_⟩
  obtain ⟨t, ht, hq⟩ := hbody cdv A outer s H vs Q E hgd (hr.deeper _) hsp
  have I : Inv (cxOf CX0 P w K mg base N qual (defScope st) f cdv A outer s H E) [] (start N vs) H s1 := inv_start S hr.hd e0 hl r x
  refine wpAny_mono (ht.nox.run [] s1 (start N vs) H _ I hq) (fun fl s' hs => ?_) fun e s' hs => hs
  have fin : ∀ {σ' : L2.St} {H' : Hp} {v : V} {u : Value}, Inv (cxOf CX0 P w K mg base N qual (defScope st) f cdv A outer s H E) [] σ' H' s' → RelV v u → Q v H' → CE outer P w H s Q u s' := fun {σ' H' v u} J rv q =>
    ⟨v, H', J.os, J.bare, J.base, J.hok, rv, q⟩
  cases fl with
  | ret u => obtain ⟨v, σ', H', J, rv, q⟩ := hs; exact fin J rv q
  | next => obtain ⟨σ', H', J, q⟩ := hs; exact fin (v := V.non) (u := Value.none) J rfl q
  | brk => obtain ⟨_, _, _, q⟩ := hs; exact False.elim q
  | cont => obtain ⟨_, _, _, q⟩ := hs; exact False.elim q
theorem FnG.of {k : Nat} {f : Addr} {fd : FuncData} {ps : List Str} {sp : Sp} (F : FnOk P w K mg base CX0 k f fd ps sp) : FnG P w K mg base k f fd ps sp :=
  ⟨F.len, fun A outer s H args us vs Q E _ hr e0 hb r h => F.run A outer s H args us vs Q E hr e0 hb r h⟩
end
section
variable {X : Cx} {k : Nat} {f C : Addr} {fd : FuncData} {ps ks : List Str} {sp : Sp} {x m : Str} {p pos apos : Pos} {e o : Expr} {es : List Expr} {ta : TE} {t tk : TA} {kws : List Keyword}
/-- f(e, ..) of such a def -/
theorem pe_callG (hG : X.A.guards = some []) (F : FnG X.prog X.w X.K X.mg X.base k f fd ps sp) (hr : Room k X.A) (hg : Gl X x) (hm : X.mg x = some (.ref f)) (hk : PySem.W.keepIn X.K (.ref f) = true) (hb : Binds X.K fd ps [])
    (ha : PA X (e :: es) t) (hdb : (x == ("__debug__" : Str)) = false := by decide) (he : starEach (e :: es) X.env = (false, eval e X.env) :: starEach es X.env := by rfl)
    (hpl : (backTo pos (starEach es X.env)).any (·.1) = false := by rfl) : PE X (.Call (.Name x p) (e :: es) [] pos) (tCall sp [] E0 t) := by
  refine ⟨fun pins s σ H Q I h => wpAny_Call_Name_kw (ld_glob I hg hm ?_ hdb)⟩
  refine PySem.W.callWith_K (h₀ := X.base) I.ok.mod.kin hk (thn (ha.run pos pins s σ H _ I h) fun us s1 ⟨vs, H1, I1, r, q⟩ => ⟨I1.kIn, ?_⟩) he hpl
  have q' : sp vs H1 Q E0 := by have q2 : sp (vs ++ []) H1 Q E0 := q; rwa [List.append_nil] at q2
  have hl : us.length = ps.length := by rw [← r.length]; exact F.len _ _ _ _ q'
  have hb' : BindsTo s1 fd ⟨us, []⟩ (ps.zip us) := by have b2 := hb s1 us I1.kIn (by rw [List.append_nil]; exact hl); rwa [List.append_nil] at b2
  refine wpAny_call (codeAny_mono (F.run X.A X.stack s1 H1 ⟨us, []⟩ us vs Q E0 hG hr I1.env0 hb' r q') fun r s' hq => ?_)
  cases r with
  | error e => exact False.elim hq
  | ok fl =>
    cases fl with
    | ret u => exact I1.after hq
    | next => exact False.elim hq
    | brk => exact False.elim hq
    | cont => exact False.elim hq
variable {CX : CXT} {E : XK} {g : List Value → List Value → List Value} {gV : List V → List V → List V}
/-- f(k = v, ..), no argument by place -/
theorem pe_callK0 (F : FnOk X.prog X.w X.K X.mg X.base CX k f fd ps sp) (hr : Room k X.A) (hg : Gl X x) (hm : X.mg x = some (.ref f)) (hk : PySem.W.keepIn X.K (.ref f) = true) (hb : KBinds X.K fd ps ks g gV) (hx : Passes CX X E)
    (hkw : PK X kws tk) (hall : (backToKw pos (keywordEach kws X.env)).all (·.1.isSome) = true := by rfl) (hks : (backToKw pos (keywordEach kws X.env)).filterMap (·.1) = ks := by rfl)
    (hdb : (x == ("__debug__" : Str)) = false := by decide)
    (hpl : ((backTo pos (starEach [] X.env)).any (·.1) || (backToKw pos (keywordEach kws X.env)).any (·.1.isNone)) = false := by rfl) :
    PE X (.Call (.Name x p) [] kws pos) (fun σ H Q => tk σ H fun zs H2 => sp (gV [] zs) H2 Q E) := by
  refine ⟨fun pins s σ H Q I h => wpAny_Call_Name_kw (ld_glob I hg hm ?_ hdb)⟩
  refine PySem.W.callWith_KW0 (h₀ := X.base) I.ok.mod.kin hk hall (thn (hkw.run pos pins s σ H _ I h) fun ws s2 ⟨zs, H2, I2, rz, q2⟩ => ⟨I2.kIn, ?_⟩) hpl
  rw [hks]
  exact run_fnk F hr hb hx I2 .nil rz q2
end
/-! ### the head -/
theorem law_callG {P : Program} {w : World} {K : PySem.W.Frag} {mg mb : Str → Option Value} {k : Nat} {fa a : Addr} {fd : FuncData} {x : Str} {sp : Sp} {s₁ : Shared} {vs : List Value} {ns : List Int}
    (KX : K.In s₁.heap) (hns : s₁.heap.Ns mainGlobals mg) (hb : s₁.heap.Ns builtinsNs mb) (hbb : ∀ x : Str, x ≠ "__name__" → mb x = bootBuiltins x) (hlim : s₁.heap.NoLimit) (hg : s₁.gens = #[])
    (ha : s₁.heap.get? a = some { cls := .type "list", data := .seq vs.toArray }) (hi : IntsAre vs ns) (hl : ns.length ≤ sizeLine) (hr : Room k callerA)
    (F : ∀ base : Heap, K.In base → base.Ns mainGlobals mg → FnG P w K mg base k fa fd [x] sp) (hbind : ∀ (s : Shared) (u : Value), BindsTo s fd ⟨[u], []⟩ [(x, u)])
    (hsp : ∀ H : Hp, Only H → SqL K H a (ns.map V.int) → sp [.ref a] H (fun v _ => v = .bl true) fun _ _ _ => False) :
    codeAny (model P w) callerA (.call (.ref fa) ⟨[.ref a], []⟩) (fun r s' => r = .ok (.ret (.bool true)) ∧ OldK s₁.heap s'.heap ∧ s'.os = s₁.os ∧ AllBare s'.gens) s₁ := by
  have rv := vals_ints hi; have lenV := hi.length
  have core : ∀ H : Hp, Only H → SqL K H a (ns.map V.int) → HOk P w H s₁.heap → (∀ b, H b ≠ none → b = a) → (H a ≠ none → K.lookup a = none) → codeAny (model P w) callerA (.call (.ref fa) ⟨[.ref a], []⟩)
      (fun r s' => r = .ok (.ret (.bool true)) ∧ OldK s₁.heap s'.heap ∧ s'.os = s₁.os ∧ AllBare s'.gens) s₁ := by
    intro H hO hS hok hA hK
    have noA : ∀ {b : Addr} {o : Obj} {es : Array DictEntry} {ep : Nat}, s₁.heap.get? b = some o → o.data = .dict es ep → H b = none := by
      intro b o es ep e d
      cases q : H b with
      | none => rfl
      | some u =>
        have e' : b = a := hA b (by rw [q]; simp)
        subst e'; rw [ha] at e; cases e
        exact absurd (show Data.seq vs.toArray _ = Data.dict es ep from d) (by simp)
    have nsK : ∀ {b : Addr} {m : Str → Option Value}, s₁.heap.Ns b m → (hidT s₁.heap H).Ns b m := by
      intro b m hm
      obtain ⟨o, es, ep, e, d, r⟩ := hm
      exact ⟨o, es, ep, hidT_get e (noA e d), d, r⟩
    have hKb : K.In (hidT s₁.heap H) := by
      intro b o e
      refine hidT_get (KX b o e) ?_
      cases q : H b with
      | none => rfl
      | some u =>
        have e' : b = a := hA b (by rw [q]; simp)
        subst e'; rw [hK (by rw [q]; simp)] at e; cases e
    have hM : Mod K mg (hidT s₁.heap H) := by
      obtain ⟨mc, c1, c2⟩ := hlim
      exact ⟨hKb, nsK hns, ⟨mb, nsK hb, hbb⟩, ⟨mc, nsK c1, c2⟩⟩
    have e0 : Env0 P w K mg (hidT s₁.heap H) callerA [] s₁ H := by
      refine ⟨rfl, hM, fun b o e => of_hidT e, Nat.le_of_eq (hidT_size _ _), trivial, fun b hb => ?_, hok, .of_eq hg⟩
      exact absurd (show b ∈ ([] : List Addr) from hb) (by simp)
    refine codeAny_mono ((F _ hKb (nsK hns)).run callerA [] s₁ H ⟨[.ref a], []⟩ [.ref a] [.ref a] _ _ rfl hr e0 (hbind s₁ (.ref a)) (.cons rfl .nil) (hsp H hO hS)) fun r s' h => ?_
    cases r with
    | error e => exact False.elim h
    | ok fl =>
      cases fl with
      | next => exact False.elim h
      | brk => exact False.elim h
      | cont => exact False.elim h
      | ret u =>
        obtain ⟨v, H', os, bare, un, hok', r', q⟩ := h
        have q' : v = .bl true := q
        subst q'
        obtain rfl : u = Value.bool true := r'
        refine ⟨rfl, OldK.of_keep fun b o e => ?_, os, bare⟩
        cases q : H b with
        | none => exact un.keep b o e q (by intro z; exact absurd (show b ∈ ([] : List Addr) from z) (by simp)) (by simp)
        | some u =>
          rcases hO b with z | ⟨ob, xs, z⟩
          · rw [q] at z; cases z
          · have z2 := un.frzs b ob _ z
            obtain ⟨e1, _⟩ := hok b _ z; obtain ⟨e2, _⟩ := hok' b _ z2
            rw [e] at e1; cases e1; exact e2
  cases hk : K.lookup a with
  | some o =>
    have e := KX a o hk
    rw [ha] at e; cases e
    refine core (fun _ => none) (fun _ => .inl rfl) ?_ (fun b u z => nomatch z) (fun b z => absurd rfl z) fun z => absurd rfl z
    exact .inr ⟨_, vs.toArray, _, hk, rfl, rfl, rfl, by rw [List.size_toArray, lenV]; exact hl, by simpa using rv⟩
  | none =>
    refine core (fun b => if b = a then some (.frz { cls := .type "list", data := .seq vs.toArray } (.lst (ns.map V.int))) else none) (fun b => ?_) (.inl (.inr ⟨_, if_pos rfl⟩)) (fun b u z => ?_) (fun b z => ?_) fun _ => hk
    · by_cases hb : b = a
      · exact .inr ⟨_, _, if_pos hb⟩
      · exact .inl (if_neg hb)
    · by_cases hb : b = a
      · have z' := (if_pos hb).symm.trans z
        cases z'; subst hb
        exact ⟨ha, by rw [List.length_map]; exact hl, vs, _, rv, ha⟩
      · have z' := (if_neg hb).symm.trans z
        cases z'
    · by_cases hb : b = a
      · exact hb
      · exact absurd (if_neg hb) z
theorem walkG {l : PySem.W.OpenLaw} {n k : Nat} {q : Program} {loose : List Str} {XP : (Str → Option Value) → Heap → Prop} {YP : World → Heap → Prop} {d : DefRec} {K : Params → PySem.W.Frag} {sp : PySem.W.Frag → Sp} {x : Str}
    (hn : l.most = some n) (hn2 : n ≤ sizeLine) (hdf : d.params.defaults = []) (hr : Room k callerA) (hY : ∀ (w : World) (h : Heap), YP w h → (K w.params).In h)
    (F : ∀ (w : World) (mg : Str → Option Value) (fa : Addr) (h : Heap), (K w.params).In h → h.Ns mainGlobals mg → mg d.name = some (.ref fa) →
      ∃ fd : FuncData, (∀ (s : Shared) (u : Value), BindsTo s fd ⟨[u], []⟩ [(x, u)]) ∧ ∀ base : Heap, (K w.params).In base → base.Ns mainGlobals mg → FnG l.prog w (K w.params) mg base k fa fd [x] (sp (K w.params)))
    (hsp : ∀ (K : PySem.W.Frag) (H : Hp) (a : Addr) (ns : List Int), ns.length ≤ n → Only H → SqL K H a (ns.map V.int) → sp K [.ref a] H (fun v _ => v = .bl true) fun _ _ _ => False) :
    PySem.W.WalkO q loose XP YP l.row.toRowW d [] (fun f vs => PySem.call f vs) := by
  refine Att.attach_call hn hdf fun w s₀ s₁ mg mb fa o pm cd doc a vs ns G Y ho hd hcd hmg hobj hints hlen hg => ?_
  have KX := hY w _ Y
  obtain ⟨fd, hb, hF⟩ := F w mg fa _ KX G.T.g hmg
  exact law_callG KX G.T.g G.T.b G.T.builtins G.T.nolimit hg hobj hints (Nat.le_trans hlen hn2) hr hF hb fun H hO hS => hsp (K w.params) H a ns hlen hO hS
/-! ### repr of data -/
def tRep (K : PySem.W.Frag) (te : TE) : TE := fun σ H Q => te σ H fun x H1 => ∃ a d, x = .ref a ∧ Dp K H1 x d ∧ d.showable = true ∧ d.hasDict = false ∧ d.depth ≤ 50 ∧ d.shown.length ≤ sizeLine ∧ Q (.str d.shown) H1
theorem pe_rep {X : Cx} {k : Nat} {e : Expr} {te : TE} {p pos : Pos} (hG : X.A.guards = some []) (hr : Room k X.A) (hg : Gl X "repr") (hm : X.mg "repr" = none) (hb : bootBuiltins "repr" = some (.builtin "repr")) (ha : PE X e te)
    (he : starEach [e] X.env = (false, eval e X.env) :: starEach [] X.env := by rfl) : PE X (.Call (.Name "repr" p) [e] [] pos) (tRep X.K te) := by
  refine ⟨fun pins s σ H Q I h => wpAny_Call_Name_kw (ld_blt I hg hm hb ?_)⟩
  refine PyProof.Rows.callWith_builtin1 (args_cons (thn (ha.run pins s σ H _ I h) fun u s1 ⟨v, H1, I1, r1, q1⟩ => args_nil ?_) he) he rfl
  obtain ⟨a, d, ex, hd, hs, hno, hdp, hz, q⟩ := q1
  subst ex
  obtain ⟨as, rd⟩ := Dp.reads I1 d _ u hd r1
  cases (show u = Value.ref a from r1)
  have hu := hr.un
  refine repr_of_reads' rd hs (fun z => absurd z (by rw [hno]; decide)) hG (by omega) (fun b o e => e) (fun h' u tk hk => ?_) hz
  exact ⟨.str d.shown, H1, I1.kept hk, ⟨_, rfl⟩, q⟩
end XL
namespace XL
open PySem PySem.Spec PyProof.Rows L2
section
variable {K : PySem.W.Frag} {H H' : Hp}
/-! ### data stays -/
mutual
theorem Dp.same (s : Same H H') : ∀ {v : V} (d : PyData), Dp K H v d → Dp K H' v d
  | _, .none, h => by cases h; exact .non
  | _, .bool b, h => by cases h; exact .bl b
  | _, .int i, h => by cases h; exact .int i
  | _, .str x, h => by cases h; exact .str x
  | _, .list ds, h => by
    cases h with
    | lst hs ha => exact .lst (s.seq hs) (DpAll.same s ds ha)
  | _, .tuple ds, h => by
    cases h with
    | tup hs ha => exact .tup (Same.tup s hs) (DpAll.same s ds ha)
  | _, .dict _, h => by cases h
theorem DpAll.same (s : Same H H') : ∀ {vs : List V} (ds : List PyData), DpAll K H vs ds → DpAll K H' vs ds
  | _, [], h => by cases h; exact .nil
  | _, d :: ds, h => by
    cases h with
    | cons h1 h2 => exact .cons (Dp.same s d h1) (DpAll.same s ds h2)
end
theorem DpAll.length : ∀ {vs : List V} {ds : List PyData}, DpAll K H vs ds → vs.length = ds.length
  | _, _, .nil => rfl
  | _, _, .cons _ h => by rw [List.length_cons, List.length_cons, DpAll.length h]
theorem DpAll.get : ∀ {vs : List V} {ds : List PyData} {i : Nat} {v : V}, DpAll K H vs ds → vs[i]? = some v → ∃ d, ds[i]? = some d ∧ Dp K H v d
  | _, _, i, v, .nil, h => by simp at h
  | _, _, 0, v, .cons a _, h => by cases h; exact ⟨_, rfl, a⟩
  | _, _, i + 1, v, .cons _ r, h => DpAll.get r (i := i) h
theorem DpAll.get' : ∀ {vs : List V} {ds : List PyData} {i : Nat} {d : PyData}, DpAll K H vs ds → ds[i]? = some d → ∃ v, vs[i]? = some v ∧ Dp K H v d
  | _, _, i, v, .nil, h => by simp at h
  | _, _, 0, v, .cons a _, h => by cases h; exact ⟨_, rfl, a⟩
  | _, _, i + 1, v, .cons _ r, h => DpAll.get' r (i := i) h
theorem DpAll.app : ∀ {vs ws : List V} {ds es : List PyData}, DpAll K H vs ds → DpAll K H ws es → DpAll K H (vs ++ ws) (ds ++ es)
  | _, _, _, _, .nil, h => h
  | _, _, _, _, .cons a r, h => .cons a (DpAll.app r h)
theorem DpAll.snoc {vs : List V} {v : V} {ds : List PyData} {d : PyData} (a : DpAll K H vs ds) (h : Dp K H v d) : DpAll K H (vs ++ [v]) (ds ++ [d]) := DpAll.app a (.cons h .nil)
/-! ### kinds -/
def isSeq : PyData → Bool
  | .list _ => true
  | .tuple _ => true
  | _ => false
def tyD : PyData → Value
  | .none => .type "NoneType"
  | .bool _ => .type "bool"
  | .int _ => .type "int"
  | .str _ => .type "str"
  | .list _ => .type "list"
  | .tuple _ => .type "tuple"
  | .dict _ => .type "dict"
theorem tyx_of {v : V} {d : PyData} (h : Dp K H v d) : TyX K H v (tyD d) := by
  cases h with
  | non => exact .base .non
  | bl b => exact .base (.bl b)
  | int i => exact .base (.int i)
  | str x => exact .base (.str x)
  | lst hs _ =>
    rcases hs with (hs | ⟨o, hs⟩) | ⟨o, its, n, hk, hc, _⟩
    · exact .base (.lst hs)
    · exact .base (.frz hs)
    · exact .kList hk hc
  | tup hs _ =>
    rcases hs with (hs | ⟨o, hs⟩) | ⟨o, its, n, hk, hc, _⟩
    · exact .base (.tup hs)
    · exact .fTuple hs
    · exact .kTuple hk hc
theorem kit1 {t : String} {u : String} {b : Bool} (h : kitB t u = some b) : PySem.W.kitOne K (.type t) (.type u) = some b := kit_ty h
theorem kit2 {t u v : String} {a b : Bool} (h : kitB t u = some a) (h2 : kitB t v = some b) : PySem.W.kitAny K (.type t) [.type u, .type v] = some (a || b) := by
  refine kitAny_cons (kit_ty h) (fun e => ?_) (fun e => ?_)
  · subst e
    refine kitAny_cons (kit_ty h2) (fun e => ?_) (fun e => ?_)
    · subst e; rfl
    · subst e; rfl
  · subst e; rfl
theorem seq_kit (d : PyData) (h : ∀ kvs, d ≠ .dict kvs) : PySem.W.kitAny K (tyD d) [.type "list", .type "tuple"] = some (isSeq d) := by
  cases d with
  | none => exact kit2 (a := false) (b := false) (by decide +kernel) (by decide +kernel)
  | bool b => exact kit2 (a := false) (b := false) (by decide +kernel) (by decide +kernel)
  | int i => exact kit2 (a := false) (b := false) (by decide +kernel) (by decide +kernel)
  | str x => exact kit2 (a := false) (b := false) (by decide +kernel) (by decide +kernel)
  | list ds => exact kit2 (a := true) (b := false) (by decide +kernel) (by decide +kernel)
  | tuple ds => exact kit2 (a := false) (b := true) (by decide +kernel) (by decide +kernel)
  | dict kvs => exact absurd rfl (h kvs)
theorem Dp.nodict {v : V} {d : PyData} (h : Dp K H v d) : ∀ kvs, d ≠ .dict kvs := fun kvs e => by subst e; cases h
end
/-! ### data of bounded depth and width -/
def okD : Nat → PyData → Prop
  | 0, _ => False
  | n + 1, .list ds => ds.length ≤ 1000 ∧ ∀ d ∈ ds, okD n d
  | n + 1, .tuple ds => ds.length ≤ 1000 ∧ ∀ d ∈ ds, okD n d
  | _ + 1, _ => True
mutual
/-- lists as tuples -/
def tupD : PyData → PyData
  | .list ds => .tuple (tupDs ds)
  | .tuple ds => .tuple (tupDs ds)
  | .none => .none
  | .bool b => .bool b
  | .int i => .int i
  | .str x => .str x
  | .dict k => .dict k
def tupDs : List PyData → List PyData
  | [] => []
  | d :: ds => tupD d :: tupDs ds
end
mutual
/-- tuples as lists -/
def lstD : PyData → PyData
  | .list ds => .list (lstDs ds)
  | .tuple ds => .list (lstDs ds)
  | .none => .none
  | .bool b => .bool b
  | .int i => .int i
  | .str x => .str x
  | .dict k => .dict k
def lstDs : List PyData → List PyData
  | [] => []
  | d :: ds => lstD d :: lstDs ds
end
theorem tupDs_eq : ∀ ds : List PyData, tupDs ds = ds.map tupD
  | [] => rfl
  | d :: ds => by rw [tupDs, tupDs_eq ds]; rfl
theorem lstDs_eq : ∀ ds : List PyData, lstDs ds = ds.map lstD
  | [] => rfl
  | d :: ds => by rw [lstDs, lstDs_eq ds]; rfl
def itemsD : PyData → List PyData
  | .list ds => ds
  | .tuple ds => ds
  | _ => []
theorem seq_of {K : PySem.W.Frag} {H : Hp} {v : V} {d : PyData} (h : Dp K H v d) (hs : isSeq d = true) : ∃ a xs, v = .ref a ∧ Sq2 K H a xs ∧ DpAll K H xs (itemsD d) := by
  cases h with
  | lst h1 h2 => exact ⟨_, _, rfl, .inl h1, h2⟩
  | tup h1 h2 => exact ⟨_, _, rfl, .inr h1, h2⟩
  | _ => simp [isSeq] at hs
theorem okD_items {n : Nat} {d : PyData} (h : okD (n + 1) d) (hs : isSeq d = true) : (∀ e ∈ itemsD d, okD n e) ∧ (itemsD d).length ≤ 1000 := by
  cases d with
  | list ds => exact ⟨h.2, h.1⟩
  | tuple ds => exact ⟨h.2, h.1⟩
  | _ => simp [isSeq] at hs
theorem small {n : Nat} (h : n ≤ 1000) : n ≤ sizeLine := Nat.le_of_lt (small1000 h)
end XL
namespace XL
open PySem PySem.Spec PyProof.Rows L2
/-! ### a list that is hidden while an expression is evaluated -/
theorem same_delH {H : Hp} {D : Addr} {o : HO} : Same (delH H D) (upd H D o) := fun b x e => by
  by_cases hb : b = D
  · rw [hb, delH_same] at e; cases e
  · rw [delH_ne hb] at e; rw [upd_ne hb]; exact e
theorem delH_none {H : Hp} {D : Addr} (h : H D = none) : delH H D = H := by
  funext b
  by_cases hb : b = D
  · rw [hb, delH_same, h]
  · rw [delH_ne hb]
theorem delH_upd {H : Hp} {D : Addr} {o : HO} (h : H D = none) : delH (upd H D o) D = H := delH_new h
theorem upd_upd {H : Hp} {D : Addr} {o o' : HO} : upd (upd H D o) D o' = upd H D o' := by
  funext b
  by_cases hb : b = D
  · rw [hb, upd_same, upd_same]
  · rw [upd_ne hb, upd_ne hb, upd_ne hb]
theorem upd_comm {H : Hp} {D T : Addr} {o o' : HO} (h : T ≠ D) : upd (upd H D o) T o' = upd (upd H T o') D o := by
  funext b
  by_cases hb : b = D
  · rw [hb, upd_same, upd_ne (fun e => h e.symm), upd_same]
  · by_cases hT : b = T
    · rw [hT, upd_same, upd_ne h, upd_same]
    · rw [upd_ne hT, upd_ne hb, upd_ne hb, upd_ne hT]
section
variable {X : Cx} {pins : List (Addr × Obj)} {σ : L2.St} {H : Hp} {s s' : Shared} {D : Addr} {xs : List V}
theorem Inv.hide (I : Inv X pins σ H s) (hD : H D = some (.lst xs)) : ∃ (its : List Value) (n : Nat), Vals xs its ∧ xs.length ≤ sizeLine ∧
    Inv X ((D, { cls := .type "list", dict := none, data := .seq its.toArray n, slots := #[] }) :: pins) σ (delH H D) s := by
  obtain ⟨hz, its, n, rv, ho⟩ := (show ObjOk X.prog X.w H s.heap D (.lst xs) from I.hok D _ hD)
  have ne : ∀ {b : Addr}, H b = none → b ≠ D := fun {b} h e => by rw [e, hD] at h; cases h
  have hN : ∀ {b : Addr}, H b = none → delH H D b = none := fun {b} h => by rw [delH_ne (ne h)]; exact h
  refine ⟨its, n, rv, hz, ⟨I.ok, I.os, I.bare, ⟨I.base.keep, I.base.slot, fun b o e n hx => hN (I.base.free b o e n hx), I.base.there, fun b ys e => ?_, fun b o u e => ?_, fun b ps e => ?_⟩, I.loc, I.cell, hN I.free, fun x c e => hN (I.freeC x c e), fun p hp => ?_, fun b o e => ?_, I.len⟩⟩
  · have q := I.base.tups b ys e
    rw [delH_ne (fun z => by rw [z, hD] at q; cases q)]; exact q
  · have q := I.base.frzs b o u e
    rw [delH_ne (fun z => by rw [z, hD] at q; cases q)]; exact q
  · obtain ⟨m, q⟩ := I.base.tbls b ps e
    exact ⟨m, by rw [delH_ne (fun z => by rw [z, hD] at q; cases q)]; exact q⟩
  · rcases List.mem_append.mp hp with hp | hp
    · obtain ⟨a1, a2, a3⟩ := I.pin p (List.mem_append_left _ hp)
      exact ⟨a1, hN a2, a3⟩
    · rcases List.mem_cons.mp hp with e | hp
      · subst e
        refine ⟨ho, delH_same, fun e => ?_, fun hf => ?_, fun v e => nomatch e⟩
        · have := I.free; rw [show X.env.locals = D from e.symm, hD] at this; cases this
        · obtain ⟨_, o, q, _⟩ := I.ok.funs.mem hf
          have := I.base.free D o q (I.ok.frf D hf) fun z => I.ok.exfs D z hf
          rw [hD] at this; cases this
      · obtain ⟨a1, a2, a3⟩ := I.pin p (List.mem_append_right _ hp)
        exact ⟨a1, hN a2, a3⟩
  · have hb : b ≠ D := fun z => by rw [z, delH_same] at e; cases e
    rw [delH_ne hb] at e
    refine (I.hok b o e).stay (fun c v _ q => q) (fun c q => ?_) fun c ys q => ?_
    · rw [delH_ne (fun z => by rw [z, hD] at q; cases q)]; exact q
    · rw [delH_ne (fun z => by rw [z, hD] at q; cases q)]; exact q
theorem Inv.unhide {H' : Hp} {its : List Value} {n : Nat} (I : Inv X pins σ H s) (hD : H D = some (.lst xs)) (rv : Vals xs its) (hz : xs.length ≤ sizeLine)
    (J : Inv X ((D, { cls := .type "list", dict := none, data := .seq its.toArray n, slots := #[] }) :: pins) σ H' s') : H' D = none ∧ Inv X pins σ (upd H' D (.lst xs)) s' := by
  obtain ⟨ho, hn, _, _, _⟩ := J.pin (D, _) (List.mem_append_right _ (List.mem_cons_self ..))
  have hn' : H' D = none := hn
  have ne : ∀ {b : Addr}, H b = none → b ≠ D := fun {b} h e => by rw [e, hD] at h; cases h
  refine ⟨hn', ⟨J.ok, J.os, J.bare, ⟨J.base.keep, J.base.slot, fun b o e n hx => ?_, J.base.there, fun b ys e => ?_, fun b o u e => ?_, fun b ps e => ?_⟩, J.loc, J.cell, ?_, fun x c e => ?_, fun p hp => ?_, fun b o e => ?_, J.len⟩⟩
  · rw [upd_ne (ne (I.base.free b o e n hx))]; exact J.base.free b o e n hx
  · have q := J.base.tups b ys e
    rw [upd_ne (fun z => by rw [z, hn'] at q; cases q)]; exact q
  · have q := J.base.frzs b o u e
    rw [upd_ne (fun z => by rw [z, hn'] at q; cases q)]; exact q
  · obtain ⟨m, q⟩ := J.base.tbls b ps e
    exact ⟨m, by rw [upd_ne (fun z => by rw [z, hn'] at q; cases q)]; exact q⟩
  · rw [upd_ne (ne I.free)]; exact J.free
  · rw [upd_ne (ne (I.freeC x c e))]; exact J.freeC x c e
  · obtain ⟨_, a0, _⟩ := I.pin p hp
    have hp' : p ∈ X.pn ++ ((D, ({ cls := .type "list", dict := none, data := .seq its.toArray n, slots := #[] } : Obj)) :: pins) := by
      rcases List.mem_append.mp hp with h | h
      · exact List.mem_append_left _ h
      · exact List.mem_append_right _ (List.mem_cons_of_mem _ h)
    obtain ⟨a1, a2, a3⟩ := J.pin p hp'
    exact ⟨a1, by rw [upd_ne (ne a0)]; exact a2, a3⟩
  · by_cases hb : b = D
    · subst hb
      rw [upd_same] at e
      cases e
      exact ⟨hz, its, n, rv, ho⟩
    · rw [upd_ne hb] at e
      refine (J.hok b o e).stay (fun c v _ q => q) (fun c q => ?_) fun c ys q => ?_
      · rw [upd_ne (fun z => by rw [z, hn'] at q; cases q)]; exact q
      · rw [upd_ne (fun z => by rw [z, hn'] at q; cases q)]; exact q
end
/-- e, evaluated while the list at D is hidden -/
def tHide (t : TE) : TE := fun σ H Q => ∃ D xs, H D = some (.lst xs) ∧ t σ (delH H D) fun v H' => H' D = none → Q v (upd H' D (.lst xs))
theorem pe_hide {X : Cx} {e : Expr} {t : TE} (h : PE X e t) : PE X e (tHide t) := by
  refine ⟨fun pins s σ H Q I q => ?_⟩
  obtain ⟨D, xs, hD, q⟩ := q
  obtain ⟨its, n, rv, hz, J⟩ := Inv.hide I hD
  refine thn (h.run _ s σ _ _ J q) fun u s' hu => ?_
  obtain ⟨v, H', J', r, q'⟩ := hu
  obtain ⟨hn, I'⟩ := Inv.unhide I hD rv hz J'
  exact ⟨v, _, I', r, q' hn⟩
theorem wipe_none {σ : L2.St} {i : Nat} : ∀ {vs : List Nat}, i ∈ vs → (wipe σ vs).set i none = wipe σ vs
  | [], h => by simp at h
  | v :: vs, h => by
    show ((wipe σ vs).set v none).set i none = (wipe σ vs).set v none
    by_cases e : i = v
    · rw [e, List.set_set]
    · have h' : i ∈ vs := by rcases List.mem_cons.mp h with q | q; exact absurd q e; exact q
      rw [List.set_comm _ _ (fun q => e q.symm), wipe_none h']
theorem wipe_put {σ : L2.St} {i : Nat} {x : Option V} : ∀ {vs : List Nat}, i ∉ vs → wipe (σ.set i x) vs = (wipe σ vs).set i x
  | [], _ => rfl
  | v :: vs, h => by
    show (wipe (σ.set i x) vs).set v none = ((wipe σ vs).set v none).set i x
    rw [wipe_put (fun q => h (List.mem_cons_of_mem _ q)), List.set_comm _ _ (fun q => h (by rw [q]; exact List.mem_cons_self ..))]
theorem w1 {σ σ' : L2.St} {i : Nat} {x : Option V} {vs : List Nat} (h : i ∈ vs) (e : wipe σ' vs = wipe σ vs) : wipe (σ'.set i x) vs = wipe σ vs := by
  have key : ∀ {vs : List Nat}, i ∈ vs → wipe (σ'.set i x) vs = wipe σ' vs := by
    intro vs h
    induction vs with
    | nil => simp at h
    | cons v vs ih =>
      show (wipe (σ'.set i x) vs).set v none = (wipe σ' vs).set v none
      by_cases hm : i ∈ vs
      · rw [ih hm]
      · have ev : i = v := by rcases List.mem_cons.mp h with q | q; exact q; exact absurd q hm
        rw [wipe_put hm, ← ev, List.set_set]
  rw [key h, e]
theorem w0 {σ : L2.St} {vs : List Nat} : wipe (wipe σ vs) vs = wipe σ vs := by
  have key : ∀ ws : List Nat, (∀ i ∈ ws, i ∈ vs) → wipe (wipe σ vs) ws = wipe σ vs := by
    intro ws
    induction ws with
    | nil => intro _; rfl
    | cons w ws ih =>
      intro h
      show (wipe (wipe σ vs) ws).set w none = wipe σ vs
      rw [ih (fun i hi => h i (List.mem_cons_of_mem _ hi)), wipe_none (h w (List.mem_cons_self ..))]
  exact key vs fun i h => h
/-- a comprehension that makes one value a turn -/
theorem lc_map {J : It} {n : Nat} {G : Hp → Prop} {Y : Nat → Hp → V → Hp → Prop} (w : Walk J n G Y) (Rl : Hp → Hp → Prop) (tr : ∀ {A B C}, Rl A B → Rl B C → Rl A C)
    (R : Nat → V → Hp → Prop) (st : ∀ i y A B, Rl A B → R i y A → R i y B) {g : TG} {t : TE} {vs : List Nat} {σ : L2.St} {H1 : Hp} {Qd : Addr → Hp → Prop} (hz : n < sizeLine)
    (rf : Rl H1 H1) (hG : ∀ F D acc, Rl H1 F → F D = none → G (upd F D (.lst acc)))
    (hs : ∀ i x D acc F H', i < n → H1 D = none → Rl H1 F → F D = none → Y i (upd F D (.lst acc)) x H' → ∀ B : L2.St → Hp → Prop, (∀ σ2 Fm, wipe σ2 vs = wipe σ vs → Fm D = none →
      (∀ Qt : VK, (∀ y F', Rl F F' → R i y F' → Qt y F') → t σ2 Fm Qt) → B σ2 (upd Fm D (.lst acc))) → g x (wipe σ vs) H' B)
    (hd : ∀ D ys F, H1 D = none → Rl H1 F → F D = none → ys.length = n → (∀ (i : Nat) y, ys[i]? = some y → R i y F) → Qd D (upd F D (.lst ys))) :
    ∀ D, H1 D = none → ∃ W : Nat → Nat → Hp → Prop, (∃ m, W 0 m (upd H1 D (.lst []))) ∧ ∀ i m H, W i m H →
      (J.stop i H ∧ Qd D H) ∨ (J.go i H ∧ ∃ Nx : Hp → Prop, (∀ H', Nx H' → ∃ m', m' < m ∧ W (i + 1) m' H') ∧ ∀ x H', J.yld i H x H' → g x (wipe σ vs) H' fun σ2 H2 => wipe σ2 vs = wipe σ vs ∧ tYes σ2 H2 fun b H3 =>
        if b = true then tHide t σ2 H3 fun y H4 => ∃ acc, H4 D = some (.lst acc) ∧ acc.length < sizeLine ∧ Nx (upd H4 D (.lst (acc ++ [y]))) else Nx H3) := by
  intro D nD
  refine lc_it w (fun i H => ∃ ys F, H = upd F D (.lst ys) ∧ F D = none ∧ Rl H1 F ∧ ys.length = i ∧ ∀ (j : Nat) y, ys[j]? = some y → R j y F) ⟨[], H1, rfl, nD, rf, rfl, fun j y e => by simp at e⟩ ?_ ?_ ?_
  · rintro i H _ ⟨ys, F, rfl, nF, rl, _, _⟩
    exact hG F D ys rl nF
  · rintro i x H H' hi ⟨ys, F, rfl, nF, rl, hl, hR⟩ hy
    refine hs i x D ys F H' hi nD rl nF hy _ fun σ2 Fm hw nm ht => ⟨hw, ?_⟩
    unfold tYes; dsimp only
    rw [if_pos rfl]
    refine ⟨D, ys, upd_same, ?_⟩
    rw [delH_upd nm]
    refine ht _ fun y F' rl' r nF' => ⟨ys, upd_same, by omega, ys ++ [y], F', upd_upd, nF', tr rl rl', by rw [List.length_append, hl]; rfl, fun j z e => ?_⟩
    by_cases hj : j < ys.length
    · rw [List.getElem?_append_left hj] at e
      exact st j z F F' rl' (hR j z e)
    · rw [List.getElem?_append_right (by omega)] at e
      have hj0 : j - ys.length = 0 := by
        rcases Nat.eq_zero_or_pos (j - ys.length) with q | q
        · exact q
        · rw [List.getElem?_eq_none (by simp; omega)] at e; cases e
      rw [hj0] at e
      have e' : y = z := by simpa using e
      have ej : j = i := by omega
      rw [← e', ej]; exact r
  · rintro H ⟨ys, F, rfl, nF, rl, hl, hR⟩
    exact hd D ys F nD rl nF hl hR
/-! ### what is walked: a list or a tuple -/
def iSeq (K : PySem.W.Frag) (tl : TE) : TI := fun σ H R => tl σ H fun x H1 => ∃ a xs, x = .ref a ∧ Sq2 K H1 a xs ∧ ∀ J, Walk J xs.length (fun H => (¬ SqT K H1 a xs → SqL K H1 a xs → SqL K H a xs) ∧ (SqT K H1 a xs → SqT K H a xs)) (YAt xs) → R J H1
theorem pi_seq {X : Cx} {tg l : Expr} {tl : TE} (hl : PE X l tl) : PI X tg l (iSeq X.K tl) := by
  refine ⟨fun pins s σ H R I h => ?_⟩
  refine thn (hl.run pins s σ H _ I h) fun v s1 ⟨x, H1, I1, r1, q1⟩ => ?_
  obtain ⟨a, xs, e, hq, q⟩ := q1
  subst e
  cases r1
  have fp : ∀ b ∈ [s1.heap.objs.size], FpOk X pins H1 b := fun b hb => by
    have e : b = s1.heap.objs.size := by simpa using hb
    subst e
    exact I1.fpOk (Nat.le_refl _) (I1.hok.fresh (Nat.le_refl _))
  by_cases hT : SqT X.K H1 a xs
  rotate_left
  · have hq : SqL X.K H1 a xs := hq.resolve_right hT
    obtain ⟨its, rv, p, hz⟩ := I1.list hq
    refine wpAny_pyIter_list p.isList ⟨s1.heap.objs.size, [s1.heap.objs.size], _, _, H1, rfl, I1.kept (t' := s1.toks) fun b o e => Heap.get?_push_of_some _ e, turn_list a _, ⟨_, Heap.get?_push_size _ rfl, rfl, rfl⟩, fp, q (Itl X.K a) ?_⟩
    exact (walk_list (K := X.K) (a := a) (xs := xs)).mono (fun H g => g.1 hT hq) fun i H x H' _ _ y => y
  · obtain ⟨its, rv, p, hz⟩ := I1.tuple hT
    refine wpAny_pyIter_tuple (show s1.heap.IsTuple a its.toArray from p) ⟨s1.heap.objs.size, [s1.heap.objs.size], _, _, H1, rfl, I1.kept (t' := s1.toks) fun b o e => Heap.get?_push_of_some _ e, turn_tuple a _, ⟨_, Heap.get?_push_size _ rfl, rfl, rfl⟩, fp, q (Itt X.K a) ?_⟩
    exact (walk_tup (K := X.K) (a := a) (xs := xs)).mono (fun H g => g.2 hT) fun i H x H' _ _ y => y
/-- a, b, .. = a list or a tuple -/
def gAny (K : PySem.W.Frag) (n : Nat) (t : TGs) : TG := fun v σ H Q => ∃ a xs, v = .ref a ∧ Sq2 K H a xs ∧ xs.length = n ∧ t xs σ H Q
theorem pg_any {X : Cx} {es : List Expr} {k : Nat} {pos : Pos} {t : TGs} {n : Nat} (hc : X.calm = true) (h : PGs X es t)
    (hn : (assignEach es X.env).length = n := by rfl) (hst : (assignEach es X.env).findIdx? (·.1) = none := by rfl) : PG X (.Tuple es k pos) (gAny X.K n t) := by
  refine ⟨fun pins s σ H v u Q I r hw => ?_⟩
  obtain ⟨a, xs, e, hq, hl, hw⟩ := hw
  rcases hq with hq | hq
  · exact (pg_unl hc h hn hst).run pins s σ H v u Q I r ⟨a, xs, e, hq, hl, hw⟩
  · exact (pg_tup hc h hn hst).run pins s σ H v u Q I r ⟨a, xs, e, hq, hl, hw⟩
end XL
namespace PySem
namespace XE
open Builtin Builtin.ObjectAttr
/-! ### own exceptions as values: made by place or with keywords -/
section
variable {prog : Program} {w : World} {M : Model} {A : Around} {E : Value → Shared → Prop} {R : Result → Shared → Prop} {h : Heap} {g : Array GenState} {d : Drawn} {t : Nat} {os : OsState}
variable {nm q : Str} {C N : Addr} {bs bm : List Value} {hdct : Bool} {sn : List Str} {sub : List Value} {ab : Bool} {col : Option Bool} {dd : Option Addr} {k0 k1 k2 k3 k5 : Option Value} {B newId initId : String}
theorem newK_check (F : ExcBaseFacts B newId initId bm) {rest : List Value} {kw : List (Str × Value)} {Q : Unit → Shared → Prop}
    (hC : h.get? C = some (excClassObj nm q C N bs bm hdct sn sub ab col dd k0 k1 k2 k3 k5 newId)) (hq : Q () ⟨h, g, d, t, os⟩) : wpAny M A (checkBuiltinCall newId ⟨.ref C :: rest, kw⟩) Q E ⟨h, g, d, t, os⟩ := by
  have hcont : (Value.ref C :: bm).contains (.type B) = true := by rw [List.contains_cons, F.hasB, Bool.or_true]
  have hstar := F.noStar; simp only [checkBuiltinCall, F.newKind, F.newSplit, F.newRow]
  repeat (first | refine wpAny_loadPart_at hC ?_ | (refine wpAny_isSubtype_exc hC ?_; rw [hcont]) | refine wpAny_staticBase_exc hC ?_ | refine wpAny_madeBy_exc hC ?_ | simp only [bne_self_eq_false, Bool.false_eq_true, if_false] | wp_step)
  exact hq
theorem newK_run (F : ExcBaseFacts B newId initId bm) {rest : List Value} {kw : List (Str × Value)}
    (hC : h.get? C = some (excClassObj nm q C N bs bm hdct sn sub ab col dd k0 k1 k2 k3 k5 newId))
    (hq : R (.ok (.ret (.ref (h.objs.size + 1)))) ⟨(h.push (W.kdv_tup rest)).push (HandSPX.excO C h.objs.size), g, d, t, os⟩) (hrest : rest.length ≤ sizeLine) :
    codeAny (model prog w) A (.builtin newId ⟨.ref C :: rest, kw⟩) R ⟨h, g, d, t, os⟩ := by
  have hends := F.ends; have hcB : (Value.ref C :: bm).contains (.type B) = true := by rw [List.contains_cons, F.hasB, Bool.or_true]
  have hcA : (Value.ref C :: bm).contains (.type "AttributeError") = false := by rw [List.contains_cons, F.noAttr]; rfl
  have hcN : (Value.ref C :: bm).contains (.type "NameError") = false := by rw [List.contains_cons, F.noName]; rfl
  refine codeAny_builtinAt F.entry ?_; unfold Builtin.«BaseException.__new__»; refine wpAt_bind ?_
  show wpAt _ _ _ (stack >>= _) _ _ _
  refine wpAt_bind (wpAt_stack fun p below => wpAt_of_wpAny ?_); wp_walk; refine wpAt_of_wpAny ?_; rw [F.owner]
  repeat (first | with_reducible refine wpAny_madeHere_exc F.canon hC ?_ | with_reducible refine wpAny_loadPart_at hC ?_ | (with_reducible refine wpAny_isSubtype_exc hC ?_; first | rw [hcB] | rw [hcA] | rw [hcN]) | wp_step)
  show R _ _
  rw [Heap.size_push]; exact hq
theorem typeK_check {rest : List Value} {kw : List (Str × Value)} {Q : Unit → Shared → Prop} (hC : h.get? C = some (excClassObj nm q C N bs bm hdct sn sub ab col dd k0 k1 k2 k3 k5 newId))
    (hq : Q () ⟨h, g, d, t, os⟩) : wpAny M A (checkBuiltinCall "type.__call__" ⟨.ref C :: rest, kw⟩) Q E ⟨h, g, d, t, os⟩ := by
  have f3 := tc_sub; have hT : (⟨h, g, d, t, os⟩ : Shared).TypeIs (.ref C) "type" := ⟨_, hC, rfl⟩
  simp only [checkBuiltinCall, tc_kind, tc_split]
  repeat (any_goals (first | assumption | with_reducible refine wpAny_loadPart_at hC ?_ | with_reducible refine wpAny_onRaise ?_ | with_reducible refine wpAny_map ?_ | wp_step))
theorem typeK_call (F : ExcBaseFacts B newId initId bm) {rest : List Value} {kw : List (Str × Value)} {fI : Addr} {Q : Fin → Shared → Prop}
    (hC : h.get? C = some (excClassObj nm q C N bs bm hdct sn sub ab col dd k0 k1 k2 k3 k5 newId))
    (hi : W.Looks (model prog w) h (typeLookup (.ref C) "__init__") (some (.ref fI))) (hb : ∀ self, W.Looks (model prog w) h (bindSpecial (.ref fI) self) (.ref fI, [self])) (hrest : rest.length ≤ sizeLine)
    (hq : codeAny (model prog w) A (.call (.ref fI) ⟨.ref (h.objs.size + 1) :: rest, kw⟩)
      (fun r s' => match r with | .ok (.ret v) => v = .none ∧ Q (.done (.ret (.ref (h.objs.size + 1)))) s' | .ok _ => False | .error e => E e s') ⟨(h.push (W.kdv_tup rest)).push (HandSPX.excO C h.objs.size), g, d, t, os⟩) :
    wpAny (model prog w) A (Builtin.«type.__call__» ⟨.ref C :: rest, kw⟩) Q E ⟨h, g, d, t, os⟩ := by
  repeat (first | with_reducible refine wpAny_loadPart_at hC ?_ | with_reducible refine wpAny_madeBy_exc hC ?_ | wp_step)
  refine codeAny_call_builtin_code (Code.quiet_builtin _ F.quiet) (newK_check F hC ?_)
  refine newK_run F hC ?_ hrest
  show wpAny _ _ _ _ _ _
  have k : ∀ b o, h.get? b = some o → ((h.push (W.kdv_tup rest)).push (HandSPX.excO C h.objs.size)).get? b = some o := fun b o e => Heap.get?_push_of_some _ (Heap.get?_push_of_some _ e)
  have hC₁ := k _ _ hC
  have hget : ((h.push (W.kdv_tup rest)).push (HandSPX.excO C h.objs.size)).get? (h.objs.size + 1) = some (HandSPX.excO C h.objs.size) := by heap_get
  have hcC : (Value.ref C :: bm).contains (.ref C) = true := by simp
  have i1 := hi.keeps k; have b1 := (hb (.ref (h.objs.size + 1))).keeps k
  unfold isInstance
  repeat (first | with_reducible refine wpAny_loadPart_at hget ?_ | (with_reducible refine wpAny_isSubtype_exc hC₁ ?_; rw [hcC]) | wp_step)
  show wpAny _ _ (typeLookup (.ref C) _) _ _ _
  refine i1.at ?_
  refine wpAny_holding (wpAny_bind (b1.at ?_))
  refine wpAny_bind (wpAny_call (codeAny_mono hq fun r s' z => ?_))
  rcases r with e | (v | _ | _ | _) <;> first | exact z | exact z.elim | skip
  obtain ⟨rfl, z⟩ := z
  first | exact wpAny_pure (wpAny_pure z) | (wp_walk; exact z)
theorem callK (F : ExcBaseFacts B newId initId bm) {rest : List Value} {kw : List (Str × Value)} {fI : Addr}
    (hC : h.get? C = some (excClassObj nm q C N bs bm hdct sn sub ab col dd k0 k1 k2 k3 k5 newId))
    (hi : W.Looks (model prog w) h (typeLookup (.ref C) "__init__") (some (.ref fI))) (hb : ∀ self, W.Looks (model prog w) h (bindSpecial (.ref fI) self) (.ref fI, [self])) (hrest : rest.length ≤ sizeLine)
    (hq : codeAny (model prog w) (A.under (.builtin "type.__call__" ⟨.ref C :: rest, kw⟩)) (.call (.ref fI) ⟨.ref (h.objs.size + 1) :: rest, kw⟩) (W.InitBack (h.objs.size + 1) R)
      ⟨(h.push (W.kdv_tup rest)).push (HandSPX.excO C h.objs.size), g, d, t, os⟩) : codeAny (model prog w) A (.call (.ref C) ⟨rest, kw⟩) R ⟨h, g, d, t, os⟩ := by
  have f1 := tc_lookup; have f2 := tc_bind (.ref C); have hTy : (⟨h, g, d, t, os⟩ : Shared).TypeIs (.ref C) "type" := ⟨_, hC, rfl⟩
  refine codeAny_of_tree ?_
  show wpAny _ _ (callAny (.ref C) _) _ _ _
  repeat (any_goals (first | assumption | with_reducible refine wpAny_loadPart_at hC ?_ | wp_step))
  refine ⟨rfl, ?_⟩
  refine codeAny_call_builtin_at (Code.quiet_builtin _ (by decide +kernel)) entry_typeCall (typeK_check hC (typeK_call F hC hi hb hrest ?_))
  refine codeAny_mono hq fun r s' z => ?_
  rcases r with e | (v | _ | _ | _) <;> exact z
end
/-! ### self.name = v -/
section
variable {prog : Program} {w : World} {A : Around} {E : Value → Shared → Prop} {R : Result → Shared → Prop} {hp : Heap} {g : Array GenState} {d : Drawn} {t : Nat} {os : OsState}
theorem osaG {K : W.Frag} {name : Str} {tk : Tok} {v : Value} {x C : Addr} {fv : Array Value} {cd : ClassData}
    (X : K.In hp) (hx : hp.get? x = some { cls := .ref C, data := .fields fv }) (hcd : W.clsIn K C = some cd) (ne : cd.mro.isEmpty = false) (hob : cd.mro.contains (.type "object") = true) (hpass : ∀ self, refuseLoop self "__setattr__" cd.mro = pure ())
    (hh : cd.hasDict = true) (ha : W.findIn K (.ref C) name = some none)
    (hq : ∀ h' tk' dx, (∀ b o, b ≠ x → hp.get? b = some o → h'.get? b = some o) → hp.objs.size ≤ dx → dx ≠ x → h'.get? x = some { cls := .ref C, dict := some dx, data := .fields fv } → h'.Ns1 dx (fun y => if y = name then some v else none) →
      R (.ok (.ret .none)) ⟨h', g, d, tk', os⟩) :
    codeAny (model prog w) A (.call (.builtin "object.__setattr__") ⟨[.ref x, .str name tk, v], []⟩) R ⟨hp, g, d, t, os⟩ := by
  have I : W.InstAt hp x { cls := .ref C, data := .fields fv } C none := ⟨hx, rfl, rfl, trivial⟩
  have SF := F.store_object; have hxs : x ≠ hp.objs.size := Nat.ne_of_lt (Heap.lt_size hx)
  have sub : W.Looks (model prog w) hp (isInstance (.ref x) (.type "object")) true := I.type.andThen (W.looks_mroIn X (by unfold W.mroIn; rw [hcd, Option.bind_some, if_neg (by rw [ne]; decide), hob]))
  refine codeAny_call_builtin SF.slot.plain SF.entry (@W.check_slot (model prog w) _ _ ⟨hp, g, d, t, os⟩ "object.__setattr__" "object" "__setattr__" (.ref x) [.str name tk, v] [] _ SF.kind SF.split sub (SF.args (.ref x) (.str name tk) v) ?_)
  have hmr : W.Looks (model prog w) hp (mroOf (.ref C)) cd.mro := (W.looks_clsIn X hcd).andThen .now
  have L3 : W.Looks (model prog w) hp (storeTaker? none) none := .now; have hcls : W.Looks (model prog w) hp (classData C) cd := W.looks_clsIn X hcd
  rw [W.osa_eq, refuse_eq]
  refine wpAny_bind (wpAny_bind (I.type.at (wpAny_bind (hmr.at ?_))))
  rw [hpass]
  refine wpAny_pure (wpAny_bind (I.type.at (wpAny_bind ((W.looks_findIn X ha).at (wpAny_bind (L3.at ?_))))))
  show wpAny _ _ (storeInOwnDict (.ref x) (.ref C) (.str name tk) name v false) _ _ _
  obtain ⟨nm, bs, mro, ns, qn, hd, sn, sb, ab, col, del⟩ := cd
  dsimp only at hh
  subst hh
  unfold storeInOwnDict ownDictForStores
  repeat (first | with_reducible refine HandSPX.store_in_new ?_ ?_ | with_reducible refine wpAny_loadPart_at hx ?_ | with_reducible refine hcls.at ?_ | wp_step)
  · exact ⟨_, #[], _, (Heap.get?_update_ne _ _ _ _ hxs.symm).trans (Heap.get?_push_at rfl rfl), rfl, fun e he => absurd he (by simp), fun _ => rfl⟩
  · intro h' tk' hn' hs
    have hx₁ : (hp.push { cls := .type "dict", data := .dict #[] }).get? x = some { cls := .ref C, data := .fields fv } := Heap.get?_push_of_some _ hx
    refine hq h' tk' hp.objs.size (fun b o hb ho => ?_) (Nat.le_refl _) hxs.symm ?_ hn'
    · exact (hs.2 b (Nat.ne_of_lt (Heap.lt_size ho))).trans ((Heap.get?_update_ne _ _ _ _ hb).trans (Heap.get?_push_of_some _ ho))
    · exact (hs.2 x hxs).trans (Heap.get?_update_self _ hx₁ rfl)
end
end XE
end PySem
namespace XL
open PySem PySem.Spec PyProof.Rows L2
/-- what the written part says of an own exception class straight over B -/
structure ExF (K : PySem.W.Frag) (C : Addr) (B newId initId : String) (bm : List Value) : Prop where
  base : ExcBaseFacts B newId initId bm
  pass : ∀ self, refuseLoop self "__setattr__" (.ref C :: bm) = pure ()
  obj : bm.contains (.type "object") = true
  cls : ∃ nm q N bs sn sub ab col dd k0 k1 k2 k3 k5, K.lookup C = some (excClassObj nm q C N bs bm true sn sub ab col dd k0 k1 k2 k3 k5 newId)
  sa : PySem.W.findIn K (.ref C) "__setattr__" = some (some (.builtin "object.__setattr__"))
  ga : PySem.W.findIn K (.ref C) "__getattribute__" = some (some (.builtin "BaseException.__getattribute__"))
  gt : PySem.W.findIn K (.ref C) "__getattr__" = some none
  exC : PySem.W.subIn K (.ref C) (.type "BaseException") = some true
  kC : PySem.W.keepIn K (.ref C) = true
  hd : PySem.W.hasDictIn K C = true
  ca : PySem.W.findIn K (.ref C) "__class__" = some (some (.builtin "object.__class__"))
  cn : PySem.W.specialIn K (.builtin "object.__class__") "__get__" = some (some (.builtin "getset_descriptor.__get__"))
  ct : PySem.W.takesIn K (.builtin "object.__class__") = some true
  mo : PySem.W.mroIn K C (.type "object") = some true
section
variable {X : Cx} {pins : List (Addr × Obj)} {σ : L2.St} {H : Hp} {s : Shared} {a C dx : Addr} {f : Str} {y : V} {u : Value} {fs : List (Str × V)} {E : Value → Shared → Prop} {A : Around} {B newId initId : String} {bm : List Value}
theorem ost_newG {Q : Unit → Shared → Prop} (T : ExF X.K C B newId initId bm) (I : Inv X pins σ H s) (e : H a = some (exo a C none)) (hno : PySem.W.findIn X.K (.ref C) f = some none) (ry : RelV y u)
    (h : ∀ dx s', H dx = none → dx ≠ a → Inv X pins σ (upd (upd H dx (exd dx [(f, y)])) a (exo a C (some dx))) s' → Q () s') : wpAny (model X.prog X.w) A (setAttr (.ref a) f u) Q E s := by
  obtain ⟨nm, q, N, bs, sn, sub, ab, col, dd, k0, k1, k2, k3, k5, hC⟩ := T.cls
  have hcl : PySem.W.clsIn X.K C = some { name := nm, bases := bs, mro := .ref C :: bm, ns := N, qualname := q, hasDict := true, slotNames := sn, subclasses := sub, abstract := ab, collection := col, hasDel := false } := by unfold PySem.W.clsIn; rw [hC] <;> rfl
  obtain ⟨t1, ho⟩ := exo_at I.hok e
  obtain ⟨hp, g, d, t, os⟩ := s
  refine PySem.W.set_plain I.kIn (ox := { cls := .ref C, dict := none, data := .fields #[.ref t1, .none, .none, .none, .bool false, .none] }) (od := none) ⟨ho, rfl, rfl, trivial⟩ T.sa ?_
  refine PySem.XE.osaG I.kIn ho hcl rfl (by show (Value.ref C :: bm).contains (.type "object") = true; rw [List.contains_cons, T.obj, Bool.or_true]) T.pass rfl hno (fun h' tk' dx k dn dne hx hn => ?_)
  have hnd : H dx = none := I.hok.fresh dn
  have nd : ∀ {b : Addr} {o : Obj}, hp.get? b = some o → b ≠ dx := fun {b o} q => Nat.ne_of_lt (Nat.lt_of_lt_of_le (Heap.lt_size q) dn)
  have na : ∀ {b : Addr}, H b = none → b ≠ a := fun {b} n z => by rw [z, e] at n; cases n
  have Un1 : Un X.fs [] H (upd (upd H dx (exd dx [(f, y)])) a (exo a C (some dx))) hp h' := {
    keep := fun b o q n _ _ => k b o (na n) q
    slot := fun b o q n _ _ => ⟨o.slots, k b o (na n) q⟩
    free := fun b o q n _ => by rw [upd_ne (na n), upd_ne (nd q)]; exact n
    there := fun b o q _ => by
      by_cases hb : b = a
      · exact ⟨_, by rw [hb]; exact hx⟩
      · exact ⟨o, k b o hb q⟩
    tups := fun b xs q => by rw [upd_ne (at_ne e q exo_tup), upd_ne (ne_of_none q hnd)]; exact q
    frzs := fun b o v q => by rw [upd_ne (at_ne e q exo_frz), upd_ne (ne_of_none q hnd)]; exact q
    tbls := fun b ps q => ⟨#[], by rw [upd_ne (at_ne e q exo_tbl), upd_ne (ne_of_none q hnd), q]; simp⟩ }
  refine h dx _ hnd dne (I.un (t' := tk') Un1 fun b o q => ?_)
  by_cases hb : b = a
  · subst hb; rw [upd_same] at q; cases q; exact exo_ok hx
  · rw [upd_ne hb] at q
    by_cases hd : b = dx
    · subst hd; rw [upd_same] at q; cases q
      exact exd_ok hn (relO_put (fs := []) ry fun g => True.intro)
    · rw [upd_ne hd] at q
      refine (I.hok b o q).stay (fun c v hc z => k c v ?_ z) (fun c hc => ?_) fun c xs hc => ?_
      · rcases hc with hc | hc
        · rw [hc]; exact hb
        · exact at_ne e hc exo_own
      · rw [upd_ne (at_ne e hc exo_own), upd_ne (ne_of_none hc hnd)]; exact hc
      · rw [upd_ne (at_ne e hc exo_tup), upd_ne (ne_of_none hc hnd)]; exact hc
theorem initG {us : List Value} {Q : Value → Shared → Prop} (T : ExF X.K C B newId initId bm) (I : Inv X pins σ H s) (e : H a = some (exo a C none)) (hl : us.length ≤ sizeLine) (h : ∀ s', Inv X pins σ H s' → Q .none s') :
    wpAny (model X.prog X.w) A (call (.builtin initId) (.ref a :: us)) Q E s := by
  obtain ⟨nm, q, N, bs, sn, sub, ab, col, dd, k0, k1, k2, k3, k5, hC⟩ := T.cls
  obtain ⟨t1, ho⟩ := exo_at I.hok e
  obtain ⟨hp, g, d, t, os⟩ := s
  refine wpAny_call (PySem.HandSPX.init_base T.base (fun Y => rfl) (I.kIn _ _ hC) ho hl fun h' t2 k hx => ?_)
  have J := I.write (t' := t) (x := a) (e := a) (o := exo a C none) (by rw [e]; exact True.intro) (.inl rfl) k ⟨_, hx⟩ (exo_ok hx)
  have eu : upd H a (exo a C none) = H := by
    funext b
    by_cases hb : b = a
    · rw [hb, upd_same, e]
    · rw [upd_ne hb]
  rw [eu] at J
  exact h _ J
end
theorem inst_of {X : Cx} {pins : List (Addr × Obj)} {σ : L2.St} {H : Hp} {s : Shared} {a C : Addr} {d : Option Addr} (I : Inv X pins σ H s) (ea : H a = some (exo a C d)) (hd : ∀ dd, d = some dd → ∃ fs, H dd = some (exd dd fs)) :
    ∃ (t1 : Addr) , ∃ od, PySem.W.InstAt s.heap a ({ cls := .ref C, dict := d, data := .fields #[.ref t1, .none, .none, .none, .bool false, .none] } : Obj) C od := by
  obtain ⟨t1, ho⟩ := exo_at I.hok ea
  cases d with
  | none => exact ⟨t1, none, ho, rfl, rfl, trivial⟩
  | some dd =>
    obtain ⟨fs, ed⟩ := hd dd rfl
    obtain ⟨mA, hns, hr⟩ := exd_at I.hok ed
    obtain ⟨od, hod, hl⟩ := lookIn_ns hns
    exact ⟨t1, some od, ho, rfl, rfl, hod⟩
/-- B.__init__(self, ..) -/
def tBi (K : PySem.W.Frag) (B newId initId : String) (bm : List Value) (ta : TA) : TE := fun σ H Q => ta σ H fun vs H1 => ∃ (a C : Addr) (ws : List V), vs = .ref a :: ws ∧ ws.length ≤ 1000 ∧ ExF K C B newId initId bm ∧ H1 a = some (exo a C none) ∧ Q .non H1
/-- self.f = e, the first one -/
def tOs1 (K : PySem.W.Frag) (B newId initId : String) (bm : List Value) (f : Str) (to te : TE) : TS := fun D σ H => te σ H fun y H1 => to σ H1 fun x H2 => ∃ a C : Addr, x = .ref a ∧ ExF K C B newId initId bm ∧ PySem.W.findIn K (.ref C) f = some none ∧
  H2 a = some (exo a C none) ∧ ∀ dx, H2 dx = none → dx ≠ a → D.nx σ (upd (upd H2 dx (exd dx [(f, y)])) a (exo a C (some dx)))
section
variable {X : Cx} {o e : Expr} {es : List Expr} {to te : TE} {ta : TA} {f : Str} {p p' p1 p2 pos : Pos} {B newId initId : String} {bm : List Value}
theorem pe_binit {bn : Str} {pl : Sem Bool} (hg : Gl X bn) (hm : X.mg bn = none) (hboot : bootBuiltins bn = some (.type B)) (hty : typeOf (.type B) = pure (.type "type")) (vV : PySem.W.findCls X.K (.type B) (.type "type") "__init__" = some (.val (.builtin initId))) (ha : PA X (e :: es) ta)
    (h1 : bn ≠ "__name__") (h2 : (bn == ("__debug__" : Str)) = false) (hst : Manifest.isStub B = false) (hhd : PySem.W.handedIn (.builtin initId) = true)
    (hc : eval (.Call (.Attribute (.Name bn p1) "__init__" p2) (e :: es) [] pos) X.env = (do
      let ov ← eval (.Name bn p1) X.env
      standAt p2.atName
      let (f, first) ← holding [ov] (getMethod ov "__init__" pl)
      callWith pos f first (backTo pos (starEach (e :: es) X.env)) (backToKw pos (keywordEach [] X.env))) := by rfl)
    (he : starEach (e :: es) X.env = (false, eval e X.env) :: starEach es X.env := by rfl) (hpl : (backTo pos (starEach es X.env)).any (·.1) = false := by rfl) :
    PE X (.Call (.Attribute (.Name bn p1) "__init__" p2) (e :: es) [] pos) (tBi X.K B newId initId bm ta) := by
  refine ⟨fun pins s σ H Q I h => ?_⟩
  refine PySem.W.methodCall_KW (ld_blt I hg hm hboot ?_ h1 h2) hc
  obtain ⟨m, fr⟩ := I.fr
  refine PySem.W.method_type fr I.ok.mod.kin hty hst vV hhd ?_
  show wpAny _ _ (callWith pos (Value.builtin initId) [] (backTo pos (starEach (e :: es) X.env)) []) _ _ _
  refine PyProof.Rows.callWith_method1 (thn (ha.run pos pins _ σ H _ (I.tok _) h) fun us s1 ⟨vs, H1, I1, r1, a, C, ws, ev, hl, T, ea, q⟩ => ?_) he hpl
  subst ev
  cases r1 with
  | @cons _ u0 _ ur ra rw' =>
    obtain rfl : u0 = Value.ref a := ra
    have hlen : ur.length ≤ sizeLine := by rw [← Paired.length rw', sizeLine_eq]; omega
    exact initG T I1 ea hlen fun s' J => ⟨.non, H1, J, rfl, q⟩
theorem ps_os1 (ho : PE X o to) (he : PE X e te) (hs : swapsWith e (some (.Attribute o f p')) pos.line X.env = pure false := by rfl) : PS X (.Assign [.Attribute o f p'] e pos) (tOs1 X.K B newId initId bm f to te) := by
  refine ⟨fun pins s σ H D I h => ?_⟩
  refine plainObj_wpAny_Assign_Attribute (thn (he.run pins s σ H _ I h) fun v s1 ⟨y, H1, I1, r1, q1⟩ => thn (ho.run pins s1 σ H1 _ I1 q1) fun u s2 ⟨x, H2, I2, r2, a, C, ex, T, hno, ea, q⟩ => ?_) hs
  subst ex
  obtain rfl : u = Value.ref a := r2
  exact ost_newG T I2 ea hno r1 fun dx s' n ne J => ⟨σ, _, J, q dx n ne⟩
/-- C(..): a new exception, its own __init__ keeping sp -/
theorem run_exmk {pins : List (Addr × Obj)} {σ : L2.St} {H1 : Hp} {s1 : Shared} {C fI : Addr} {k : Nat} {fd : FuncData} {ps : List Str} {sp : Sp} {us zs : List Value} {kw : List (Str × Value)} {vs : List V} {Q : VK} (T : ExF X.K C B newId initId bm)
    (iC : PySem.W.findIn X.K (.ref C) "__init__" = some (some (.ref fI))) (tI : PySem.W.typeIn X.K (.ref fI) = some (.type "function")) (F1 : FnOk X.prog X.w X.K X.mg X.base CX0 k fI fd ps sp) (hr : Room (k + 1) X.A) (I1 : Inv X pins σ H1 s1) (hz : us.length ≤ 1000)
    (hb : ∀ (s : Shared) (a : Addr), X.K.In s.heap → (Value.ref a :: zs).length = ps.length → BindsTo s fd ⟨.ref a :: us, kw⟩ (ps.zip (.ref a :: zs))) (r : Vals vs zs)
    (h : ∀ a, H1 a = none → sp (.ref a :: vs) (upd H1 a (exo a C none)) (fun v H2 => v = .non ∧ Q (.ref a) H2) E0) : wpAny (model X.prog X.w) X.A (call (.ref C) us kw) (EP X pins σ Q) X.xe s1 := by
  obtain ⟨nm, q, N, bs, sn, sub, ab, col, dd, k0, k1, k2, k3, k5, hC⟩ := T.cls
  obtain ⟨hp, g, dr, tk, os⟩ := s1
  have hsz : hp.objs.size ≤ hp.objs.size + 1 := Nat.le_succ _
  have hn : H1 (hp.objs.size + 1) = none := I1.hok.fresh hsz
  have hq := h (hp.objs.size + 1) hn
  have kk : ∀ b o, hp.get? b = some o → ((hp.push (PySem.W.kdv_tup us)).push (PySem.HandSPX.excO C hp.objs.size)).get? b = some o := fun b o e => Heap.get?_push_of_some _ (Heap.get?_push_of_some _ e)
  have hget : ((hp.push (PySem.W.kdv_tup us)).push (PySem.HandSPX.excO C hp.objs.size)).get? (hp.objs.size + 1) = some (PySem.HandSPX.excO C hp.objs.size) := by heap_get
  have I2 : Inv X pins σ (upd H1 (hp.objs.size + 1) (exo (hp.objs.size + 1) C none)) ⟨(hp.push (PySem.W.kdv_tup us)).push (PySem.HandSPX.excO C hp.objs.size), g, dr, tk, os⟩ := I1.laid (t' := tk) kk hsz (exo_ok hget)
  have r2 : Vals (V.ref (hp.objs.size + 1) :: vs) (Value.ref (hp.objs.size + 1) :: zs) := .cons rfl r
  have hl : (Value.ref (hp.objs.size + 1) :: zs).length = ps.length := by rw [← r2.length]; exact F1.len _ _ _ _ hq
  have hus : us.length ≤ sizeLine := by rw [sizeLine_eq]; omega
  have e0 : Env0 X.prog X.w X.K X.mg X.base (X.A.under (.builtin "type.__call__" ⟨.ref C :: us, kw⟩)) X.stack _ _ := I2.env0.make C us kw
  refine wpAny_call (PySem.XE.callK T.base (I1.kIn _ _ hC) (PySem.W.looks_findIn I1.kIn iC) (fun self => PySem.W.bind_fn I1.kIn self tI) hus
    (codeAny_mono (F1.run _ X.stack _ _ ⟨Value.ref (hp.objs.size + 1) :: us, kw⟩ (Value.ref (hp.objs.size + 1) :: zs) _ _ E0 (hr.make C us kw) e0 (hb _ _ I2.kIn hl) r2 hq) fun r s' hq' => ?_))
  cases r with
  | error er => exact False.elim hq'
  | ok fl =>
    cases fl with
    | ret u =>
      obtain ⟨v, H2, J, rv, ev, q2⟩ := I2.after hq'
      subst ev
      exact ⟨rv, .ref (hp.objs.size + 1), H2, J, rfl, q2⟩
    | next => exact False.elim hq'
    | brk => exact False.elim hq'
    | cont => exact False.elim hq'
variable {x : Str} {C fI : Addr} {k : Nat} {fd : FuncData} {ps ks : List Str} {sp : Sp} {kws : List Keyword} {tk : TA} {g : List Value → List Value → List Value} {gV : List V → List V → List V}
theorem pe_exmk (T : ExF X.K C B newId initId bm) (iC : PySem.W.findIn X.K (.ref C) "__init__" = some (some (.ref fI))) (tI : PySem.W.typeIn X.K (.ref fI) = some (.type "function")) (F1 : FnOk X.prog X.w X.K X.mg X.base CX0 k fI fd ps sp) (hr : Room (k + 1) X.A) (hb : Binds X.K fd ps [])
    (hg : Gl X x) (hm : X.mg x = some (.ref C)) (ha : PA X (e :: es) ta) (hdb : (x == ("__debug__" : Str)) = false := by decide) (he : starEach (e :: es) X.env = (false, eval e X.env) :: starEach es X.env := by rfl) (hpl : (backTo pos (starEach es X.env)).any (·.1) = false := by rfl) :
    PE X (.Call (.Name x p) (e :: es) [] pos) (fun σ H Q => ta σ H fun vs H1 => vs.length ≤ 1000 ∧ ∀ a, H1 a = none → sp (.ref a :: vs) (upd H1 a (exo a C none)) (fun v H2 => v = .non ∧ Q (.ref a) H2) E0) := by
  refine ⟨fun pins s σ H Q I h => wpAny_Call_Name_kw (ld_glob I hg hm ?_ hdb)⟩
  refine PySem.W.callWith_K (h₀ := X.base) I.ok.mod.kin T.kC (thn (ha.run pos pins s σ H _ I h) fun us s1 ⟨vs, H1, I1, r1, hz, q1⟩ => ⟨I1.kIn, ?_⟩) he hpl
  refine run_exmk (us := us) T iC tI F1 hr I1 (by rw [← r1.length]; exact hz) (fun s a hk hl => ?_) r1 q1
  have b2 := hb s (.ref a :: us) hk (by rw [List.append_nil]; exact hl)
  rwa [List.append_nil] at b2
theorem pe_exmk0 (T : ExF X.K C B newId initId bm) (iC : PySem.W.findIn X.K (.ref C) "__init__" = some (some (.ref fI))) (tI : PySem.W.typeIn X.K (.ref fI) = some (.type "function")) (F1 : FnOk X.prog X.w X.K X.mg X.base CX0 k fI fd ps sp) (hr : Room (k + 1) X.A) (hb : Binds X.K fd ps [])
    (hg : Gl X x) (hm : X.mg x = some (.ref C)) (hdb : (x == ("__debug__" : Str)) = false := by decide) :
    PE X (.Call (.Name x p) [] [] pos) (fun σ H Q => ∀ a, H a = none → sp [.ref a] (upd H a (exo a C none)) (fun v H2 => v = .non ∧ Q (.ref a) H2) E0) := by
  refine ⟨fun pins s σ H Q I h => wpAny_Call_Name_kw (ld_glob I hg hm ?_ hdb)⟩
  refine PySem.W.callWith_K0 I.kIn T.kC (run_exmk (us := []) (kw := []) (zs := []) (vs := []) T iC tI F1 hr I (Nat.zero_le _) (fun s a hk hl => ?_) .nil h)
  have b2 := hb s [.ref a] hk (by rw [List.append_nil]; exact hl)
  rwa [List.append_nil] at b2
/-- C(k = v), one keyword -/
theorem pe_exmkK {kn : Str} (T : ExF X.K C B newId initId bm) (iC : PySem.W.findIn X.K (.ref C) "__init__" = some (some (.ref fI))) (tI : PySem.W.typeIn X.K (.ref fI) = some (.type "function")) (F1 : FnOk X.prog X.w X.K X.mg X.base CX0 k fI fd ps sp) (hr : Room (k + 1) X.A)
    (hb : ∀ (s : Shared) (a : Addr) (z : Value), X.K.In s.heap → (2 : Nat) = ps.length → BindsTo s fd ⟨[.ref a], [(kn, z)]⟩ (ps.zip [.ref a, z])) (hg : Gl X x) (hm : X.mg x = some (.ref C)) (hkw : PK X kws tk)
    (hall : (backToKw pos (keywordEach kws X.env)).all (·.1.isSome) = true := by rfl) (hks : (backToKw pos (keywordEach kws X.env)).filterMap (·.1) = [kn] := by rfl) (hdb : (x == ("__debug__" : Str)) = false := by decide)
    (hpl : ((backTo pos (starEach [] X.env)).any (·.1) || (backToKw pos (keywordEach kws X.env)).any (·.1.isNone)) = false := by rfl) :
    PE X (.Call (.Name x p) [] kws pos) (fun σ H Q => tk σ H fun zs H1 => zs.length = 1 ∧ ∀ a, H1 a = none → sp (.ref a :: zs) (upd H1 a (exo a C none)) (fun v H2 => v = .non ∧ Q (.ref a) H2) E0) := by
  refine ⟨fun pins s σ H Q I h => wpAny_Call_Name_kw (ld_glob I hg hm ?_ hdb)⟩
  refine PySem.W.callWith_KW0 (h₀ := X.base) I.ok.mod.kin T.kC hall (thn (hkw.run pos pins s σ H _ I h) fun ws s2 ⟨zs, H2, I2, rz, hz1, q2⟩ => ⟨I2.kIn, ?_⟩) hpl
  rw [hks]
  have hw : ws.length = 1 := by rw [← rz.length]; exact hz1
  match ws, hw, rz with
  | [z], _, rz => exact run_exmk (us := []) T iC tI F1 hr I2 (Nat.zero_le _) (fun s a hk hl => hb s a z hk hl) rz q2
/-- e.f of such an exception -/
theorem pe_exget {n : Str} (T : ExF X.K C B newId initId bm) (hno : PySem.W.findIn X.K (.ref C) n = some none) (he : PE X e te) (hb : attributeBase e n X.env (eval e X.env) = eval e X.env := by rfl) :
    PE X (.Attribute e n pos) (fun σ H Q => te σ H fun x H1 => ∃ a dd fs v, x = .ref a ∧ H1 a = some (exo a C (some dd)) ∧ H1 dd = some (exd dd fs) ∧ fs.lookup n = some v ∧ Q v H1) := by
  refine ⟨fun pins s σ H Q I h => attr_of hb (thn (he.run pins s σ H _ I h) fun u s1 hh => ?_)⟩
  obtain ⟨x, H1, I1, rx, a, dd, fs, v, ex, ea, ed, l, q⟩ := hh
  subst ex
  obtain rfl : u = Value.ref a := rx
  obtain ⟨t1, ho⟩ := exo_at I1.hok ea
  obtain ⟨mA, hns, hr⟩ := exd_at I1.hok ed
  obtain ⟨od, hod, hl⟩ := lookIn_ns hns
  obtain ⟨u, hu, ru⟩ := RelO.some_of (v := v) (o := mA n) (by rw [← l]; exact hr n)
  have J : PySem.W.InstAt s1.heap a { cls := .ref C, dict := some dd, data := .fields #[.ref t1, .none, .none, .none, .bool false, .none] } C (some od) := ⟨ho, rfl, rfl, hod⟩
  exact HandSPX.exc_get I1.kIn J T.ga T.gt T.exC (PySem.W.findObj_own T.hd hno rfl (by rw [hl, hu])) (handed_of ru) ⟨v, H1, I1.tok _, ru, q⟩
/-- isinstance(e, c) -/
theorem call_isiX : CallR X (.builtin "isinstance") (fun xs H Q => ∃ (a C : Addr) (d : Option Addr) (c : V) (u : Value) (b : Bool) (B newId initId : String) (bm : List Value), xs = [.ref a, c] ∧ ExF X.K C B newId initId bm ∧ H a = some (exo a C d) ∧ (∀ dd, d = some dd → ∃ fs, H dd = some (exd dd fs)) ∧ ClsV c u ∧ PySem.W.kitOne X.K (.ref C) u = some b ∧ Q (.bl b) H) := by
  intro pins s σ H xs us Q I r h
  obtain ⟨a, C, d, c, u, b, B, newId, initId, bm, rfl, T, ea, hd, k, e, q⟩ := h
  obtain ⟨u1, u2, rfl, r1, r2⟩ := vals2 r
  have e2 := k.eq r2
  subst e2
  obtain rfl : u1 = Value.ref a := r1
  obtain ⟨t1, od, J⟩ := inst_of I ea hd
  obtain ⟨nm, q0, N, bs, sn, sub, ab, col, dd, k0, k1, k2, k3, k5, hC⟩ := T.cls
  have hcl : (PySem.W.clsIn X.K C).isSome = true := by unfold PySem.W.clsIn; rw [hC]; rfl
  exact PySem.W.kia_one (PySem.W.kitx_exc hcl T.ga T.gt T.exC T.ca T.cn T.ct T.mo) I.kIn J e (fun z => nomatch z) fun tk => ⟨.bl b, H, I.tok tk, rfl, q⟩
theorem call_isiXT : CallR X (.builtin "isinstance") (fun xs H Q => ∃ (a C tp : Addr) (d : Option Addr) (cs : List V) (ws : List Value) (b : Bool) (B newId initId : String) (bm : List Value), xs = [.ref a, .ref tp] ∧ ExF X.K C B newId initId bm ∧ H a = some (exo a C d) ∧ (∀ dd, d = some dd → ∃ fs, H dd = some (exd dd fs)) ∧ H tp = some (.tup cs) ∧ Paired ClsV cs ws ∧ PySem.W.kitAny X.K (.ref C) ws = some b ∧ Q (.bl b) H) := by
  intro pins s σ H xs us Q I r h
  obtain ⟨a, C, tp, d, cs, ws, b, B, newId, initId, bm, rfl, T, ea, hd, hT, k, e, q⟩ := h
  obtain ⟨u1, u2, rfl, r1, r2⟩ := vals2 r
  obtain rfl : u1 = Value.ref a := r1
  cases (show u2 = Value.ref tp from r2)
  obtain ⟨t1, od, J⟩ := inst_of I ea hd
  obtain ⟨nm, q0, N, bs, sn, sub, ab, col, dd, k0, k1, k2, k3, k5, hC⟩ := T.cls
  have hcl : (PySem.W.clsIn X.K C).isSome = true := by unfold PySem.W.clsIn; rw [hC]; rfl
  obtain ⟨_, its, rv, o, h1, h2, n, h3⟩ := (show ObjOk X.prog X.w H s.heap tp (.tup cs) from I.hok tp _ hT)
  have e3 := ClsV.all k rv
  subst e3
  obtain ⟨oc, od', dt, sl⟩ := o
  simp only at h2 h3
  subst h2 h3
  exact PySem.W.kia_tup (PySem.W.kitx_exc hcl T.ga T.gt T.exC T.ca T.cn T.ct T.mo) I.kIn J h1 e (fun z => nomatch z) fun tk => ⟨.bl b, H, I.tok tk, rfl, q⟩
end
end XL
namespace XL
open PySem PySem.Spec PyProof.Rows L2
def topS (i : Nat) : Stmt := PySem.Challenge.pw_crosslocks_k00_errors_and_words.main.body.getD i (.Pass ⟨0, 0, 0, 0⟩)
abbrev sTake : Stmt := topS 15
abbrev sOf : Stmt := topS 16
theorem atI_int {α : Type} {xs : List α} {i : Int} {v : α} (h0 : 0 ≤ i) (h : xs[i.toNat]? = some v) : atI xs i = some v := by
  have q := atI_nat h
  rwa [show ((i.toNat : Nat) : Int) = i by omega] at q
/-! ### the box: a list of three numbers -/
def Bx (H : Hp) (b : Addr) : Prop := ∃ x y z : Int, H b = some (.lst [.int x, .int y, .int z])
/-- all that was tracked but the box is as it was, the box is a box -/
structure Dr (b : Addr) (H H' : Hp) : Prop where
  box : Bx H' b
  same : ∀ a o, a ≠ b → H a = some o → H' a = some o
theorem Dr.refl {b : Addr} {H : Hp} (h : Bx H b) : Dr b H H := ⟨h, fun _ _ _ e => e⟩
theorem Dr.trans {b : Addr} {H H1 H2 : Hp} (p : Dr b H H1) (q : Dr b H1 H2) : Dr b H H2 := ⟨q.box, fun a o n e => q.same a o n (p.same a o n e)⟩
theorem Dr.new {b p : Addr} {H : Hp} {o : HO} (h : Bx H b) (n : H p = none) : Dr b H (upd H p o) := by
  obtain ⟨x, y, z, e⟩ := h
  exact ⟨⟨x, y, z, same_new n b _ e⟩, fun a o _ e => same_new n a o e⟩
theorem Dr.put {b : Addr} {H : Hp} {x y z : Int} : Dr b H (upd H b (.lst [.int x, .int y, .int z])) := ⟨⟨x, y, z, upd_same⟩, fun a o n e => by rw [upd_ne n]; exact e⟩
theorem Dr.of {b : Addr} {H H' : Hp} (h : Bx H b) (s : Same H H') : Dr b H H' := by
  obtain ⟨x, y, z, e⟩ := h
  exact ⟨⟨x, y, z, s _ _ e⟩, fun a o _ e => s a o e⟩
section
variable {P : Program} {w : World} {K : PySem.W.Frag} {mg : Str → Option Value} {base : Heap}
/-! ### _law_take -/
theorem scTake : FnScope ["_law_box_here", "_law_size", "_law_found", "_law_blend"] ["_law_box_here", "_law_size"] (defScope sTake) := ⟨rfl, rfl, rfl, by decide +kernel, rfl, by decide +kernel, by decide +kernel⟩
def spTake : Sp := fun vs H Q _ => ∃ (b : Addr) (n : Int), vs = [.ref b, .int n] ∧ Bx H b ∧ 0 < n ∧ n < 1073741824 ∧ ∀ (v : Int) (H' : Hp), 0 ≤ v → v < n → Dr b H H' → Q (.int v) H'
theorem fmod_lt {a n : Int} (h : 0 < n) : 0 ≤ a.fmod n ∧ a.fmod n < n := by
  rw [Int.fmod_eq_emod_of_nonneg _ (Int.le_of_lt h)]
  exact ⟨Int.emod_nonneg _ (by omega), Int.emod_lt_of_pos _ h⟩
theorem ok_take {f : Addr} {fd : FuncData} {k : Nat} (F : Fun K "_law_take" "_law_take" sTake f fd) : FnOk P w K mg base CX0 (k + 1) f fd ["_law_box_here", "_law_size"] spTake := by
  refine F.ok scTake (fun vs H Q E h => ?_) (fun cdv A outer s H vs Q E hr h => ?_)
  · obtain ⟨b, n, rfl, _⟩ := h
    rfl
  obtain ⟨b, n, rfl, ⟨x, y, z, eb⟩, h0, h1, q⟩ := h
  refine ⟨_, pss_cons (ps_if (pt_cmpR op_gt (pe_ix ix_list (pv 0) pe_int (fun _ _ => rfl)) pe_int (nomark _))
      (pss_cons (ps_set (i := 2) scTake.nd rfl (.inl rfl) (pe_op op_modN (pe_ix ix_list (pv 0) pe_int (fun _ _ => rfl)) (pv 1)))
      (pss_cons (ps_asg (pe_op op_fdivN (pe_ix ix_list (pv 0) pe_int (fun _ _ => rfl)) (pv 1)) (pg_sub (pv 0) pe_int set_list))
      (pss_one (ps_ret (pv 2))))) pss_nil)
    (pss_cons (ps_asg (pe_op op_add (pe_ix ix_list (pv 0) pe_int (fun _ _ => rfl)) pe_int) (pg_sub (pv 0) pe_int set_list))
    (pss_cons (ps_set (i := 3) scTake.nd rfl (.inl rfl) (pe_op op_modN (pe_op op_add (pe_ix ix_list (pv 0) pe_int (fun _ _ => rfl)) (pe_op op_mul pe_int (pe_ix ix_list (pv 0) pe_int (fun _ _ => rfl)))) pe_int))
    (pss_cons (ps_set (i := 3) scTake.nd rfl (.inl rfl) (pe_op op_modN (pe_op op_add (pe_op op_add (pe_op op_mul (pv 3) (pv 3)) (pe_op op_mul pe_int (pe_ix ix_list (pv 0) pe_int (fun _ _ => rfl)))) pe_int) pe_int))
    (pss_cons (ps_set (i := 3) scTake.nd rfl (.inl rfl) (pe_op op_modN (pe_op op_add (pe_op op_mul (pv 3) (pe_op op_add (pe_op op_fdivN (pv 3) pe_int) pe_int)) (pe_ix ix_list (pv 0) pe_int (fun _ _ => rfl))) pe_int))
    (pss_one (ps_ret (pe_op op_modN (pe_op op_fdivN (pv 3) pe_int) (pv 1)))))))), ?_⟩
  have sq : SqL K H b [.int x, .int y, .int z] := SqL.of eb
  -- box[0] > 0
  refine ⟨_, rfl, b, _, _, _, rfl, rfl, sq, rfl, _, _, rfl, rfl, _, rfl, ite2 (fun c => ?_) (fun c => ?_)⟩
  · refine ⟨_, rfl, b, _, _, _, rfl, rfl, sq, rfl, _, rfl, _, _, rfl, rfl, by omega, ?_⟩
    refine ⟨_, rfl, b, _, _, _, rfl, rfl, sq, rfl, _, rfl, _, _, rfl, rfl, ⟨by omega, by omega⟩, ?_⟩
    refine ⟨_, rfl, b, _, _, 0, rfl, rfl, eb, rfl, ?_⟩
    refine ⟨_, rfl, ?_⟩
    exact q _ _ (fmod_lt h0).1 (fmod_lt h0).2 Dr.put
  · refine ⟨_, rfl, b, _, _, _, rfl, rfl, sq, rfl, _, _, rfl, rfl, ?_⟩
    refine ⟨_, rfl, b, _, _, 2, rfl, rfl, eb, rfl, ?_⟩
    have sq2 : SqL K (upd H b (.lst [.int x, .int y, .int (z + 1)])) b [.int x, .int y, .int (z + 1)] := SqL.of upd_same
    refine ⟨_, rfl, b, _, _, _, rfl, rfl, sq2, rfl, _, rfl, b, _, _, _, rfl, rfl, sq2, rfl, _, _, rfl, rfl, .inl ⟨by decide, by decide⟩, _, _, rfl, rfl, _, _, rfl, rfl, (by show (2305843009213693951 : Int) ≠ 0; decide), ?_⟩
    have m1 := fmod_lt (a := y + 1442695040888963407 * (z + 1)) (n := 2305843009213693951) (by decide)
    refine ⟨_, rfl, _, rfl, _, _, rfl, rfl, .inl ⟨by omega, by omega⟩, _, rfl, b, _, _, _, rfl, rfl, sq2, rfl, _, _, rfl, rfl, .inl ⟨by decide, by decide⟩, _, _, rfl, rfl, _, _, rfl, rfl, _, _, rfl, rfl, (by show (2305843009213693921 : Int) ≠ 0; decide), ?_⟩
    have m2 := fmod_lt (a := (y + 1442695040888963407 * (z + 1)).fmod 2305843009213693951 * (y + 1442695040888963407 * (z + 1)).fmod 2305843009213693951 + 39373 * (z + 1) + 7) (n := 2305843009213693921) (by decide)
    refine ⟨_, rfl, _, rfl, _, _, rfl, rfl, ⟨by decide, by decide⟩, _, _, rfl, rfl, _, _, rfl, rfl, .inl ⟨by omega, by omega⟩, _, rfl, b, _, _, _, rfl, rfl, sq2, rfl, _, _, rfl, rfl, _, _, rfl, rfl, (by show (2305843009213693907 : Int) ≠ 0; decide), ?_⟩
    refine ⟨_, rfl, _, _, rfl, rfl, ⟨by decide, by decide⟩, _, rfl, _, _, rfl, rfl, by omega, ?_⟩
    exact q _ _ (fmod_lt h0).1 (fmod_lt h0).2 Dr.put
/-! ### _law_of -/
theorem scOf : FnScope ["_law_box_here", "_law_some"] ["_law_box_here", "_law_some"] (defScope sOf) := ⟨rfl, rfl, rfl, by decide +kernel, rfl, by decide +kernel, by decide +kernel⟩
def spOf (K : PySem.W.Frag) : Sp := fun vs H Q _ => ∃ (b l : Addr) (xs : List V), vs = [.ref b, .ref l] ∧ Bx H b ∧ l ≠ b ∧ SqL K H l xs ∧ xs ≠ [] ∧ xs.length < 1000 ∧ ∀ (j : Nat) (v : V) (H' : Hp), xs[j]? = some v → Dr b H H' → Q v H'
theorem Dr.sqL {b a : Addr} {H H' : Hp} {xs : List V} (d : Dr b H H') (n : a ≠ b) (h : SqL K H a xs) : SqL K H' a xs := by
  rcases h with (h | ⟨o, h⟩) | h
  · exact .inl (.inl (d.same _ _ n h))
  · exact .inl (.inr ⟨o, d.same _ _ n h⟩)
  · exact .inr h
theorem Dr.sqT {b a : Addr} {H H' : Hp} {xs : List V} (d : Dr b H H') (n : a ≠ b) (h : SqT K H a xs) : SqT K H' a xs := by
  rcases h with (h | ⟨o, h⟩) | h
  · exact .inl (.inl (d.same _ _ n h))
  · exact .inl (.inr ⟨o, d.same _ _ n h⟩)
  · exact .inr h
theorem ok_of {f ft : Addr} {fd fdt : FuncData} {k : Nat} (F : Fun K "_law_of" "_law_of" sOf f fd) (FT : Fun K "_law_take" "_law_take" sTake ft fdt) (bT : Binds K fdt ["_law_box_here", "_law_size"] []) (gT : mg "_law_take" = some (.ref ft)) (ml : mg "len" = none) :
    FnOk P w K mg base CX0 (k + 1 + 1) f fd ["_law_box_here", "_law_some"] (spOf K) := by
  refine F.ok scOf (fun vs H Q E h => ?_) (fun cdv A outer s H vs Q E hr h => ?_)
  · obtain ⟨b, l, xs, rfl, _⟩ := h
    rfl
  obtain ⟨b, l, xs, rfl, hb, hlb, hl, hne, hz, q⟩ := h
  refine ⟨_, pss_one (ps_ret (pe_ix ix_list (pv 1) (pe_call (ok_take (k := k) FT) hr rfl gT FT.kp bT .nil pass0 (pa_cons (pv 0) (pa_cons (pe_callB call_len_seq rfl ml PySem.boot_len (pa_cons (pv 1) pa_nil)) pa_nil))) (fun _ _ => rfl))), ?_⟩
  have hpos : 0 < xs.length := List.length_pos_iff.mpr hne
  refine ⟨_, rfl, _, rfl, _, rfl, l, xs, rfl, .inl hl, b, _, rfl, hb, by omega, by omega, fun v H' v0 v1 d => ?_⟩
  have hj : v.toNat < xs.length := by omega
  have ha : atI xs v = some xs[v.toNat] := atI_int v0 (List.getElem?_eq_getElem hj)
  refine ⟨l, xs, v, _, rfl, rfl, d.sqL hlb hl, ha, ?_⟩
  exact q v.toNat _ _ (List.getElem?_eq_getElem hj) d
end
end XL
namespace XL
open PySem PySem.Spec PyProof.Rows L2
theorem boot_isinstance : bootBuiltins "isinstance" = some (.builtin "isinstance") := by decide +kernel
section
variable {P : Program} {w : World} {K : PySem.W.Frag} {mg : Str → Option Value} {base : Heap}
theorem no_fn {f : Addr} {fd : FuncData} {ps : List Str} {sp : Sp} (no : ∀ vs H Q E, ¬ sp vs H Q E) : FnOk P w K mg base CX0 0 f fd ps sp :=
  ⟨fun vs H Q E h => absurd h (no vs H Q E), fun A outer s H args us vs Q E _ _ _ _ h => absurd h (no vs H Q E)⟩
/-- the values of a list of data, mapped -/
theorem dpall_of {F : Hp} {f : PyData → PyData} : ∀ {ys : List V} {ds : List PyData}, ys.length = ds.length → (∀ (i : Nat) y, ys[i]? = some y → ∃ d, ds[i]? = some d ∧ Dp K F y (f d)) → DpAll K F ys (ds.map f)
  | [], [], _, _ => .nil
  | [], _ :: _, h, _ => by simp at h
  | _ :: _, [], h, _ => by simp at h
  | y :: ys, d :: ds, h, hi => by
    obtain ⟨d', e, p⟩ := hi 0 y rfl
    have e' : d = d' := by simpa using e
    subst e'
    exact .cons p (dpall_of (by simpa using h) fun i z q => by
      have := hi (i + 1) z (by simpa using q)
      simpa using this)
end
end XL
namespace XL
open PySem PySem.Spec PyProof.Rows L2
abbrev sSame : Stmt := topS 17
theorem boot_all : bootBuiltins "all" = some (.builtin "all") := by decide +kernel
theorem boot_bool' : bootBuiltins "bool" = some (.type "bool") := by decide +kernel
theorem boot_str' : bootBuiltins "str" = some (.type "str") := by decide +kernel
theorem boot_int' : bootBuiltins "int" = some (.type "int") := by decide +kernel
section
variable {P : Program} {w : World} {K : PySem.W.Frag} {mg : Str → Option Value} {base : Heap}
def isBS : PyData → Bool
  | .bool _ => true
  | .str _ => true
  | _ => false
def isB : PyData → Bool
  | .bool _ => true
  | _ => false
theorem kitf {a b : String} (h : kitB a b = some false) : PySem.W.kitOne K (.type a) (.type b) = some false := kit_ty h
theorem kitt {a b : String} (h : kitB a b = some true) : PySem.W.kitOne K (.type a) (.type b) = some true := kit_ty h
theorem kit_list (d : PyData) : ∃ b, PySem.W.kitOne K (tyD d) (.type "list") = some b := by cases d <;> first | exact ⟨false, kitf (by decide +kernel)⟩ | exact ⟨true, kitt (by decide +kernel)⟩
theorem kit_tuple (d : PyData) : ∃ b, PySem.W.kitOne K (tyD d) (.type "tuple") = some b := by cases d <;> first | exact ⟨false, kitf (by decide +kernel)⟩ | exact ⟨true, kitt (by decide +kernel)⟩
theorem kit_bool (d : PyData) : PySem.W.kitOne K (tyD d) (.type "bool") = some (isB d) := by cases d <;> first | exact kitf (by decide +kernel) | exact kitt (by decide +kernel)
theorem kit_int (i : Int) : PySem.W.kitOne K (tyD (.int i)) (.type "int") = some true := kitt (by decide +kernel)
theorem bs_kit (d : PyData) : PySem.W.kitAny K (tyD d) [.type "bool", .type "str"] = some (isBS d) := by
  cases d with
  | none => exact kit2 (a := false) (b := false) (by decide +kernel) (by decide +kernel)
  | bool b => exact kit2 (a := true) (b := false) (by decide +kernel) (by decide +kernel)
  | int i => exact kit2 (a := false) (b := false) (by decide +kernel) (by decide +kernel)
  | str x => exact kit2 (a := false) (b := true) (by decide +kernel) (by decide +kernel)
  | list ds => exact kit2 (a := false) (b := false) (by decide +kernel) (by decide +kernel)
  | tuple ds => exact kit2 (a := false) (b := false) (by decide +kernel) (by decide +kernel)
  | dict kvs => exact kit2 (a := false) (b := false) (by decide +kernel) (by decide +kernel)
theorem all_true : ∀ n : Nat, (List.replicate n true).all id = true
  | 0 => rfl
  | n + 1 => by rw [List.replicate_succ, List.all_cons, all_true n]; rfl
theorem eq_true_map : ∀ (ys : List V), (∀ (i : Nat) y, ys[i]? = some y → y = .bl true) → ys = (List.replicate ys.length true).map V.bl
  | [], _ => rfl
  | y :: ys, h => by
    have h0 := h 0 y rfl
    have r := eq_true_map ys fun i z e => h (i + 1) z (by simpa using e)
    rw [List.length_cons, List.replicate_succ, List.map_cons, ← r, h0]
theorem scSame : FnScope ["_law_found", "_law_due", "_law_both", "_law_mine", "_law_yours"] ["_law_found", "_law_due"] (defScope sSame) := ⟨rfl, rfl, rfl, by decide +kernel, rfl, by decide +kernel, by decide +kernel⟩
def spSame (K : PySem.W.Frag) (n : Nat) : Sp := fun vs H Q _ => ∃ (v u : V) (d : PyData), vs = [v, u] ∧ Dp K H v d ∧ Dp K H u d ∧ okD n d ∧ ∀ H' : Hp, Same H H' → Q (.bl true) H'
theorem ok_same {f : Addr} {fd : FuncData} (F : Fun K "_law_same" "_law_same" sSame f fd) (b : Binds K fd ["_law_found", "_law_due"] []) (gF : mg "_law_same" = some (.ref f)) (mi : mg "isinstance" = none) (ml : mg "list" = none) (mt : mg "tuple" = none)
    (mz : mg "zip" = none) (me : mg "len" = none) (ma : mg "all" = none) (mb : mg "bool" = none) (ms : mg "str" = none) (mn : mg "int" = none) :
    ∀ n : Nat, FnOk P w K mg base CX0 n f fd ["_law_found", "_law_due"] (spSame K n)
  | 0 => no_fn fun vs H Q E ⟨v, u, d, _, _, _, h, _⟩ => h
  | n + 1 => by
    have G := ok_same F b gF mi ml mt mz me ma mb ms mn n
    refine F.ok scSame (fun vs H Q E h => ?_) (fun cdv A outer s H vs Q E hr h => ?_)
    · obtain ⟨v, u, d, rfl, _⟩ := h
      rfl
    obtain ⟨v, u, d, rfl, hv, hu, ok, q⟩ := h
    refine ⟨_, pss_cons (ps_if (pt_val (pe_callB call_isiT rfl mi boot_isinstance (pa_cons (pv 1) (pa_cons (pe_tup (pa_cons (pe_bltn (v := .ty "list") rfl ml boot_list rfl) (pa_cons (pe_bltn (v := .ty "tuple") rfl mt boot_tuple rfl) pa_nil))) pa_nil))))
        (pss_cons (ps_if (PW.pt (pw_or (pt_cmpR op_ne (pe_callB call_isi rfl mi boot_isinstance (pa_cons (pv 0) (pa_cons (pe_bltn (v := .ty "list") rfl ml boot_list rfl) pa_nil))) (pe_callB call_isi rfl mi boot_isinstance (pa_cons (pv 1) (pa_cons (pe_bltn (v := .ty "list") rfl ml boot_list rfl) pa_nil))) (nomark _))
              (pw_or1 (pt_cmpR op_ne (pe_callB call_isi rfl mi boot_isinstance (pa_cons (pv 0) (pa_cons (pe_bltn (v := .ty "tuple") rfl mt boot_tuple rfl) pa_nil))) (pe_callB call_isi rfl mi boot_isinstance (pa_cons (pv 1) (pa_cons (pe_bltn (v := .ty "tuple") rfl mt boot_tuple rfl) pa_nil))) (nomark _)))))
            (pss_one (ps_ret pe_bl)) pss_nil)
        (pss_cons (ps_set (i := 2) scSame.nd rfl (.inl rfl) (pe_listZip rfl rfl ml rfl mz (pa_cons (pv 0) (pa_cons (pv 1) pa_nil))))
        (pss_one (ps_ret (pe_and (pe_cmpR op_eq (pe_callB call_len_seq rfl me PySem.boot_len (pa_cons (pv 0) pa_nil)) (pe_callB call_len_seq rfl me PySem.boot_len (pa_cons (pv 1) pa_nil)) (nomark _))
          (pe_one (pe_callB (cr_all rfl) rfl ma boot_all (pa_cons (pe_lc (own := [("_law_mine", 3), ("_law_yours", 4)]) (g := gAny K 2 (gCons (gName 3) (gCons (gName 4) gNil))) (tt := tYes) rfl scSame.nd (pi_seq (pv 2))
            (blkOk_by (own := [("_law_mine", 3), ("_law_yours", 4)]) (N := ["_law_found", "_law_due", "_law_both", "_law_mine", "_law_yours"]) (sc := defScope sSame) (by decide +kernel))
            (fun _ _ _ _ _ => pg_any rfl (pgs_cons (pg_name (i := 3) scSame.nd rfl (Or.inl rfl)) (pgs_cons (pg_name (i := 4) scSame.nd rfl (Or.inl rfl)) pgs_nil))) (fun _ _ _ _ _ => pts_nil)
            (fun _ _ _ _ _ => pe_hide (pe_call G hr rfl gF F.kp b .nil pass0 (pa_cons (pv 3) (pa_cons (pv 4) pa_nil))))) pa_nil)))))))) pss_nil)
      (pss_cons (ps_if (PW.pt (pw_or (pt_cmpR op_isN (pv 1) pe_non (nomark _)) (pw_or1 (pt_val (pe_callB call_isiT rfl mi boot_isinstance (pa_cons (pv 1) (pa_cons (pe_tup (pa_cons (pe_bltn (v := .ty "bool") rfl mb boot_bool' rfl) (pa_cons (pe_bltn (v := .ty "str") rfl ms boot_str' rfl) pa_nil))) pa_nil)))))))
          (pss_one (ps_ret (pe_and (pe_cmpR op_eq (pe_callB call_isi rfl mi boot_isinstance (pa_cons (pv 0) (pa_cons (pe_bltn (v := .ty "bool") rfl mb boot_bool' rfl) pa_nil))) (pe_callB call_isi rfl mi boot_isinstance (pa_cons (pv 1) (pa_cons (pe_bltn (v := .ty "bool") rfl mb boot_bool' rfl) pa_nil))) (nomark _))
            (pe_and (pe_cmpR op_eq (pe_cmpR op_isN (pv 0) pe_non (nomark _)) (pe_cmpR op_isN (pv 1) pe_non (nomark _)) (nomark _)) (pe_one (pe_cmpR op_eq (pv 0) (pv 1) (nomark _))))))) pss_nil)
      (pss_one (ps_ret (pe_and (pe_callB call_isi rfl mi boot_isinstance (pa_cons (pv 0) (pa_cons (pe_bltn (v := .ty "int") rfl mn boot_int' rfl) pa_nil)))
        (pe_and (pe_not (pe_callB call_isi rfl mi boot_isinstance (pa_cons (pv 0) (pa_cons (pe_bltn (v := .ty "bool") rfl mb boot_bool' rfl) pa_nil)))) (pe_one (pe_cmpR op_eq (pv 0) (pv 1) (nomark _)))))))), ?_⟩
    refine ⟨_, rfl, (by show 2 ≤ sizeLine; decide), fun tp np => ?_⟩
    have s1 : Same H (upd H tp (.tup [.ty "list", .ty "tuple"])) := same_new np
    have hv1 := Dp.same s1 d hv
    have hu1 := Dp.same s1 d hu
    refine ⟨u, tp, _, tyD d, _, isSeq d, rfl, upd_same, .cons (.ty _) (.cons (.ty _) .nil), tyx_of hu1, seq_kit d (Dp.nodict hu), isSeq d, rfl, ?_⟩
    obtain ⟨kl, ekl⟩ := kit_list (K := K) d
    obtain ⟨kt, ekt⟩ := kit_tuple (K := K) d
    cases hsq : isSeq d with
    | true =>
      refine iteT ?_
      obtain ⟨a, xs, rfl, hs, hall⟩ := seq_of hv hsq
      obtain ⟨a2, xs2, rfl, hs2, hall2⟩ := seq_of hu hsq
      obtain ⟨hok, hlen⟩ := okD_items ok hsq
      have hx1 : xs.length = (itemsD d).length := DpAll.length hall
      have hx2 : xs2.length = (itemsD d).length := DpAll.length hall2
      -- the kinds are alike
      refine ⟨_, rfl, _, _, _, _, kl, rfl, .ty _, tyx_of hv1, ekl, _, rfl, _, _, _, _, kl, rfl, .ty _, tyx_of hu1, ekl, rfl, _, rfl, iteNS rfl ?_⟩
      refine ⟨_, rfl, _, _, _, _, kt, rfl, .ty _, tyx_of hv1, ekt, _, rfl, _, _, _, _, kt, rfl, .ty _, tyx_of hu1, ekt, rfl, _, rfl, iteNS rfl ?_⟩
      -- the pairs
      refine ⟨_, rfl, _, rfl, a, a2, xs, xs2, rfl, Same.sq2 s1 hs, Same.sq2 s1 hs2, fun L Ts H2 s2 nL eL hTl hT => ?_⟩
      have s12 := s1.trans s2
      refine ⟨_, rfl, a, xs, rfl, Same.sq2 s12 hs, _, rfl, a2, xs2, rfl, Same.sq2 s12 hs2, rfl, _, rfl, ?_⟩
      rw [decide_eq_true (show V.int ((xs.length : Nat) : Int) = V.int ((xs2.length : Nat) : Int) by rw [hx1, hx2])]
      have hn : (Ts.map V.ref).length = (itemsD d).length := by rw [List.length_map, hTl, hx1, hx2, Nat.min_self]
      refine iteT ⟨_, rfl, L, Ts.map V.ref, rfl, .inl (SqL.of eL), fun J wk => lc_map wk Same (fun a b => a.trans b) (fun i y F => y = .bl true) (fun i y A B s p => p) (by rw [hn]; exact small1000 hlen) (Same.refl _) (fun F D acc sF nF => ?_) (fun i x D acc F H' hi nD sF nF hy B hB => ?_) (fun D ys F nD sF nF hl hR => ?_)⟩
      · have sD : Same _ (upd F D (.lst acc)) := sF.trans (same_new nF)
        exact ⟨fun _ z => sD.seq z, fun z => Same.tup sD z⟩
      · obtain ⟨rfl, hx⟩ := hy
        have hx' : ∃ T, Ts[i]? = some T ∧ x = .ref T := by
          rw [List.getElem?_map] at hx
          cases e : Ts[i]? with
          | none => rw [e] at hx; cases hx
          | some T => rw [e] at hx; exact ⟨T, rfl, (Option.some.inj hx).symm⟩
        obtain ⟨T, hTi, rfl⟩ := hx'
        obtain ⟨x1, y1, e1, e2, eT⟩ := hT i T hTi
        obtain ⟨d1, ed1, p1⟩ := DpAll.get hall e1
        obtain ⟨d2, ed2, p2⟩ := DpAll.get hall2 e2
        rw [ed1] at ed2
        cases ed2
        refine ⟨T, [x1, y1], rfl, .inr (.inl (.inl (same_new nF _ _ (sF _ _ eT)))), rfl, x1, [y1], rfl, y1, [], rfl, rfl, ?_⟩
        refine hB _ F rfl nF fun Qt hq => ?_
        exact ⟨x1, rfl, y1, rfl, x1, y1, d1, rfl, Dp.same (s12.trans sF) _ p1, Dp.same (s12.trans sF) _ p2, hok _ (List.mem_of_getElem? ed1), fun H' s' => hq _ _ s' rfl⟩
      · refine ⟨D, List.replicate ys.length true, rfl, ?_, ?_⟩
        · rw [← eq_true_map ys hR]; exact SqL.of upd_same
        · rw [all_true]
          exact q _ (s12.trans (sF.trans (same_new nF)))
    | false =>
      refine iteF ?_
      have fin : ∀ H', Same H H' → Q (.bl true) H' := q
      cases d with
      | list ds => simp [isSeq] at hsq
      | tuple ds => simp [isSeq] at hsq
      | dict kvs => cases hv
      | none =>
        cases hv; cases hu
        refine ⟨_, rfl, rfl, _, rfl, iteT (iteT ?_)⟩
        refine ⟨_, rfl, _, _, _, _, _, rfl, .ty _, tyx_of hv1, kit_bool .none, _, rfl, _, _, _, _, _, rfl, .ty _, tyx_of hu1, kit_bool .none, rfl, _, rfl, iteT ?_⟩
        refine ⟨_, rfl, rfl, _, rfl, rfl, rfl, _, rfl, iteT ?_⟩
        refine ⟨_, rfl, _, rfl, rfl, ?_⟩
        exact fin _ s1
      | bool b0 =>
        cases hv; cases hu
        refine ⟨_, rfl, rfl, _, rfl, iteF ?_⟩
        refine ⟨_, rfl, (by show 2 ≤ sizeLine; decide), fun tq nq => ?_⟩
        have s2 : Same H (upd (upd H tp (.tup [.ty "list", .ty "tuple"])) tq (.tup [.ty "bool", .ty "str"])) := s1.trans (same_new nq)
        refine ⟨_, tq, _, _, _, _, rfl, upd_same, .cons (.ty _) (.cons (.ty _) .nil), tyx_of (Dp.bl b0), bs_kit (.bool b0), _, rfl, iteT ?_⟩
        refine ⟨_, rfl, _, _, _, _, _, rfl, .ty _, tyx_of (Dp.bl b0), kit_bool (.bool b0), _, rfl, _, _, _, _, _, rfl, .ty _, tyx_of (Dp.bl b0), kit_bool (.bool b0), rfl, _, rfl, iteT ?_⟩
        refine ⟨_, rfl, rfl, _, rfl, rfl, rfl, _, rfl, iteT ?_⟩
        refine ⟨_, rfl, _, rfl, rfl, ?_⟩
        have e : decide (V.bl b0 = V.bl b0) = true := decide_eq_true rfl
        have e2 := fin _ s2
        rw [← e] at e2
        exact e2
      | str x0 =>
        cases hv; cases hu
        refine ⟨_, rfl, rfl, _, rfl, iteF ?_⟩
        refine ⟨_, rfl, (by show 2 ≤ sizeLine; decide), fun tq nq => ?_⟩
        have s2 : Same H (upd (upd H tp (.tup [.ty "list", .ty "tuple"])) tq (.tup [.ty "bool", .ty "str"])) := s1.trans (same_new nq)
        refine ⟨_, tq, _, _, _, _, rfl, upd_same, .cons (.ty _) (.cons (.ty _) .nil), tyx_of (Dp.str x0), bs_kit (.str x0), _, rfl, iteT ?_⟩
        refine ⟨_, rfl, _, _, _, _, _, rfl, .ty _, tyx_of (Dp.str x0), kit_bool (.str x0), _, rfl, _, _, _, _, _, rfl, .ty _, tyx_of (Dp.str x0), kit_bool (.str x0), rfl, _, rfl, iteT ?_⟩
        refine ⟨_, rfl, rfl, _, rfl, rfl, rfl, _, rfl, iteT ?_⟩
        refine ⟨_, rfl, _, rfl, rfl, ?_⟩
        have e : decide (V.str x0 = V.str x0) = true := decide_eq_true rfl
        have e2 := fin _ s2
        rw [← e] at e2
        exact e2
      | int i0 =>
        cases hv; cases hu
        refine ⟨_, rfl, rfl, _, rfl, iteF ?_⟩
        refine ⟨_, rfl, (by show 2 ≤ sizeLine; decide), fun tq nq => ?_⟩
        have s2 : Same H (upd (upd H tp (.tup [.ty "list", .ty "tuple"])) tq (.tup [.ty "bool", .ty "str"])) := s1.trans (same_new nq)
        refine ⟨_, tq, _, _, _, _, rfl, upd_same, .cons (.ty _) (.cons (.ty _) .nil), tyx_of (Dp.int i0), bs_kit (.int i0), _, rfl, iteF ?_⟩
        refine ⟨_, rfl, _, _, _, _, _, rfl, .ty _, tyx_of (Dp.int i0), kit_int i0, _, rfl, iteT ?_⟩
        refine ⟨_, rfl, _, _, _, _, _, rfl, .ty _, tyx_of (Dp.int i0), kit_bool (.int i0), _, rfl, _, rfl, iteT ?_⟩
        refine ⟨_, rfl, _, rfl, rfl, ?_⟩
        have e : decide (V.int i0 = V.int i0) = true := decide_eq_true rfl
        have e2 := fin _ s2
        rw [← e] at e2
        exact e2
end
end XL
namespace XL
open PySem PySem.Spec PyProof.Rows L2
abbrev sCells : Stmt := topS 18
abbrev sBox : Stmt := topS 19
theorem boot_enumerate' : bootBuiltins "enumerate" = some (.type "enumerate") := by decide +kernel
theorem boot_abs' : bootBuiltins "abs" = some (.builtin "abs") := by decide +kernel
section
variable {P : Program} {w : World} {K : PySem.W.Frag} {mg : Str → Option Value} {base : Heap}
theorem cut_ints (ns : List Int) (lo hi : Option Int) : cutV (ns.map V.int) lo hi = ((ns.drop (HT.sIx ns.length 0 lo)).take (HT.sIx ns.length ns.length hi - HT.sIx ns.length 0 lo)).map V.int := by
  unfold cutV
  rw [List.length_map, List.map_take, List.map_drop]
theorem set_ints : ∀ (zs : List Int) (j : Nat) (v : Int), (zs.map V.int).set j (.int v) = (zs.set j v).map V.int
  | [], _, _ => rfl
  | z :: zs, 0, v => rfl
  | z :: zs, j + 1, v => by
    show .int z :: (zs.map V.int).set j (.int v) = .int z :: (zs.set j v).map V.int
    rw [set_ints zs j v]
/-! ### _law_cells -/
theorem scCells : FnScope ["_law_script", "_law_utmost", "_law_cells_here", "_law_k", "_law_cell"] ["_law_script", "_law_utmost"] (defScope sCells) := ⟨rfl, rfl, rfl, by decide +kernel, rfl, by decide +kernel, by decide +kernel⟩
def spCells (K : PySem.W.Frag) : Sp := fun vs H Q _ => ∃ (a : Addr) (ns : List Int) (m : Nat), vs = [.ref a, .int m] ∧ SqL K H a (ns.map V.int) ∧ ns.length ≤ 63 ∧ 1 ≤ m ∧ m ≤ 5 ∧
  ∀ (p : Addr) (zs : List Int) (H' : Hp), Same H H' → H p = none → H' p = some (.lst (zs.map V.int)) → 1 ≤ zs.length → zs.length ≤ m → Q (.ref p) H'
theorem ok_cells {f : Addr} {fd : FuncData} {k : Nat} (F : Fun K "_law_cells" "_law_cells" sCells f fd) (ml : mg "list" = none) (me : mg "enumerate" = none) : FnOk P w K mg base CX0 (k + 1) f fd ["_law_script", "_law_utmost"] (spCells K) := by
  refine F.ok scCells (fun vs H Q E h => ?_) (fun cdv A outer s H vs Q E hr h => ?_)
  · obtain ⟨a, ns, m, rfl, _⟩ := h
    rfl
  obtain ⟨a, ns, m, rfl, ha, hn, m1, m2, q⟩ := h
  have tail : ∃ t, PSs (cxOf CX0 P w K mg base ["_law_script", "_law_utmost", "_law_cells_here", "_law_k", "_law_cell"] "_law_cells" (defScope sCells) f cdv A outer s H E).nox ((defBody sCells).drop 1) t ∧
      ∀ (c : Addr) (zs : List Int) (H2 : Hp), Same H H2 → H c = none → H2 c = some (.lst (zs.map V.int)) → 1 ≤ zs.length → zs.length ≤ m → (m < ns.length → zs.length = m) →
        t { nx := fun _ H' => Q .non H', rt := Q } [some (.ref a), some (.int m), some (.ref c), none, none] H2 := by
    refine ⟨_, pss_cons (ps_for PassesOwn.never rfl (pi_enum (by rfl) me (pa_cons (pe_slice sl_list (pv 0) (po_some (pv 1)) (po_some pe_int)) pa_nil)) (pg_tup rfl (pgs_cons (pg_name (i := 3) scCells.nd rfl (.inl rfl)) (pgs_cons (pg_name (i := 4) scCells.nd rfl (.inl rfl)) pgs_nil)))
        (pss_one (ps_asg (pe_op op_add (pe_ix ix_list (pv 2) (pe_op op_modN (pv 3) (pv 1)) (fun _ _ => rfl)) (pe_op op_mul (pv 4) (pe_op op_add (pv 3) pe_int))) (pg_sub (pv 2) (pe_op op_modN (pv 3) (pv 1)) set_list))))
      (pss_one (ps_ret (pv 2))), fun c zs H2 s2 nc ec z1 z2 z3 => ?_⟩
    refine ⟨_, rfl, _, rfl, (m : Int), rfl, 63, rfl, a, _, rfl, s2.seq ha, fun p np => ?_⟩
    rw [cut_ints]
    generalize hes : ((ns.drop (HT.sIx ns.length 0 (some (m : Int)))).take (HT.sIx ns.length ns.length (some 63) - HT.sIx ns.length 0 (some (m : Int)))) = es
    have hel : 0 < es.length → m < ns.length := fun h => by
      rw [← hes, List.length_take, List.length_drop, HT.sIx_nat] at h
      omega
    have hel2 : es.length ≤ 63 := by
      rw [← hes, List.length_take, List.length_drop]
      omega
    have s3 : Same H (upd H2 p (.lst (es.map V.int))) := s2.trans (same_new np)
    have cp : c ≠ p := ne_of_none ec np
    refine ⟨p, es.map V.int, rfl, SqL.of upd_same, for_it (walk_enum (xs := es.map V.int)) (fun i σ H3 => ∃ (ws : List Int) (y3 y4 : Option V), σ = [some (.ref a), some (.int m), some (.ref c), y3, y4] ∧ Same H H3 ∧ H3 p = some (.lst (es.map V.int)) ∧ H3 c = some (.lst (ws.map V.int)) ∧ ws.length = zs.length)
      ⟨zs, none, none, rfl, s3, upd_same, by rw [upd_ne cp]; exact ec, rfl⟩ (fun i σ H3 _ h => ?_) (fun i x σ H3 H4 hi h hy => ?_) (fun σ H3 h => ?_)⟩
    · obtain ⟨_, _, _, _, _, e, _⟩ := h
      exact SqL.of e
    · obtain ⟨ws, y3, y4, rfl, sm, ep, ew, wl⟩ := h
      obtain ⟨T, x1, x2, rfl, nT, rfl, e1, e2⟩ := hy
      have hi' : i < es.length := by rw [List.length_map] at hi; exact hi
      have e1' : x1 = .int (i : Nat) := (Option.some.inj e1).symm
      have e2' : x2 = .int es[i] := by
        have e3 : (es.map V.int)[i]? = some x2 := e2
        rw [List.getElem?_map, List.getElem?_eq_getElem hi'] at e3
        exact (Option.some.inj e3).symm
      subst e1' e2'
      have sT : Same H3 (upd H3 T (.tup [.int (i : Nat), .int es[i]])) := same_new nT
      have wm : ws.length = m := by rw [wl]; exact z3 (hel (by omega))
      have fm := fmod_lt (a := (i : Int)) (n := (m : Int)) (by omega)
      have hj : ((i : Int).fmod (m : Int)).toNat < ws.length := by omega
      refine ⟨T, _, rfl, .inl (.inl upd_same), rfl, _, _, rfl, _, _, rfl, rfl, ?_⟩
      have ewT := sT _ _ ew
      have aw : atI (ws.map V.int) ((i : Int).fmod (m : Int)) = some (.int ws[((i : Int).fmod (m : Int)).toNat]) := atI_int fm.1 (by rw [List.getElem?_map, List.getElem?_eq_getElem hj]; rfl)
      refine ⟨_, rfl, _, rfl, _, rfl, _, _, rfl, rfl, by omega, c, _, _, _, rfl, rfl, SqL.of ewT, aw, _, rfl, _, rfl, _, _, rfl, rfl, _, _, rfl, rfl, .inr ⟨by omega, by omega⟩, _, _, rfl, rfl, ?_⟩
      refine ⟨_, rfl, _, rfl, _, rfl, _, _, rfl, rfl, by omega, c, _, _, ((i : Int).fmod (m : Int)).toNat, rfl, rfl, ewT, ?_, ?_⟩
      · unfold ixN
        rw [if_pos fm.1, if_pos (by rw [List.length_map]; omega)]
      · refine ⟨_, _, _, rfl, fun b o e => ?_, ?_, by rw [set_ints, upd_same], by rw [List.length_set]; exact wl⟩
        · rw [upd_ne (ne_of_none e nc)]; exact sT _ _ (sm _ _ e)
        · rw [upd_ne cp.symm]; exact sT _ _ ep
    · obtain ⟨ws, y3, y4, rfl, sm, ep, ew, wl⟩ := h
      exact ⟨_, rfl, q c ws H3 sm nc ew (by omega) (by omega)⟩
  obtain ⟨t, ht, hgo⟩ := tail
  refine ⟨_, pss_cons (ps_set (i := 2) scCells.nd rfl (.inl rfl) (pe_orT (pe_callTy call_list_of rfl ml boot_list (pa_cons (pe_slice sl_list (pv 0) po_none (po_some (pv 1))) pa_nil)) (pe_one (pe_lst (pa_cons pe_int pa_nil))))) ht, ?_⟩
  -- list(script[:utmost])
  refine ⟨_, rfl, _, rfl, (m : Int), rfl, a, _, rfl, ha, fun p np => ?_⟩
  have s1 : Same H (upd H p (.lst (cutV (ns.map V.int) none (some (m : Int))))) := same_new np
  refine ⟨p, _, rfl, .inl (SqL.of upd_same), fun c nc => ?_⟩
  have e0 : cutV (ns.map V.int) none (some (m : Int)) = (ns.take m).map V.int := by
    rw [cut_ints, HT.sIx_none, HT.sIx_nat, List.drop_zero, Nat.sub_zero]
    congr 1
    rcases Nat.le_total m ns.length with h | h
    · rw [Nat.min_eq_left h]
    · rw [Nat.min_eq_right h, List.take_of_length_le (Nat.le_refl _), List.take_of_length_le h]
  rw [e0] at nc s1 ⊢
  have s2 := s1.trans (same_new nc (o := .lst ((ns.take m).map V.int)))
  refine ⟨!((ns.take m).map V.int).isEmpty, .inl ⟨_, SqL.of upd_same, rfl⟩, ?_⟩
  cases hns : ns with
  | nil =>
    have em : ((([] : List Int).take m).map V.int) = [] := by rw [List.take_nil]; rfl
    rw [em]
    refine iteF ⟨(by show 1 ≤ sizeLine; decide), fun c2 nc2 => ?_⟩
    subst hns
    rw [em] at s2
    exact hgo c2 [0] _ (s2.trans (same_new nc2)) (s2.free nc2) upd_same (Nat.le_refl _) m1 (fun h => by simp at h)
  | cons n0 r =>
    obtain ⟨m', rfl⟩ : ∃ m', m = m' + 1 := ⟨m - 1, by omega⟩
    rw [← hns]
    have e1 : (ns.take (m' + 1)).map V.int ≠ [] := by rw [hns]; simp
    have e2 : (!((ns.take (m' + 1)).map V.int).isEmpty) = true := by
      cases h : (ns.take (m' + 1)).map V.int with
      | nil => exact absurd h e1
      | cons _ _ => rfl
    rw [e2]
    have hl : (ns.take (m' + 1)).length = min (m' + 1) ns.length := List.length_take
    have hn1 : 1 ≤ ns.length := by rw [hns]; simp
    exact iteT (hgo c (ns.take (m' + 1)) _ s2 (s1.free nc) upd_same (by omega) (by omega) (fun h => by omega))
/-! ### _law_box -/
theorem b01 (b : Bool) : -2 ^ 64 < (if b = true then (1 : Int) else 0) ∧ (if b = true then (1 : Int) else 0) < 2 ^ 64 := by cases b <;> decide
theorem scBox : FnScope ["_law_cells_here", "_law_k", "_law_cell"] ["_law_cells_here", "_law_k"] (defScope sBox) := ⟨rfl, rfl, rfl, by decide +kernel, rfl, by decide +kernel, by decide +kernel⟩
def spBox (K : PySem.W.Frag) : Sp := fun vs H Q _ => ∃ (a : Addr) (zs : List Int) (k : Nat), vs = [.ref a, .int k] ∧ SqL K H a (zs.map V.int) ∧ k < zs.length ∧
  ∀ (b : Addr) (x y : Int), H b = none → Q (.ref b) (upd H b (.lst [.int x, .int y, .int 0]))
theorem ok_box {f : Addr} {fd : FuncData} {k : Nat} (F : Fun K "_law_box" "_law_box" sBox f fd) (ma : mg "abs" = none) (mi : mg "int" = none) : FnOk P w K mg base CX0 (k + 1) f fd ["_law_cells_here", "_law_k"] (spBox K) := by
  refine F.ok scBox (fun vs H Q E h => ?_) (fun cdv A outer s H vs Q E hr h => ?_)
  · obtain ⟨a, zs, k, rfl, _⟩ := h
    rfl
  obtain ⟨a, zs, k, rfl, ha, hk, q⟩ := h
  refine ⟨_, pss_cons (ps_set (i := 2) scBox.nd rfl (.inl rfl) (pe_ix ix_list (pv 0) (pv 1) (fun _ _ => rfl)))
    (pss_one (ps_ret (pe_lst (pa_cons (pe_op op_mul (pe_callB call_abs rfl ma boot_abs' (pa_cons (pv 2) pa_nil)) (pe_callTy call_int1 rfl mi boot_int' (pa_cons (pe_cmpR op_ge (pe_callB call_abs rfl ma boot_abs' (pa_cons (pv 2) pa_nil)) (pe_op op_pow pe_int pe_int) (nomark _)) pa_nil)))
      (pa_cons (pe_op op_add (pe_op op_add (pe_op op_modN (pv 2) pe_int) (pe_op op_mul pe_int (pv 1))) pe_int) (pa_cons pe_int pa_nil)))))), ?_⟩
  have hx : atI (zs.map V.int) ((k : Nat) : Int) = some (.int zs[k]) := atI_nat (by rw [List.getElem?_map, List.getElem?_eq_getElem hk]; rfl)
  refine ⟨_, rfl, _, rfl, a, _, _, _, rfl, rfl, ha, hx, ?_⟩
  refine ⟨_, rfl, _, rfl, _, rfl, _, rfl, _, _, rfl, rfl, ⟨by decide, by decide, by decide⟩, _, _, rfl, rfl, .inr ⟨_, rfl, _, _, rfl, rfl, .inr ?_, ?_⟩⟩
  · exact b01 _
  · refine ⟨_, rfl, _, _, rfl, rfl, (by show (2305843009213693951 : Int) ≠ 0; decide), _, rfl, _, _, rfl, rfl, .inl ⟨by decide, by decide⟩, _, _, rfl, rfl, _, _, rfl, rfl, (by show 3 ≤ sizeLine; decide), fun b nb => ?_⟩
    exact q b _ _ nb
end
end XL
namespace XL
open PySem PySem.Spec PyProof.Rows L2
def bs : Nat → Nat
  | 0 => 0 | 1 => 0 | 2 => 0 | 3 => 1 | 4 => 1 | 5 => 1 | 6 => 2 | 7 => 2 | 8 => 2 | _ => 3
def bN : Nat → String
  | 0 => "ValueError" | 1 => "LookupError" | 2 => "RuntimeError" | _ => "OverflowError"
def bW : Nat → String
  | 0 => "ValueError.__new__" | 1 => "LookupError.__new__" | 2 => "RuntimeError.__new__" | _ => "OverflowError.__new__"
def bI : Nat → String
  | 0 => "ValueError.__init__" | 1 => "LookupError.__init__" | 2 => "RuntimeError.__init__" | _ => "OverflowError.__init__"
def bM : Nat → List Value
  | 0 => [.type "ValueError", .type "Exception", .type "BaseException", .type "object"]
  | 1 => [.type "LookupError", .type "Exception", .type "BaseException", .type "object"]
  | 2 => [.type "RuntimeError", .type "Exception", .type "BaseException", .type "object"]
  | _ => [.type "OverflowError", .type "ArithmeticError", .type "Exception", .type "BaseException", .type "object"]
def fld : Nat → Str
  | 0 => "at" | 1 => "lock" | 2 => "basin" | 3 => "lock" | 4 => "basin" | 5 => "many" | 6 => "going" | 7 => "no" | 8 => "many" | _ => "many"
abbrev ExK (K : PySem.W.Frag) (C : Addr) (b : Nat) : Prop := ExF K C (bN b) (bW b) (bI b) (bM b)
/-- what the written part says of the ten -/
structure Tab (K : PySem.W.Frag) (C fI : Nat → Addr) : Prop where
  ex : ∀ k, k < 10 → ExK K (C k) (bs k)
  ini : ∀ k, k < 10 → PySem.W.findIn K (.ref (C k)) "__init__" = some (some (.ref (fI k)))
  tI : ∀ k, k < 10 → PySem.W.typeIn K (.ref (fI k)) = some (.type "function")
  no : ∀ k, k < 10 → k ≠ 7 → PySem.W.findIn K (.ref (C k)) (fld k) = some none
  inj : ∀ j k, j < 10 → k < 10 → C j = C k → j = k
  ty : ∀ k, k < 10 → PySem.W.typeIn K (.ref (C k)) = some (.type "type")
theorem bM_ref (b : Nat) (D : Addr) : (bM b).contains (.ref D) = false := by
  unfold bM
  split <;> rfl
theorem cls_mro {K : PySem.W.Frag} {C : Addr} {B newId initId : String} {bm : List Value} (T : ExF K C B newId initId bm) (v : Value) : (PySem.W.clsIn K C).isSome = true ∧ PySem.W.mroIn K C v = some ((Value.ref C :: bm).contains v) := by
  obtain ⟨nm, q, N, bs, sn, sub, ab, col, dd, k0, k1, k2, k3, k5, hC⟩ := T.cls
  have hcl : PySem.W.clsIn K C = some { name := nm, bases := bs, mro := .ref C :: bm, ns := N, qualname := q, hasDict := true, slotNames := sn, subclasses := sub, abstract := ab, collection := col, hasDel := false } := by unfold PySem.W.clsIn; rw [hC] <;> rfl
  refine ⟨by rw [hcl]; rfl, ?_⟩
  unfold PySem.W.mroIn
  rw [hcl]
  rfl
theorem Tab.kit {K : PySem.W.Frag} {C fI : Nat → Addr} (T : Tab K C fI) {j k : Nat} (hj : j < 10) (hk : k < 10) : PySem.W.kitOne K (.ref (C k)) (.ref (C j)) = some (decide (j = k)) := by
  unfold PySem.W.kitOne
  by_cases e : j = k
  · subst e
    rw [if_pos (beq_self_eq_true _), decide_eq_true rfl]
  · have hn : (Value.ref (C k) == Value.ref (C j)) = false := by
      rw [beq_eq_false_iff_ne]
      intro z
      exact e (T.inj j k hj hk (Value.ref.inj z).symm)
    rw [hn, if_neg Bool.false_ne_true, decide_eq_false e]
    show (if ((PySem.W.clsIn K (C j)).isSome && PySem.W.typeIn K (.ref (C j)) == some (.type "type")) = true then PySem.W.mroIn K (C k) (.ref (C j)) else none) = some false
    rw [(cls_mro (T.ex j hj) .none).1, T.ty j hj, (cls_mro (T.ex k hk) (.ref (C j))).2, List.contains_cons, bM_ref]
    have hn2 : (Value.ref (C j) == Value.ref (C k)) = false := by
      rw [beq_eq_false_iff_ne]
      intro z
      exact e (T.inj j k hj hk (Value.ref.inj z))
    rw [hn2]
    rfl
theorem Tab.kitT {K : PySem.W.Frag} {C fI : Nat → Addr} (T : Tab K C fI) {k : Nat} {t : String} {r : Bool} (hk : k < 10) (hm : PySem.W.kitMeta t = true) (hc : (bM (bs k)).contains (.type t) = r) : PySem.W.kitOne K (.ref (C k)) (.type t) = some r := by
  unfold PySem.W.kitOne
  have hn : (Value.ref (C k) == Value.type t) = false := by
    rw [beq_eq_false_iff_ne]
    exact fun z => nomatch z
  rw [hn, if_neg Bool.false_ne_true]
  show (if PySem.W.kitMeta t = true then PySem.W.mroIn K (C k) (.type t) else none) = some r
  have hn2 : (Value.type t == Value.ref (C k)) = false := by
    rw [beq_eq_false_iff_ne]
    exact fun z => nomatch z
  rw [if_pos hm, (cls_mro (T.ex k hk) (.type t)).2, List.contains_cons, hc, hn2, Bool.false_or]
/-! ### the ten as values -/
/-- v is the k-th kind of error, made of y -/
def Em (C : Nat → Addr) (H : Hp) (v : V) (k : Nat) (y : V) : Prop := ∃ (a : Addr) (d : Option Addr), v = .ref a ∧ H a = some (exo a (C k) d) ∧ (k = 7 → d = none) ∧ (k ≠ 7 → ∃ dd, d = some dd ∧ H dd = some (exd dd [(fld k, y)]))
theorem Em.same {C : Nat → Addr} {H H' : Hp} {v y : V} {k : Nat} (s : Same H H') (h : Em C H v k y) : Em C H' v k y := by
  obtain ⟨a, d, e, h1, h2, h3⟩ := h
  exact ⟨a, d, e, s _ _ h1, h2, fun n => by obtain ⟨dd, e1, e2⟩ := h3 n; exact ⟨dd, e1, s _ _ e2⟩⟩
theorem Em.dict {C : Nat → Addr} {H : Hp} {v y : V} {k : Nat} (h : Em C H v k y) : ∃ (a : Addr) (d : Option Addr), v = .ref a ∧ H a = some (exo a (C k) d) ∧ ∀ dd, d = some dd → ∃ fs, H dd = some (exd dd fs) := by
  obtain ⟨a, d, e, h1, h2, h3⟩ := h
  refine ⟨a, d, e, h1, fun dd z => ?_⟩
  by_cases k7 : k = 7
  · rw [h2 k7] at z; cases z
  · obtain ⟨dd', e1, e2⟩ := h3 k7
    rw [e1] at z; cases z
    exact ⟨_, e2⟩
theorem PE.imp {X : Cx} {e : Expr} {t t' : TE} (h : PE X e t) (i : ∀ σ H Q, t' σ H Q → t σ H Q) : PE X e t' := ⟨fun pins s σ H Q I q => h.run pins s σ H Q I (i σ H Q q)⟩
def spI (c : Addr) (f : Str) : Sp := fun vs H Q _ => ∃ (a : Addr) (y : V), vs = [.ref a, y] ∧ H a = some (exo a c none) ∧ ∀ dx, H dx = none → dx ≠ a → Q .non (upd (upd H dx (exd dx [(f, y)])) a (exo a c (some dx)))
def spI0 (c : Addr) : Sp := fun vs H Q _ => ∃ a : Addr, vs = [.ref a] ∧ H a = some (exo a c none) ∧ Q .non H
section
variable {P : Program} {w : World} {K : PySem.W.Frag} {mg : Str → Option Value} {base : Heap}
/-- the k-th __init__ -/
structure Ini (P : Program) (w : World) (K : PySem.W.Frag) (mg : Str → Option Value) (base : Heap) (nm : Str) (c f : Addr) (fd : FuncData) (fl : Str) : Prop where
  ok : FnOk P w K mg base CX0 1 f fd ["self", fl] (spI c fl)
  g : mg nm = some (.ref c)
  b : Binds K fd ["self", fl] []
  kb : ∀ (s : Shared) (a : Addr) (z : Value), K.In s.heap → (2 : Nat) = (["self", fl] : List Str).length → BindsTo s fd ⟨[.ref a], [(fl, z)]⟩ ((["self", fl] : List Str).zip [.ref a, z])
theorem kbi {x qual p : Str} {st : Stmt} {f : Addr} {fd : FuncData} (F : Fun K x qual st f fd)
    (h : ∀ (kV doc pm : Value) (an : Option Addr) (cdv ct v u : Value), bindArgs (PySem.W.fnOf x qual (defArgs st) (defBody st) (defScope st) .none kV doc pm an cdv ct) ⟨[v], [(p, u)]⟩ = pure [(("self" : Str), v), (p, u)]) :
    ∀ (s : Shared) (a : Addr) (z : Value), K.In s.heap → (2 : Nat) = (["self", p] : List Str).length → BindsTo s fd ⟨[.ref a], [(p, z)]⟩ ((["self", p] : List Str).zip [.ref a, z]) := by
  obtain ⟨oc, od, kV, doc, pm, an, cdv, ct, osl, rfl, lk, hcd⟩ := F.ex
  intro s a z _ _
  exact .of_eq (h kV doc pm an cdv ct (.ref a) z)
theorem boot_ValueError : bootBuiltins "ValueError" = some (.type "ValueError") := by decide +kernel
theorem tyf_ValueError : typeOf (.type "ValueError") = pure (.type "type") := PySem.W.kitMeta_of (by decide +kernel)
theorem fnd_ValueError : PySem.W.findCls K (.type "ValueError") (.type "type") "__init__" = some (.val (.builtin "ValueError.__init__")) := by rfl
theorem stb_ValueError : Manifest.isStub "ValueError" = false := by decide +kernel
theorem hnd_ValueError : PySem.W.handedIn (.builtin "ValueError.__init__") = true := by decide +kernel
theorem boot_LookupError : bootBuiltins "LookupError" = some (.type "LookupError") := by decide +kernel
theorem tyf_LookupError : typeOf (.type "LookupError") = pure (.type "type") := PySem.W.kitMeta_of (by decide +kernel)
theorem fnd_LookupError : PySem.W.findCls K (.type "LookupError") (.type "type") "__init__" = some (.val (.builtin "LookupError.__init__")) := by rfl
theorem stb_LookupError : Manifest.isStub "LookupError" = false := by decide +kernel
theorem hnd_LookupError : PySem.W.handedIn (.builtin "LookupError.__init__") = true := by decide +kernel
theorem boot_RuntimeError : bootBuiltins "RuntimeError" = some (.type "RuntimeError") := by decide +kernel
theorem tyf_RuntimeError : typeOf (.type "RuntimeError") = pure (.type "type") := PySem.W.kitMeta_of (by decide +kernel)
theorem fnd_RuntimeError : PySem.W.findCls K (.type "RuntimeError") (.type "type") "__init__" = some (.val (.builtin "RuntimeError.__init__")) := by rfl
theorem stb_RuntimeError : Manifest.isStub "RuntimeError" = false := by decide +kernel
theorem hnd_RuntimeError : PySem.W.handedIn (.builtin "RuntimeError.__init__") = true := by decide +kernel
theorem boot_OverflowError : bootBuiltins "OverflowError" = some (.type "OverflowError") := by decide +kernel
theorem tyf_OverflowError : typeOf (.type "OverflowError") = pure (.type "type") := PySem.W.kitMeta_of (by decide +kernel)
theorem fnd_OverflowError : PySem.W.findCls K (.type "OverflowError") (.type "type") "__init__" = some (.val (.builtin "OverflowError.__init__")) := by rfl
theorem stb_OverflowError : Manifest.isStub "OverflowError" = false := by decide +kernel
theorem hnd_OverflowError : PySem.W.handedIn (.builtin "OverflowError.__init__") = true := by decide +kernel
abbrev sI0 : Stmt := inClass (topS 1) 0
theorem scI0 : FnScope ["self", "at"] ["self", "at"] (defScope sI0) := ⟨rfl, rfl, rfl, by decide +kernel, rfl, by decide +kernel, by decide +kernel⟩
theorem ok_I0 {f c : Addr} {fd : FuncData} (F : Fun K "__init__" "BadRow.__init__" sI0 f fd) (T : ExK K c 0) (no : PySem.W.findIn K (.ref c) "at" = some none) (mB : mg "ValueError" = none) : FnOk P w K mg base CX0 1 f fd ["self", "at"] (spI c "at") := by
  refine F.ok scI0 (fun vs H Q E h => ?_) (fun cdv A outer s H vs Q E hr h => ?_)
  · obtain ⟨a, y, rfl, _⟩ := h
    rfl
  obtain ⟨a, y, rfl, ea, q⟩ := h
  refine ⟨_, pss_cons (ps_expr (pe_binit (B := "ValueError") (newId := bW 0) (initId := "ValueError.__init__") (bm := bM 0) rfl mB boot_ValueError tyf_ValueError fnd_ValueError (pa_cons (pv 0) (pa_cons pe_str pa_nil)) (by decide) (by decide) stb_ValueError hnd_ValueError))
    (pss_one (ps_os1 (B := "ValueError") (newId := bW 0) (initId := "ValueError.__init__") (bm := bM 0) (pv 0) (pv 1))), ?_⟩
  refine ⟨_, rfl, a, c, _, rfl, (by show 1 ≤ 1000; decide), T, ea, ?_⟩
  exact ⟨_, rfl, _, rfl, a, c, rfl, T, no, ea, fun dx n ne => q dx n ne⟩
abbrev sI1 : Stmt := inClass (topS 2) 0
theorem scI1 : FnScope ["self", "lock"] ["self", "lock"] (defScope sI1) := ⟨rfl, rfl, rfl, by decide +kernel, rfl, by decide +kernel, by decide +kernel⟩
theorem ok_I1 {f c : Addr} {fd : FuncData} (F : Fun K "__init__" "Loose.__init__" sI1 f fd) (T : ExK K c 0) (no : PySem.W.findIn K (.ref c) "lock" = some none) (mB : mg "ValueError" = none) : FnOk P w K mg base CX0 1 f fd ["self", "lock"] (spI c "lock") := by
  refine F.ok scI1 (fun vs H Q E h => ?_) (fun cdv A outer s H vs Q E hr h => ?_)
  · obtain ⟨a, y, rfl, _⟩ := h
    rfl
  obtain ⟨a, y, rfl, ea, q⟩ := h
  refine ⟨_, pss_cons (ps_expr (pe_binit (B := "ValueError") (newId := bW 0) (initId := "ValueError.__init__") (bm := bM 0) rfl mB boot_ValueError tyf_ValueError fnd_ValueError (pa_cons (pv 0) (pa_cons pe_str pa_nil)) (by decide) (by decide) stb_ValueError hnd_ValueError))
    (pss_one (ps_os1 (B := "ValueError") (newId := bW 0) (initId := "ValueError.__init__") (bm := bM 0) (pv 0) (pv 1))), ?_⟩
  refine ⟨_, rfl, a, c, _, rfl, (by show 1 ≤ 1000; decide), T, ea, ?_⟩
  exact ⟨_, rfl, _, rfl, a, c, rfl, T, no, ea, fun dx n ne => q dx n ne⟩
abbrev sI2 : Stmt := inClass (topS 3) 0
theorem scI2 : FnScope ["self", "basin"] ["self", "basin"] (defScope sI2) := ⟨rfl, rfl, rfl, by decide +kernel, rfl, by decide +kernel, by decide +kernel⟩
theorem ok_I2 {f c : Addr} {fd : FuncData} (F : Fun K "__init__" "Others.__init__" sI2 f fd) (T : ExK K c 0) (no : PySem.W.findIn K (.ref c) "basin" = some none) (mB : mg "ValueError" = none) : FnOk P w K mg base CX0 1 f fd ["self", "basin"] (spI c "basin") := by
  refine F.ok scI2 (fun vs H Q E h => ?_) (fun cdv A outer s H vs Q E hr h => ?_)
  · obtain ⟨a, y, rfl, _⟩ := h
    rfl
  obtain ⟨a, y, rfl, ea, q⟩ := h
  refine ⟨_, pss_cons (ps_expr (pe_binit (B := "ValueError") (newId := bW 0) (initId := "ValueError.__init__") (bm := bM 0) rfl mB boot_ValueError tyf_ValueError fnd_ValueError (pa_cons (pv 0) (pa_cons pe_str pa_nil)) (by decide) (by decide) stb_ValueError hnd_ValueError))
    (pss_one (ps_os1 (B := "ValueError") (newId := bW 0) (initId := "ValueError.__init__") (bm := bM 0) (pv 0) (pv 1))), ?_⟩
  refine ⟨_, rfl, a, c, _, rfl, (by show 1 ≤ 1000; decide), T, ea, ?_⟩
  exact ⟨_, rfl, _, rfl, a, c, rfl, T, no, ea, fun dx n ne => q dx n ne⟩
abbrev sI3 : Stmt := inClass (topS 4) 0
theorem scI3 : FnScope ["self", "lock"] ["self", "lock"] (defScope sI3) := ⟨rfl, rfl, rfl, by decide +kernel, rfl, by decide +kernel, by decide +kernel⟩
theorem ok_I3 {f c : Addr} {fd : FuncData} (F : Fun K "__init__" "NoLock.__init__" sI3 f fd) (T : ExK K c 1) (no : PySem.W.findIn K (.ref c) "lock" = some none) (mB : mg "LookupError" = none) : FnOk P w K mg base CX0 1 f fd ["self", "lock"] (spI c "lock") := by
  refine F.ok scI3 (fun vs H Q E h => ?_) (fun cdv A outer s H vs Q E hr h => ?_)
  · obtain ⟨a, y, rfl, _⟩ := h
    rfl
  obtain ⟨a, y, rfl, ea, q⟩ := h
  refine ⟨_, pss_cons (ps_expr (pe_binit (B := "LookupError") (newId := bW 1) (initId := "LookupError.__init__") (bm := bM 1) rfl mB boot_LookupError tyf_LookupError fnd_LookupError (pa_cons (pv 0) (pa_cons pe_str pa_nil)) (by decide) (by decide) stb_LookupError hnd_LookupError))
    (pss_one (ps_os1 (B := "LookupError") (newId := bW 1) (initId := "LookupError.__init__") (bm := bM 1) (pv 0) (pv 1))), ?_⟩
  refine ⟨_, rfl, a, c, _, rfl, (by show 1 ≤ 1000; decide), T, ea, ?_⟩
  exact ⟨_, rfl, _, rfl, a, c, rfl, T, no, ea, fun dx n ne => q dx n ne⟩
abbrev sI4 : Stmt := inClass (topS 5) 0
theorem scI4 : FnScope ["self", "basin"] ["self", "basin"] (defScope sI4) := ⟨rfl, rfl, rfl, by decide +kernel, rfl, by decide +kernel, by decide +kernel⟩
theorem ok_I4 {f c : Addr} {fd : FuncData} (F : Fun K "__init__" "NoBasin.__init__" sI4 f fd) (T : ExK K c 1) (no : PySem.W.findIn K (.ref c) "basin" = some none) (mB : mg "LookupError" = none) : FnOk P w K mg base CX0 1 f fd ["self", "basin"] (spI c "basin") := by
  refine F.ok scI4 (fun vs H Q E h => ?_) (fun cdv A outer s H vs Q E hr h => ?_)
  · obtain ⟨a, y, rfl, _⟩ := h
    rfl
  obtain ⟨a, y, rfl, ea, q⟩ := h
  refine ⟨_, pss_cons (ps_expr (pe_binit (B := "LookupError") (newId := bW 1) (initId := "LookupError.__init__") (bm := bM 1) rfl mB boot_LookupError tyf_LookupError fnd_LookupError (pa_cons (pv 0) (pa_cons pe_str pa_nil)) (by decide) (by decide) stb_LookupError hnd_LookupError))
    (pss_one (ps_os1 (B := "LookupError") (newId := bW 1) (initId := "LookupError.__init__") (bm := bM 1) (pv 0) (pv 1))), ?_⟩
  refine ⟨_, rfl, a, c, _, rfl, (by show 1 ≤ 1000; decide), T, ea, ?_⟩
  exact ⟨_, rfl, _, rfl, a, c, rfl, T, no, ea, fun dx n ne => q dx n ne⟩
abbrev sI5 : Stmt := inClass (topS 6) 0
theorem scI5 : FnScope ["self", "many"] ["self", "many"] (defScope sI5) := ⟨rfl, rfl, rfl, by decide +kernel, rfl, by decide +kernel, by decide +kernel⟩
theorem ok_I5 {f c : Addr} {fd : FuncData} (F : Fun K "__init__" "NoDeed.__init__" sI5 f fd) (T : ExK K c 1) (no : PySem.W.findIn K (.ref c) "many" = some none) (mB : mg "LookupError" = none) : FnOk P w K mg base CX0 1 f fd ["self", "many"] (spI c "many") := by
  refine F.ok scI5 (fun vs H Q E h => ?_) (fun cdv A outer s H vs Q E hr h => ?_)
  · obtain ⟨a, y, rfl, _⟩ := h
    rfl
  obtain ⟨a, y, rfl, ea, q⟩ := h
  refine ⟨_, pss_cons (ps_expr (pe_binit (B := "LookupError") (newId := bW 1) (initId := "LookupError.__init__") (bm := bM 1) rfl mB boot_LookupError tyf_LookupError fnd_LookupError (pa_cons (pv 0) (pa_cons pe_str pa_nil)) (by decide) (by decide) stb_LookupError hnd_LookupError))
    (pss_one (ps_os1 (B := "LookupError") (newId := bW 1) (initId := "LookupError.__init__") (bm := bM 1) (pv 0) (pv 1))), ?_⟩
  refine ⟨_, rfl, a, c, _, rfl, (by show 1 ≤ 1000; decide), T, ea, ?_⟩
  exact ⟨_, rfl, _, rfl, a, c, rfl, T, no, ea, fun dx n ne => q dx n ne⟩
abbrev sI6 : Stmt := inClass (topS 7) 0
theorem scI6 : FnScope ["self", "going"] ["self", "going"] (defScope sI6) := ⟨rfl, rfl, rfl, by decide +kernel, rfl, by decide +kernel, by decide +kernel⟩
theorem ok_I6 {f c : Addr} {fd : FuncData} (F : Fun K "__init__" "NoBoat.__init__" sI6 f fd) (T : ExK K c 2) (no : PySem.W.findIn K (.ref c) "going" = some none) (mB : mg "RuntimeError" = none) : FnOk P w K mg base CX0 1 f fd ["self", "going"] (spI c "going") := by
  refine F.ok scI6 (fun vs H Q E h => ?_) (fun cdv A outer s H vs Q E hr h => ?_)
  · obtain ⟨a, y, rfl, _⟩ := h
    rfl
  obtain ⟨a, y, rfl, ea, q⟩ := h
  refine ⟨_, pss_cons (ps_expr (pe_binit (B := "RuntimeError") (newId := bW 2) (initId := "RuntimeError.__init__") (bm := bM 2) rfl mB boot_RuntimeError tyf_RuntimeError fnd_RuntimeError (pa_cons (pv 0) (pa_cons pe_str pa_nil)) (by decide) (by decide) stb_RuntimeError hnd_RuntimeError))
    (pss_one (ps_os1 (B := "RuntimeError") (newId := bW 2) (initId := "RuntimeError.__init__") (bm := bM 2) (pv 0) (pv 1))), ?_⟩
  refine ⟨_, rfl, a, c, _, rfl, (by show 1 ≤ 1000; decide), T, ea, ?_⟩
  exact ⟨_, rfl, _, rfl, a, c, rfl, T, no, ea, fun dx n ne => q dx n ne⟩
abbrev sI7 : Stmt := inClass (topS 8) 0
theorem scI7 : FnScope ["self"] ["self"] (defScope sI7) := ⟨rfl, rfl, rfl, by decide +kernel, rfl, by decide +kernel, by decide +kernel⟩
theorem ok_I7 {f c : Addr} {fd : FuncData} (F : Fun K "__init__" "NoCounts.__init__" sI7 f fd) (T : ExK K c 2) (mB : mg "RuntimeError" = none) : FnOk P w K mg base CX0 1 f fd ["self"] (spI0 c) := by
  refine F.ok scI7 (fun vs H Q E h => ?_) (fun cdv A outer s H vs Q E hr h => ?_)
  · obtain ⟨a, rfl, _⟩ := h
    rfl
  obtain ⟨a, rfl, ea, q⟩ := h
  refine ⟨_, pss_one (ps_expr (pe_binit (B := "RuntimeError") (newId := bW 2) (initId := "RuntimeError.__init__") (bm := bM 2) rfl mB boot_RuntimeError tyf_RuntimeError fnd_RuntimeError (pa_cons (pv 0) pa_nil) (by decide) (by decide) stb_RuntimeError hnd_RuntimeError)), ?_⟩
  exact ⟨_, rfl, a, c, _, rfl, (by show 0 ≤ 1000; decide), T, ea, q⟩
abbrev sI8 : Stmt := inClass (topS 9) 0
theorem scI8 : FnScope ["self", "many"] ["self", "many"] (defScope sI8) := ⟨rfl, rfl, rfl, by decide +kernel, rfl, by decide +kernel, by decide +kernel⟩
theorem ok_I8 {f c : Addr} {fd : FuncData} (F : Fun K "__init__" "Short.__init__" sI8 f fd) (T : ExK K c 2) (no : PySem.W.findIn K (.ref c) "many" = some none) (mB : mg "RuntimeError" = none) : FnOk P w K mg base CX0 1 f fd ["self", "many"] (spI c "many") := by
  refine F.ok scI8 (fun vs H Q E h => ?_) (fun cdv A outer s H vs Q E hr h => ?_)
  · obtain ⟨a, y, rfl, _⟩ := h
    rfl
  obtain ⟨a, y, rfl, ea, q⟩ := h
  refine ⟨_, pss_cons (ps_expr (pe_binit (B := "RuntimeError") (newId := bW 2) (initId := "RuntimeError.__init__") (bm := bM 2) rfl mB boot_RuntimeError tyf_RuntimeError fnd_RuntimeError (pa_cons (pv 0) (pa_cons pe_str pa_nil)) (by decide) (by decide) stb_RuntimeError hnd_RuntimeError))
    (pss_one (ps_os1 (B := "RuntimeError") (newId := bW 2) (initId := "RuntimeError.__init__") (bm := bM 2) (pv 0) (pv 1))), ?_⟩
  refine ⟨_, rfl, a, c, _, rfl, (by show 1 ≤ 1000; decide), T, ea, ?_⟩
  exact ⟨_, rfl, _, rfl, a, c, rfl, T, no, ea, fun dx n ne => q dx n ne⟩
abbrev sI9 : Stmt := inClass (topS 10) 0
theorem scI9 : FnScope ["self", "many"] ["self", "many"] (defScope sI9) := ⟨rfl, rfl, rfl, by decide +kernel, rfl, by decide +kernel, by decide +kernel⟩
theorem ok_I9 {f c : Addr} {fd : FuncData} (F : Fun K "__init__" "TooMany.__init__" sI9 f fd) (T : ExK K c 3) (no : PySem.W.findIn K (.ref c) "many" = some none) (mB : mg "OverflowError" = none) : FnOk P w K mg base CX0 1 f fd ["self", "many"] (spI c "many") := by
  refine F.ok scI9 (fun vs H Q E h => ?_) (fun cdv A outer s H vs Q E hr h => ?_)
  · obtain ⟨a, y, rfl, _⟩ := h
    rfl
  obtain ⟨a, y, rfl, ea, q⟩ := h
  refine ⟨_, pss_cons (ps_expr (pe_binit (B := "OverflowError") (newId := bW 3) (initId := "OverflowError.__init__") (bm := bM 3) rfl mB boot_OverflowError tyf_OverflowError fnd_OverflowError (pa_cons (pv 0) (pa_cons pe_str pa_nil)) (by decide) (by decide) stb_OverflowError hnd_OverflowError))
    (pss_one (ps_os1 (B := "OverflowError") (newId := bW 3) (initId := "OverflowError.__init__") (bm := bM 3) (pv 0) (pv 1))), ?_⟩
  refine ⟨_, rfl, a, c, _, rfl, (by show 1 ≤ 1000; decide), T, ea, ?_⟩
  exact ⟨_, rfl, _, rfl, a, c, rfl, T, no, ea, fun dx n ne => q dx n ne⟩
end
section
variable {X : Cx} {C fI : Nat → Addr} {k i : Nat} {nm : Str} {fd : FuncData} {p pos : Pos} {e : Expr} {te : TE} {kws : List Keyword}
def tMkE (C : Nat → Addr) (k i : Nat) : TE := fun σ H Q => ∃ y, σ[i]? = some (some y) ∧ ∀ v H2, Same H H2 → Em C H2 v k y → Q v H2
theorem mk_em {H : Hp} {a : Addr} {y : V} {Q : VK} (k7 : k ≠ 7) (n : H a = none) (q : ∀ v H2, Same H H2 → Em C H2 v k y → Q v H2) : spI (C k) (fld k) [.ref a, y] (upd H a (exo a (C k) none)) (fun v H2 => v = .non ∧ Q (.ref a) H2) E0 := by
  refine ⟨a, y, rfl, upd_same, fun dx nd ne => ⟨rfl, q _ _ (fun b o eb => ?_) ⟨a, some dx, rfl, upd_same, fun z => absurd z k7, fun _ => ⟨dx, rfl, ?_⟩⟩⟩⟩
  · have h1 : b ≠ a := ne_of_none eb n
    have h2 : b ≠ dx := fun z => by rw [← z, upd_ne h1, eb] at nd; cases nd
    rw [upd_ne h1, upd_ne h2, upd_ne h1]; exact eb
  · rw [upd_ne ne, upd_same]
/-- made by place -/
theorem pe_mkP (T : Tab X.K C fI) (hk : k < 10) (k7 : k ≠ 7) (I : Ini X.prog X.w X.K X.mg X.base nm (C k) (fI k) fd (fld k)) (hr : Room (1 + 1) X.A) (hg : Gl X nm) (he : PE X e (tVar i)) (hdb : (nm == ("__debug__" : Str)) = false := by decide)
    (hst : starEach [e] X.env = (false, eval e X.env) :: starEach [] X.env := by rfl) (hpl : (backTo pos (starEach [] X.env)).any (·.1) = false := by rfl) :
    PE X (.Call (.Name nm p) [e] [] pos) (tMkE C k i) := by
  refine PE.imp (pe_exmk (T.ex k hk) (T.ini k hk) (T.tI k hk) I.ok hr I.b hg I.g (pa_cons he pa_nil hst) hdb hst hpl) fun σ H Q h => ?_
  obtain ⟨y, ey, q⟩ := h
  exact ⟨y, ey, (by show 1 ≤ 1000; decide), fun a n => mk_em k7 n q⟩
/-- made by its field's name -/
theorem pe_mkN (T : Tab X.K C fI) (hk : k < 10) (k7 : k ≠ 7) (I : Ini X.prog X.w X.K X.mg X.base nm (C k) (fI k) fd (fld k)) (hr : Room (1 + 1) X.A) (hg : Gl X nm) (he : PK X kws (tCons (tVar i) tNil)) (hdb : (nm == ("__debug__" : Str)) = false := by decide)
    (hall : (backToKw pos (keywordEach kws X.env)).all (·.1.isSome) = true := by rfl) (hks : (backToKw pos (keywordEach kws X.env)).filterMap (·.1) = [fld k] := by rfl)
    (hpl : ((backTo pos (starEach [] X.env)).any (·.1) || (backToKw pos (keywordEach kws X.env)).any (·.1.isNone)) = false := by rfl) :
    PE X (.Call (.Name nm p) [] kws pos) (tMkE C k i) := by
  refine PE.imp (pe_exmkK (T.ex k hk) (T.ini k hk) (T.tI k hk) I.ok hr I.kb hg I.g he hall hks hdb hpl) fun σ H Q h => ?_
  obtain ⟨y, ey, q⟩ := h
  exact ⟨y, ey, rfl, fun a n => mk_em k7 n q⟩
/-- NoCounts() -/
theorem pe_mk0 (T : Tab X.K C fI) (F : FnOk X.prog X.w X.K X.mg X.base CX0 1 (fI 7) fd ["self"] (spI0 (C 7))) (b : Binds X.K fd ["self"] []) (g : X.mg nm = some (.ref (C 7))) (hr : Room (1 + 1) X.A) (hg : Gl X nm) (hdb : (nm == ("__debug__" : Str)) = false := by decide) :
    PE X (.Call (.Name nm p) [] [] pos) (fun σ H Q => ∀ v H2, Same H H2 → (∀ y, Em C H2 v 7 y) → Q v H2) := by
  refine PE.imp (pe_exmk0 (T.ex 7 (by decide)) (T.ini 7 (by decide)) (T.tI 7 (by decide)) F hr b hg g hdb) fun σ H Q h => ?_
  exact fun a n => ⟨a, rfl, upd_same, rfl, h _ _ (same_new n) fun y => ⟨a, none, rfl, upd_same, fun _ => rfl, fun z => absurd rfl z⟩⟩
end
end XL
namespace XL
open PySem PySem.Spec PyProof.Rows L2
abbrev sKinds : Stmt := topS 20
abbrev sBases : Stmt := topS 21
abbrev sMade : Stmt := topS 22
abbrev sFields : Stmt := topS 23
/-- the names of the ten stand for them -/
structure Gls (mg : Str → Option Value) (C : Nat → Addr) : Prop where
  g0 : mg "BadRow" = some (.ref (C 0))
  g1 : mg "Loose" = some (.ref (C 1))
  g2 : mg "Others" = some (.ref (C 2))
  g3 : mg "NoLock" = some (.ref (C 3))
  g4 : mg "NoBasin" = some (.ref (C 4))
  g5 : mg "NoDeed" = some (.ref (C 5))
  g6 : mg "NoBoat" = some (.ref (C 6))
  g7 : mg "NoCounts" = some (.ref (C 7))
  g8 : mg "Short" = some (.ref (C 8))
  g9 : mg "TooMany" = some (.ref (C 9))
/-- isinstance(v, one of the ten), v in slot i -/
def tIsE (C : Nat → Addr) (i : Nat) (g : Nat → Bool) : TE := fun σ H Q => ∃ (v : V) (k : Nat) (y : V), σ[i]? = some (some v) ∧ k < 10 ∧ Em C H v k y ∧ Q (.bl (g k)) H
section
variable {X : Cx} {C fI : Nat → Addr} {i j : Nat} {e o : Expr} {p pos : Pos} {u : Value} {g : Nat → Bool} {c : V}
theorem pe_isE (T : Tab X.K C fI) (hc : ClsV c u) (hg : ∀ k, k < 10 → PySem.W.kitOne X.K (.ref (C k)) u = some (g k)) (hi : Gl X "isinstance") (mi : X.mg "isinstance" = none) (he : PE X e (tVar i)) (ho : PE X o (tC c))
    (h1 : starEach [e, o] X.env = (false, eval e X.env) :: starEach [o] X.env := by rfl) (h2 : starEach [o] X.env = (false, eval o X.env) :: starEach [] X.env := by rfl) (h3 : (backTo pos (starEach [o] X.env)).any (·.1) = false := by rfl) :
    PE X (.Call (.Name "isinstance" p) [e, o] [] pos) (tIsE C i g) := by
  refine PE.imp (pe_callB call_isiX hi mi boot_isinstance (pa_cons he (pa_cons ho pa_nil h2) h1) (he := h1) (hpl := h3)) fun σ H Q h => ?_
  obtain ⟨v, k, y, ev, hk, hv, q⟩ := h
  obtain ⟨a, d, rfl, ea, hd⟩ := hv.dict
  exact ⟨_, ev, a, C k, d, c, u, _, _, _, _, _, rfl, T.ex k hk, ea, hd, hc, hg k hk, q⟩
theorem pe_isK (T : Tab X.K C fI) (hj : j < 10) (hi : Gl X "isinstance") (mi : X.mg "isinstance" = none) (he : PE X e (tVar i)) (ho : PE X o (tC (.ref (C j))))
    (h1 : starEach [e, o] X.env = (false, eval e X.env) :: starEach [o] X.env := by rfl) (h2 : starEach [o] X.env = (false, eval o X.env) :: starEach [] X.env := by rfl) (h3 : (backTo pos (starEach [o] X.env)).any (·.1) = false := by rfl) :
    PE X (.Call (.Name "isinstance" p) [e, o] [] pos) (tIsE C i fun k => decide (j = k)) := pe_isE T (.own _) (fun k hk => T.kit hj hk) hi mi he ho h1 h2 h3
end
section
variable {P : Program} {w : World} {K : PySem.W.Frag} {mg : Str → Option Value} {base : Heap} {C fI : Nat → Addr}
def boolsV (n k : Nat) : List V := (List.range n).map fun j => .bl (decide (j = k))
theorem scKinds : FnScope ["_law_error", "_law_found"] ["_law_error"] (defScope sKinds) := ⟨rfl, rfl, rfl, by decide +kernel, rfl, by decide +kernel, by decide +kernel⟩
def spKinds (C : Nat → Addr) (n : Nat) (f : Nat → Nat) : Sp := fun vs H Q _ => ∃ (v y : V) (k : Nat), vs = [v] ∧ k < 10 ∧ Em C H v k y ∧ ∀ p H', Same H H' → H p = none → H' p = some (.lst (boolsV n (f k))) → Q (.ref p) H'
theorem same_none {H H' : Hp} {p : Addr} (s : Same H H') (n : H' p = none) : H p = none := by
  cases z : H p with
  | none => rfl
  | some o => rw [s _ _ z] at n; cases n
theorem ok_kinds {f : Addr} {fd : FuncData} {k : Nat} (F : Fun K "_law_kinds" "_law_kinds" sKinds f fd) (T : Tab K C fI) (G : Gls mg C) (mi : mg "isinstance" = none) : FnOk P w K mg base CX0 (k + 1) f fd ["_law_error"] (spKinds C 10 id) := by
  refine F.ok scKinds (fun vs H Q E h => ?_) (fun cdv A outer s H vs Q E hr h => ?_)
  · obtain ⟨v, y, k, rfl, _⟩ := h
    rfl
  obtain ⟨v, y, k, rfl, hk, hv, q⟩ := h
  refine ⟨_, pss_cons (ps_set (i := 1) scKinds.nd rfl (.inl rfl) (pe_lst (pa_cons (pe_isK T (j := 0) (by decide) rfl mi (pv 0) (pe_glob rfl G.g0 rfl)) (pa_cons (pe_isK T (j := 1) (by decide) rfl mi (pv 0) (pe_glob rfl G.g1 rfl)) (pa_cons (pe_isK T (j := 2) (by decide) rfl mi (pv 0) (pe_glob rfl G.g2 rfl)) (pa_cons (pe_isK T (j := 3) (by decide) rfl mi (pv 0) (pe_glob rfl G.g3 rfl)) pa_nil))))))
    (pss_cons (ps_set (i := 1) scKinds.nd rfl (.inl rfl) (pe_op op_cat (pv 1) (pe_lst (pa_cons (pe_isK T (j := 4) (by decide) rfl mi (pv 0) (pe_glob rfl G.g4 rfl)) (pa_cons (pe_isK T (j := 5) (by decide) rfl mi (pv 0) (pe_glob rfl G.g5 rfl)) (pa_cons (pe_isK T (j := 6) (by decide) rfl mi (pv 0) (pe_glob rfl G.g6 rfl)) pa_nil))))))
    (pss_one (ps_ret (pe_op op_cat (pv 1) (pe_lst (pa_cons (pe_isK T (j := 7) (by decide) rfl mi (pv 0) (pe_glob rfl G.g7 rfl)) (pa_cons (pe_isK T (j := 8) (by decide) rfl mi (pv 0) (pe_glob rfl G.g8 rfl)) (pa_cons (pe_isK T (j := 9) (by decide) rfl mi (pv 0) (pe_glob rfl G.g9 rfl)) pa_nil)))))))), ?_⟩
  refine ⟨v, k, y, rfl, hk, hv, v, k, y, rfl, hk, hv, v, k, y, rfl, hk, hv, v, k, y, rfl, hk, hv, (by show 4 ≤ sizeLine; decide), fun p1 n1 => ?_⟩
  have s1 : Same H _ := same_new (o := .lst [.bl (decide (0 = k)), .bl (decide (1 = k)), .bl (decide (2 = k)), .bl (decide (3 = k))]) n1
  have v1 := hv.same s1
  refine ⟨_, rfl, v, k, y, rfl, hk, v1, v, k, y, rfl, hk, v1, v, k, y, rfl, hk, v1, (by show 3 ≤ sizeLine; decide), fun p2 n2 => ?_⟩
  refine ⟨p1, p2, _, _, rfl, rfl, same_new n2 _ _ upd_same, upd_same, (by show 7 ≤ sizeLine; decide), fun p3 n3 => ?_⟩
  have s3 := (s1.trans (same_new n2)).trans (same_new (o := .lst ([.bl (decide (0 = k)), .bl (decide (1 = k)), .bl (decide (2 = k)), .bl (decide (3 = k))] ++ [.bl (decide (4 = k)), .bl (decide (5 = k)), .bl (decide (6 = k))])) n3)
  have v3 := hv.same s3
  refine ⟨_, rfl, v, k, y, rfl, hk, v3, v, k, y, rfl, hk, v3, v, k, y, rfl, hk, v3, (by show 3 ≤ sizeLine; decide), fun p4 n4 => ?_⟩
  refine ⟨p3, p4, _, _, rfl, rfl, same_new n4 _ _ upd_same, upd_same, (by show 10 ≤ sizeLine; decide), fun p5 n5 => ?_⟩
  have s4 := s3.trans (same_new (o := .lst [.bl (decide (7 = k)), .bl (decide (8 = k)), .bl (decide (9 = k))]) n4)
  exact q p5 _ (s4.trans (same_new n5)) (same_none s4 n5) upd_same
/-! ### _law_bases -/
theorem scBases : FnScope ["_law_error", "_law_found"] ["_law_error"] (defScope sBases) := ⟨rfl, rfl, rfl, by decide +kernel, rfl, by decide +kernel, by decide +kernel⟩
theorem bsf : ∀ k, k < 10 → (bM (bs k)).contains (.type "ValueError") = decide (0 = bs k) ∧ (bM (bs k)).contains (.type "LookupError") = decide (1 = bs k) ∧ (bM (bs k)).contains (.type "RuntimeError") = decide (2 = bs k) ∧ (bM (bs k)).contains (.type "OverflowError") = decide (3 = bs k) ∧
    (bM (bs k)).contains (.type "KeyError") = false ∧ (bM (bs k)).contains (.type "IndexError") = false ∧ (bM (bs k)).contains (.type "NotImplementedError") = false ∧ decide (4 = bs k) = false := by decide +kernel
theorem boot_KeyError : bootBuiltins "KeyError" = some (.type "KeyError") := by decide +kernel
theorem boot_IndexError : bootBuiltins "IndexError" = some (.type "IndexError") := by decide +kernel
theorem boot_NotImplementedError : bootBuiltins "NotImplementedError" = some (.type "NotImplementedError") := by decide +kernel
theorem ok_bases {f : Addr} {fd : FuncData} {k : Nat} (F : Fun K "_law_bases" "_law_bases" sBases f fd) (T : Tab K C fI) (mi : mg "isinstance" = none) (m0 : mg "ValueError" = none) (m1 : mg "LookupError" = none) (m2 : mg "RuntimeError" = none) (m3 : mg "OverflowError" = none)
    (m4 : mg "KeyError" = none) (m5 : mg "IndexError" = none) (m6 : mg "NotImplementedError" = none) : FnOk P w K mg base CX0 (k + 1) f fd ["_law_error"] (spKinds C 5 bs) := by
  refine F.ok scBases (fun vs H Q E h => ?_) (fun cdv A outer s H vs Q E hr h => ?_)
  · obtain ⟨v, y, k, rfl, _⟩ := h
    rfl
  obtain ⟨v, y, k, rfl, hk, hv, q⟩ := h
  have k0 (k : Nat) (hk : k < 10) : PySem.W.kitOne K (.ref (C k)) (.type "ValueError") = some (decide (0 = bs k)) := T.kitT hk (by decide +kernel) (bsf k hk).1
  have k1 (k : Nat) (hk : k < 10) : PySem.W.kitOne K (.ref (C k)) (.type "LookupError") = some (decide (1 = bs k)) := T.kitT hk (by decide +kernel) (bsf k hk).2.1
  have k2 (k : Nat) (hk : k < 10) : PySem.W.kitOne K (.ref (C k)) (.type "RuntimeError") = some (decide (2 = bs k)) := T.kitT hk (by decide +kernel) (bsf k hk).2.2.1
  have k3 (k : Nat) (hk : k < 10) : PySem.W.kitOne K (.ref (C k)) (.type "OverflowError") = some (decide (3 = bs k)) := T.kitT hk (by decide +kernel) (bsf k hk).2.2.2.1
  have k4 : PySem.W.kitOne K (.ref (C k)) (.type "KeyError") = some false := T.kitT hk (by decide +kernel) (bsf k hk).2.2.2.2.1
  have k5 : PySem.W.kitOne K (.ref (C k)) (.type "IndexError") = some false := T.kitT hk (by decide +kernel) (bsf k hk).2.2.2.2.2.1
  have k6 : PySem.W.kitOne K (.ref (C k)) (.type "NotImplementedError") = some false := T.kitT hk (by decide +kernel) (bsf k hk).2.2.2.2.2.2.1
  have ka : PySem.W.kitAny K (.ref (C k)) [.type "KeyError", .type "IndexError", .type "NotImplementedError"] = some false := by
    unfold PySem.W.kitAny; rw [k4]; show PySem.W.kitAny K (.ref (C k)) [.type "IndexError", .type "NotImplementedError"] = some false
    unfold PySem.W.kitAny; rw [k5]; show PySem.W.kitAny K (.ref (C k)) [.type "NotImplementedError"] = some false
    unfold PySem.W.kitAny; rw [k6]; rfl
  refine ⟨_, pss_cons (ps_set (i := 1) scBases.nd rfl (.inl rfl) (pe_lst (pa_cons (pe_isE T (.ty _) k0 rfl mi (pv 0) (pe_bltn rfl m0 boot_ValueError rfl)) (pa_cons (pe_isE T (.ty _) k1 rfl mi (pv 0) (pe_bltn rfl m1 boot_LookupError rfl)) (pa_cons (pe_isE T (.ty _) k2 rfl mi (pv 0) (pe_bltn rfl m2 boot_RuntimeError rfl)) pa_nil)))))
    (pss_cons (ps_expr (pe_bm PySem.F.plainAttrs_list PySem.F.slot_list_append PySem.F.type_list_append mt_append (pv 1) (pa_cons (pe_isE T (.ty _) k3 rfl mi (pv 0) (pe_bltn rfl m3 boot_OverflowError rfl)) pa_nil)))
    (pss_one (ps_ret (pe_op op_cat (pv 1) (pe_lst (pa_cons (pe_callB call_isiXT rfl mi boot_isinstance (pa_cons (pv 0) (pa_cons (pe_tup (pa_cons (pe_bltn (v := .ty "KeyError") rfl m4 boot_KeyError rfl) (pa_cons (pe_bltn (v := .ty "IndexError") rfl m5 boot_IndexError rfl) (pa_cons (pe_bltn (v := .ty "NotImplementedError") rfl m6 boot_NotImplementedError rfl) pa_nil)))) pa_nil))) pa_nil)))))), ?_⟩
  refine ⟨v, k, y, rfl, hk, hv, v, k, y, rfl, hk, hv, v, k, y, rfl, hk, hv, (by show 3 ≤ sizeLine; decide), fun p1 n1 => ?_⟩
  have s1 : Same H _ := same_new (o := .lst [.bl (decide (0 = bs k)), .bl (decide (1 = bs k)), .bl (decide (2 = bs k))]) n1
  have v1 := hv.same s1
  refine ⟨_, rfl, .inl ⟨rfl, _, SqL.of upd_same⟩, v, k, y, rfl, hk, v1, p1, _, _, rfl, rfl, upd_same, (by show 3 < sizeLine; decide), ?_⟩
  rw [upd_upd]
  have s2 : Same H (upd H p1 (.lst ([.bl (decide (0 = bs k)), .bl (decide (1 = bs k)), .bl (decide (2 = bs k))] ++ [.bl (decide (3 = bs k))]))) := same_new n1
  obtain ⟨a, d, rfl, ea, hd⟩ := (hv.same s2).dict
  refine ⟨_, rfl, _, rfl, (by show 3 ≤ sizeLine; decide), fun tp nt => ?_⟩
  have s3 := same_new (o := .tup [.ty "KeyError", .ty "IndexError", .ty "NotImplementedError"]) nt
  refine ⟨a, C k, tp, d, _, _, _, _, _, _, _, rfl, T.ex k hk, s3 _ _ ea, fun dd e => ?_, upd_same, .cons (.ty _) (.cons (.ty _) (.cons (.ty _) .nil)), ka, (by show 1 ≤ sizeLine; decide), fun p2 n2 => ?_⟩
  · obtain ⟨fs, z⟩ := hd dd e
    exact ⟨fs, s3 _ _ z⟩
  · refine ⟨p1, p2, _, _, rfl, rfl, same_new n2 _ _ (s3 _ _ upd_same), upd_same, (by show 5 ≤ sizeLine; decide), fun p3 n3 => ?_⟩
    have s4 := (s2.trans s3).trans (same_new (o := .lst [.bl false]) n2)
    refine q p3 _ (s4.trans (same_new n3)) (same_none s4 n3) ?_
    rw [upd_same]
    show some (HO.lst [.bl (decide (0 = bs k)), .bl (decide (1 = bs k)), .bl (decide (2 = bs k)), .bl (decide (3 = bs k)), .bl false]) = some (HO.lst [.bl (decide (0 = bs k)), .bl (decide (1 = bs k)), .bl (decide (2 = bs k)), .bl (decide (3 = bs k)), .bl (decide (4 = bs k))])
    rw [(bsf k hk).2.2.2.2.2.2.2]
end
end XL
namespace XL
open PySem PySem.Spec PyProof.Rows L2
/-- T holds two errors of the k-th kind, made of y -/
def Pr (C : Nat → Addr) (H : Hp) (T : Addr) (k : Nat) (y : V) : Prop := ∃ x z, H T = some (.tup [x, z]) ∧ Em C H x k y ∧ Em C H z k y
theorem Pr.same {C : Nat → Addr} {H H' : Hp} {T : Addr} {y : V} {k : Nat} (s : Same H H') (h : Pr C H T k y) : Pr C H' T k y := by
  obtain ⟨x, z, e, a, b⟩ := h
  exact ⟨x, z, s _ _ e, a.same s, b.same s⟩
def tPair (C : Nat → Addr) (k i : Nat) : TE := fun σ H Q => ∃ y, σ[i]? = some (some y) ∧ ∀ T H', Same H H' → Pr C H' T k y → Q (.ref T) H'
section
variable {X : Cx} {C : Nat → Addr} {k i m : Nat} {a b : Expr} {pos : Pos}
theorem pe_pair (ha : PE X a (tMkE C k i)) (hb : PE X b (tMkE C k i)) (h1 : starEach [a, b] X.env = (false, eval a X.env) :: starEach [b] X.env := by rfl) (h2 : starEach [b] X.env = (false, eval b X.env) :: starEach [] X.env := by rfl)
    (hpl : (starEach [a, b] X.env).any (·.1) = false := by rfl) : PE X (.Tuple [a, b] m pos) (tPair C k i) := by
  refine PE.imp (pe_tup (pa_cons ha (pa_cons hb pa_nil h2) h1)) fun σ H Q h => ?_
  obtain ⟨y, ey, q⟩ := h
  refine ⟨y, ey, fun x H1 s1 e1 => ⟨y, ey, fun z H2 s2 e2 => ⟨(by show 2 ≤ sizeLine; decide), fun T n => ?_⟩⟩⟩
  have s3 := same_new (o := .tup [x, z]) n
  exact q T _ ((s1.trans s2).trans s3) ⟨x, z, upd_same, (e1.same s2).same s3, e2.same s3⟩
theorem pe_pair0 {t : TE} (ht : t = fun σ H Q => ∀ v H2, Same H H2 → (∀ y, Em C H2 v 7 y) → Q v H2) (ha : PE X a t) (hb : PE X b t) (h1 : starEach [a, b] X.env = (false, eval a X.env) :: starEach [b] X.env := by rfl) (h2 : starEach [b] X.env = (false, eval b X.env) :: starEach [] X.env := by rfl)
    : PE X (.Tuple [a, b] m pos) (tPair C 7 i) := by
  subst ht
  refine PE.imp (pe_tup (pa_cons ha (pa_cons hb pa_nil h2) h1)) fun σ H Q h => ?_
  obtain ⟨y, ey, q⟩ := h
  refine fun x H1 s1 e1 z H2 s2 e2 => ⟨(by show 2 ≤ sizeLine; decide), fun T n => ?_⟩
  have s3 := same_new (o := .tup [x, z]) n
  exact q T _ ((s1.trans s2).trans s3) ⟨x, z, upd_same, ((e1 y).same s2).same s3, (e2 y).same s3⟩
end
section
variable {P : Program} {w : World} {K : PySem.W.Frag} {mg : Str → Option Value} {base : Heap} {C fI : Nat → Addr}
theorem scMade : FnScope ["_law_what", "_law_found"] ["_law_what"] (defScope sMade) := ⟨rfl, rfl, rfl, by decide +kernel, rfl, by decide +kernel, by decide +kernel⟩
def spMade (C : Nat → Addr) : Sp := fun vs H Q _ => ∃ y : V, vs = [y] ∧ ∀ (p : Addr) (Ts : List Addr) (H' : Hp), Same H H' → H p = none → H' p = some (.lst (Ts.map V.ref)) → Ts.length = 10 → (∀ (k : Nat) T, Ts[k]? = some T → Pr C H' T k y) → Q (.ref p) H'
/-- the ten __init__ -/
structure Inis (P : Program) (w : World) (K : PySem.W.Frag) (mg : Str → Option Value) (base : Heap) (C fI : Nat → Addr) (fd : Nat → FuncData) : Prop where
  i0 : Ini P w K mg base "BadRow" (C 0) (fI 0) (fd 0) (fld 0)
  i1 : Ini P w K mg base "Loose" (C 1) (fI 1) (fd 1) (fld 1)
  i2 : Ini P w K mg base "Others" (C 2) (fI 2) (fd 2) (fld 2)
  i3 : Ini P w K mg base "NoLock" (C 3) (fI 3) (fd 3) (fld 3)
  i4 : Ini P w K mg base "NoBasin" (C 4) (fI 4) (fd 4) (fld 4)
  i5 : Ini P w K mg base "NoDeed" (C 5) (fI 5) (fd 5) (fld 5)
  i6 : Ini P w K mg base "NoBoat" (C 6) (fI 6) (fd 6) (fld 6)
  i8 : Ini P w K mg base "Short" (C 8) (fI 8) (fd 8) (fld 8)
  i9 : Ini P w K mg base "TooMany" (C 9) (fI 9) (fd 9) (fld 9)
  i7 : FnOk P w K mg base CX0 1 (fI 7) (fd 7) ["self"] (spI0 (C 7))
  b7 : Binds K (fd 7) ["self"] []
  g7 : mg "NoCounts" = some (.ref (C 7))
theorem ok_made {f : Addr} {fd : FuncData} {fdI : Nat → FuncData} (F : Fun K "_law_made" "_law_made" sMade f fd) (T : Tab K C fI) (I : Inis P w K mg base C fI fdI) : FnOk P w K mg base CX0 3 f fd ["_law_what"] (spMade C) := by
  refine F.ok scMade (fun vs H Q E h => ?_) (fun cdv A outer s H vs Q E hr h => ?_)
  · obtain ⟨y, rfl, _⟩ := h
    rfl
  obtain ⟨y, rfl, q⟩ := h
  refine ⟨_, pss_cons (ps_set (i := 1) scMade.nd rfl (.inl rfl) (pe_lst (pa_cons (pe_pair (pe_mkP T (k := 0) (by decide) (by decide) I.i0 hr rfl (pv 0)) (pe_mkN T (k := 0) (by decide) (by decide) I.i0 hr rfl (pk_cons (pv 0) pk_nil))) (pa_cons (pe_pair (pe_mkP T (k := 1) (by decide) (by decide) I.i1 hr rfl (pv 0)) (pe_mkN T (k := 1) (by decide) (by decide) I.i1 hr rfl (pk_cons (pv 0) pk_nil))) (pa_cons (pe_pair (pe_mkP T (k := 2) (by decide) (by decide) I.i2 hr rfl (pv 0)) (pe_mkN T (k := 2) (by decide) (by decide) I.i2 hr rfl (pk_cons (pv 0) pk_nil))) pa_nil)))))
    (pss_cons (ps_set (i := 1) scMade.nd rfl (.inl rfl) (pe_op op_cat (pv 1) (pe_lst (pa_cons (pe_pair (pe_mkP T (k := 3) (by decide) (by decide) I.i3 hr rfl (pv 0)) (pe_mkN T (k := 3) (by decide) (by decide) I.i3 hr rfl (pk_cons (pv 0) pk_nil))) (pa_cons (pe_pair (pe_mkP T (k := 4) (by decide) (by decide) I.i4 hr rfl (pv 0)) (pe_mkN T (k := 4) (by decide) (by decide) I.i4 hr rfl (pk_cons (pv 0) pk_nil))) pa_nil)))))
    (pss_cons (ps_set (i := 1) scMade.nd rfl (.inl rfl) (pe_op op_cat (pv 1) (pe_lst (pa_cons (pe_pair (pe_mkP T (k := 5) (by decide) (by decide) I.i5 hr rfl (pv 0)) (pe_mkN T (k := 5) (by decide) (by decide) I.i5 hr rfl (pk_cons (pv 0) pk_nil))) (pa_cons (pe_pair (pe_mkP T (k := 6) (by decide) (by decide) I.i6 hr rfl (pv 0)) (pe_mkN T (k := 6) (by decide) (by decide) I.i6 hr rfl (pk_cons (pv 0) pk_nil))) (pa_cons (pe_pair0 (C := C) (i := 0) rfl (pe_mk0 T I.i7 I.b7 I.g7 hr rfl) (pe_mk0 T I.i7 I.b7 I.g7 hr rfl)) pa_nil))))))
    (pss_one (ps_ret (pe_op op_cat (pv 1) (pe_lst (pa_cons (pe_pair (pe_mkP T (k := 8) (by decide) (by decide) I.i8 hr rfl (pv 0)) (pe_mkN T (k := 8) (by decide) (by decide) I.i8 hr rfl (pk_cons (pv 0) pk_nil))) (pa_cons (pe_pair (pe_mkP T (k := 9) (by decide) (by decide) I.i9 hr rfl (pv 0)) (pe_mkN T (k := 9) (by decide) (by decide) I.i9 hr rfl (pk_cons (pv 0) pk_nil))) pa_nil)))))))), ?_⟩
  refine ⟨y, rfl, fun T0 H0 s0 p0 => ⟨y, rfl, fun T1 H1 s1 p1 => ⟨y, rfl, fun T2 H2 s2 p2 => ⟨(by show 3 ≤ sizeLine; decide), fun a1 n1 => ?_⟩⟩⟩⟩
  have z1 := same_new (o := .lst [.ref T0, .ref T1, .ref T2]) n1
  refine ⟨_, rfl, y, rfl, fun T3 H3 s3 p3 => ⟨y, rfl, fun T4 H4 s4 p4 => ⟨(by show 2 ≤ sizeLine; decide), fun a2 n2 => ?_⟩⟩⟩
  have z2 := (s3.trans s4).trans (same_new (o := .lst [.ref T3, .ref T4]) n2)
  refine ⟨a1, a2, _, _, rfl, rfl, z2 _ _ upd_same, upd_same, (by show 5 ≤ sizeLine; decide), fun a3 n3 => ?_⟩
  have z3 := same_new (o := .lst ([.ref T0, .ref T1, .ref T2] ++ [.ref T3, .ref T4])) n3
  refine ⟨_, rfl, y, rfl, fun T5 H5 s5 p5 => ⟨y, rfl, fun T6 H6 s6 p6 => ⟨y, rfl, fun T7 H7 s7 p7 => ⟨(by show 3 ≤ sizeLine; decide), fun a4 n4 => ?_⟩⟩⟩⟩
  have z4 := ((s5.trans s6).trans s7).trans (same_new (o := .lst [.ref T5, .ref T6, .ref T7]) n4)
  refine ⟨a3, a4, _, _, rfl, rfl, z4 _ _ upd_same, upd_same, (by show 8 ≤ sizeLine; decide), fun a5 n5 => ?_⟩
  have z5 := same_new (o := .lst (([.ref T0, .ref T1, .ref T2] ++ [.ref T3, .ref T4]) ++ [.ref T5, .ref T6, .ref T7])) n5
  refine ⟨_, rfl, y, rfl, fun T8 H8 s8 p8 => ⟨y, rfl, fun T9 H9 s9 p9 => ⟨(by show 2 ≤ sizeLine; decide), fun a6 n6 => ?_⟩⟩⟩
  have z6 := (s8.trans s9).trans (same_new (o := .lst [.ref T8, .ref T9]) n6)
  refine ⟨a5, a6, _, _, rfl, rfl, z6 _ _ upd_same, upd_same, (by show 10 ≤ sizeLine; decide), fun a7 n7 => ?_⟩
  have z7 := same_new (o := .lst ((([.ref T0, .ref T1, .ref T2] ++ [.ref T3, .ref T4]) ++ [.ref T5, .ref T6, .ref T7]) ++ [.ref T8, .ref T9])) n7
  have e7 := z7
  have e6b := (same_new (o := .lst [.ref T8, .ref T9]) n6).trans z7
  have e5 := z6.trans z7
  have e4 := z5.trans e5
  have e4b := (same_new (o := .lst [.ref T5, .ref T6, .ref T7]) n4).trans e4
  have e3 := z4.trans e4
  have e2 := z3.trans e3
  have e2b := (same_new (o := .lst [.ref T3, .ref T4]) n2).trans e2
  have e1 := z2.trans e2
  have e0 := z1.trans e1
  have eH := (((s0.trans s1).trans s2).trans z1).trans (z2.trans (z3.trans (z4.trans (z5.trans z6))))
  refine q a7 [T0, T1, T2, T3, T4, T5, T6, T7, T8, T9] _ (eH.trans z7) (same_none eH n7) upd_same rfl fun k T hT => ?_
  have hk : k < 10 := (List.getElem?_eq_some_iff.mp hT).1
  match k, hk, hT with
  | 0, _, hT => cases hT; exact ((p0.same s1).same s2).same e0
  | 1, _, hT => cases hT; exact (p1.same s2).same e0
  | 2, _, hT => cases hT; exact p2.same e0
  | 3, _, hT => cases hT; exact (p3.same s4).same e2b
  | 4, _, hT => cases hT; exact p4.same e2b
  | 5, _, hT => cases hT; exact ((p5.same s6).same s7).same e4b
  | 6, _, hT => cases hT; exact (p6.same s7).same e4b
  | 7, _, hT => cases hT; exact p7.same e4b
  | 8, _, hT => cases hT; exact (p8.same s9).same e6b
  | 9, _, hT => cases hT; exact p9.same e6b
/-! ### _law_fields -/
theorem scFields : FnScope ["_law_made_here", "_law_found"] ["_law_made_here"] (defScope sFields) := ⟨rfl, rfl, rfl, by decide +kernel, rfl, by decide +kernel, by decide +kernel⟩
def spFields (K : PySem.W.Frag) (C : Nat → Addr) : Sp := fun vs H Q _ => ∃ (l : Addr) (xs : List V) (y : V), vs = [.ref l] ∧ SqL K H l xs ∧ xs.length = 10 ∧ (∀ (k : Nat) x, xs[k]? = some x → Em C H x k y) ∧ ∀ (p : Addr) (H' : Hp), Same H H' → H p = none → H' p = some (.lst [y, y, y, y, y, y, y, .non, y, y]) → Q (.ref p) H'
end
/-- l[k].field -/
def tFld (K : PySem.W.Frag) (C : Nat → Addr) (k i : Nat) : TE := fun σ H Q => ∃ (l : Addr) (xs : List V) (x y : V), σ[i]? = some (some (.ref l)) ∧ SqL K H l xs ∧ xs[k]? = some x ∧ Em C H x k y ∧ Q y H
theorem pe_exE {X : Cx} {C fI : Nat → Addr} {k i : Nat} {e : Expr} {pos : Pos} (T : Tab X.K C fI) (hk : k < 10) (k7 : k ≠ 7) (hi : PE X e (tOp (rIxL X.K) (tVar i) (tC (.int k))))
    (hp : attributeBase e (fld k) X.env (eval e X.env) = eval e X.env := by rfl) : PE X (.Attribute e (fld k) pos) (tFld X.K C k i) := by
  refine PE.imp (pe_exget (T.ex k hk) (T.no k hk k7) hi hp) fun σ H Q h => ?_
  obtain ⟨l, xs, x, y, el, hl, ex, hm, q⟩ := h
  obtain ⟨a', d, rfl, ea, _, h3⟩ := hm
  obtain ⟨dd, rfl, ed⟩ := h3 k7
  exact ⟨_, el, l, xs, _, _, rfl, rfl, hl, atI_nat ex, a', dd, _, y, rfl, ea, ed, by simp [List.lookup], q⟩
section
variable {P : Program} {w : World} {K : PySem.W.Frag} {mg : Str → Option Value} {base : Heap} {C fI : Nat → Addr}
theorem ok_fields {f : Addr} {fd : FuncData} {k : Nat} (F : Fun K "_law_fields" "_law_fields" sFields f fd) (T : Tab K C fI) : FnOk P w K mg base CX0 (k + 1) f fd ["_law_made_here"] (spFields K C) := by
  refine F.ok scFields (fun vs H Q E h => ?_) (fun cdv A outer s H vs Q E hr h => ?_)
  · obtain ⟨l, xs, y, rfl, _⟩ := h
    rfl
  obtain ⟨l, xs, y, rfl, hl, hn, hx, q⟩ := h
  refine ⟨_, pss_cons (ps_set (i := 1) scFields.nd rfl (.inl rfl) (pe_lst (pa_cons (pe_exE T (k := 0) (by decide) (by decide) (pe_ix ix_list (pv 0) pe_int (fun _ _ => rfl))) (pa_cons (pe_exE T (k := 1) (by decide) (by decide) (pe_ix ix_list (pv 0) pe_int (fun _ _ => rfl))) (pa_cons (pe_exE T (k := 2) (by decide) (by decide) (pe_ix ix_list (pv 0) pe_int (fun _ _ => rfl))) (pa_cons (pe_exE T (k := 3) (by decide) (by decide) (pe_ix ix_list (pv 0) pe_int (fun _ _ => rfl))) (pa_cons (pe_exE T (k := 4) (by decide) (by decide) (pe_ix ix_list (pv 0) pe_int (fun _ _ => rfl))) (pa_cons (pe_exE T (k := 5) (by decide) (by decide) (pe_ix ix_list (pv 0) pe_int (fun _ _ => rfl))) (pa_cons (pe_exE T (k := 6) (by decide) (by decide) (pe_ix ix_list (pv 0) pe_int (fun _ _ => rfl))) pa_nil)))))))))
    (pss_one (ps_ret (pe_op op_cat (pv 1) (pe_lst (pa_cons pe_non (pa_cons (pe_exE T (k := 8) (by decide) (by decide) (pe_ix ix_list (pv 0) pe_int (fun _ _ => rfl))) (pa_cons (pe_exE T (k := 9) (by decide) (by decide) (pe_ix ix_list (pv 0) pe_int (fun _ _ => rfl))) pa_nil))))))), ?_⟩
  have g (k : Nat) (hk : k < 10) : xs[k]? = some xs[k] := List.getElem?_eq_getElem (by omega)
  have m (k : Nat) (hk : k < 10) : Em C H xs[k] k y := hx k _ (g k hk)
  refine ⟨l, xs, _, y, rfl, hl, g 0 (by decide), m 0 (by decide), l, xs, _, y, rfl, hl, g 1 (by decide), m 1 (by decide), l, xs, _, y, rfl, hl, g 2 (by decide), m 2 (by decide), l, xs, _, y, rfl, hl, g 3 (by decide), m 3 (by decide), l, xs, _, y, rfl, hl, g 4 (by decide), m 4 (by decide), l, xs, _, y, rfl, hl, g 5 (by decide), m 5 (by decide), l, xs, _, y, rfl, hl, g 6 (by decide), m 6 (by decide), (by show 7 ≤ sizeLine; decide), fun p1 n1 => ?_⟩
  have s1 := same_new (o := .lst [y, y, y, y, y, y, y]) n1
  refine ⟨_, rfl, l, xs, _, y, rfl, s1.seq hl, g 8 (by decide), (m 8 (by decide)).same s1, l, xs, _, y, rfl, s1.seq hl, g 9 (by decide), (m 9 (by decide)).same s1, (by show 3 ≤ sizeLine; decide), fun p2 n2 => ?_⟩
  have s2 := same_new (o := .lst [.non, y, y]) n2
  refine ⟨p1, p2, _, _, rfl, rfl, s2 _ _ upd_same, upd_same, (by show 10 ≤ sizeLine; decide), fun p3 n3 => ?_⟩
  exact q p3 _ ((s1.trans s2).trans (same_new n3)) (same_none (s1.trans s2) n3) upd_same
end
end XL
namespace XL
open PySem PySem.Spec PyProof.Rows L2
abbrev sRight : Stmt := topS 24
theorem at_s {T : L2.St → Hp → Prop} {σ σ' : L2.St} {H : Hp} (e : σ = σ') (h : T σ' H) : T σ H := e ▸ h
theorem at_g {i : Nat} {x : V} {σ σ' : L2.St} {H : Hp} {N : L2.St → Hp → Prop} (e : σ.set i (some x) = σ') (h : N σ' H) : gName i x σ H N := by
  subst e; exact h
structure Fns (P : Program) (w : World) (K : PySem.W.Frag) (mg : Str → Option Value) (base : Heap) (n : Nat) (name : Str) (ps : List Str) (sp : Sp) (f : Addr) (fd : FuncData) : Prop where
  ok : FnOk P w K mg base CX0 n f fd ps sp
  g : mg name = some (.ref f)
  k : PySem.W.keepIn K (.ref f) = true
  b : Binds K fd ps []
theorem pe_fn {X : Cx} {n : Nat} {name : Str} {ps : List Str} {sp : Sp} {f : Addr} {fd : FuncData} {p pos : Pos} {e : Expr} {es : List Expr} {t : TA} (F : Fns X.prog X.w X.K X.mg X.base n name ps sp f fd) (hr : Room n X.A) (hg : Gl X name) (ha : PA X (e :: es) t)
    (hdb : (name == ("__debug__" : Str)) = false := by decide) (he : starEach (e :: es) X.env = (false, eval e X.env) :: starEach es X.env := by rfl) (hpl : (backTo pos (starEach es X.env)).any (·.1) = false := by rfl) (hx : Passes CX0 X E0 := by exact pass0) :
    PE X (.Call (.Name name p) (e :: es) [] pos) (tCall sp [] E0 t) := pe_call F.ok hr hg F.g F.k F.b .nil hx ha hdb he hpl
theorem okD_mono : ∀ {n : Nat} {d : PyData}, okD n d → okD (n + 1) d
  | 0, _, h => h.elim
  | n + 1, .list ds, h => ⟨h.1, fun d hd => okD_mono (h.2 d hd)⟩
  | n + 1, .tuple ds, h => ⟨h.1, fun d hd => okD_mono (h.2 d hd)⟩
  | n + 1, .none, _ => trivial
  | n + 1, .bool _, _ => trivial
  | n + 1, .int _, _ => trivial
  | n + 1, .str _, _ => trivial
  | n + 1, .dict _, _ => trivial
theorem okD_up {d : PyData} (h : okD 3 d) : okD 6 d := okD_mono (okD_mono (okD_mono h))
theorem el_eq (n k : Nat) : V.bl (decide (V.int (0 + (n : Int)) = V.int (k : Int))) = V.bl (decide (n = k)) := by
  rw [Int.zero_add]
  by_cases h : n = k
  · rw [h, decide_eq_true rfl, decide_eq_true rfl]
  · rw [decide_eq_false h, decide_eq_false (show ¬ V.int (n : Int) = V.int (k : Int) from fun z => h (by have := V.int.inj z; omega))]
def boolsD (n k : Nat) : PyData := .list ((List.range n).map fun j => .bool (decide (j = k)))
theorem bools_dp {K : PySem.W.Frag} {H : Hp} {l : Addr} {n k : Nat} (h : H l = some (.lst (boolsV n k))) : Dp K H (.ref l) (boolsD n k) := by
  refine .lst (SqL.of h) ?_
  have key : ∀ js : List Nat, DpAll K H (js.map fun j => V.bl (decide (j = k))) (js.map fun j => PyData.bool (decide (j = k))) := by
    intro js
    induction js with
    | nil => exact .nil
    | cons j js ih => exact .cons (.bl _) ih
  exact key _
theorem bools_5 : ∀ k, k < 5 → SeqAt.shaped (boolsD 5 k) = true ∧ PyData.eqv (boolsD 5 k) (boolsD 5 k) = true := by decide +kernel
theorem bools_10 : ∀ k, k < 10 → SeqAt.shaped (boolsD 10 k) = true ∧ PyData.eqv (boolsD 10 k) (boolsD 10 k) = true := by decide +kernel
theorem bs_lt : ∀ k, k < 10 → bs k < 5 := by decide +kernel
theorem bls_eq {n k : Nat} {ys : List V} (hl : ys.length = n) (h : ∀ (j : Nat) y, ys[j]? = some y → y = .bl (decide (j = k))) : ys = boolsV n k := by
  refine List.ext_getElem? fun j => ?_
  unfold boolsV
  rw [List.getElem?_map]
  by_cases hj : j < n
  · rw [List.getElem?_range hj, List.getElem?_eq_getElem (by omega), h j _ (List.getElem?_eq_getElem (by omega))]
    rfl
  · rw [List.getElem?_eq_none (by omega), List.getElem?_eq_none (by rw [List.length_range]; omega)]
    rfl
/-- 3 if s == 9 else 0 if s < 3 else 1 if s < 6 else 2, s in slot i -/
def tBase (i : Nat) : TE := fun σ H Q => ∃ j : Nat, j < 10 ∧ σ[i]? = some (some (.int j)) ∧ Q (.int (bs j)) H
theorem base_imp {i : Nat} (σ : L2.St) (H : Hp) (Q : VK) (h : tBase i σ H Q) : tIf (tTest (tOp rEq (tVar i) (tC (.int 9)))) (tC (.int 3)) (tIf (tTest (tOp (rI0 fun i j => .bl (decide (i < j))) (tVar i) (tC (.int 3)))) (tC (.int 0)) (tIf (tTest (tOp (rI0 fun i j => .bl (decide (i < j))) (tVar i) (tC (.int 6)))) (tC (.int 1)) (tC (.int 2)))) σ H Q := by
  obtain ⟨j, hj, e, q⟩ := h
  match j, hj, e, q with
  | 0, _, e, q => exact ⟨_, e, rfl, _, rfl, iteF ⟨_, e, _, _, rfl, rfl, _, rfl, iteT q⟩⟩
  | 1, _, e, q => exact ⟨_, e, rfl, _, rfl, iteF ⟨_, e, _, _, rfl, rfl, _, rfl, iteT q⟩⟩
  | 2, _, e, q => exact ⟨_, e, rfl, _, rfl, iteF ⟨_, e, _, _, rfl, rfl, _, rfl, iteT q⟩⟩
  | 3, _, e, q => exact ⟨_, e, rfl, _, rfl, iteF ⟨_, e, _, _, rfl, rfl, _, rfl, iteF ⟨_, e, _, _, rfl, rfl, _, rfl, iteT q⟩⟩⟩
  | 4, _, e, q => exact ⟨_, e, rfl, _, rfl, iteF ⟨_, e, _, _, rfl, rfl, _, rfl, iteF ⟨_, e, _, _, rfl, rfl, _, rfl, iteT q⟩⟩⟩
  | 5, _, e, q => exact ⟨_, e, rfl, _, rfl, iteF ⟨_, e, _, _, rfl, rfl, _, rfl, iteF ⟨_, e, _, _, rfl, rfl, _, rfl, iteT q⟩⟩⟩
  | 6, _, e, q => exact ⟨_, e, rfl, _, rfl, iteF ⟨_, e, _, _, rfl, rfl, _, rfl, iteF ⟨_, e, _, _, rfl, rfl, _, rfl, iteF q⟩⟩⟩
  | 7, _, e, q => exact ⟨_, e, rfl, _, rfl, iteF ⟨_, e, _, _, rfl, rfl, _, rfl, iteF ⟨_, e, _, _, rfl, rfl, _, rfl, iteF q⟩⟩⟩
  | 8, _, e, q => exact ⟨_, e, rfl, _, rfl, iteF ⟨_, e, _, _, rfl, rfl, _, rfl, iteF ⟨_, e, _, _, rfl, rfl, _, rfl, iteF q⟩⟩⟩
  | 9, _, e, q => exact ⟨_, e, rfl, _, rfl, iteT q⟩
section
variable {P : Program} {w : World} {K : PySem.W.Frag} {mg : Str → Option Value} {base : Heap} {C fI : Nat → Addr}
abbrev nRight : List Str := ["_law_box_here", "_law_turn", "_law_what", "_law_pairs", "_law_due", "_law_k", "_law_made_here", "_law_spot", "_law_error", "_law_base", "_law_pair", "_law_place"]
theorem scRight : FnScope nRight ["_law_box_here"] (defScope sRight) := ⟨rfl, rfl, rfl, by decide +kernel, rfl, by decide +kernel, by decide +kernel⟩
def spRight : Sp := fun vs H Q _ => ∃ b : Addr, vs = [.ref b] ∧ Bx H b ∧ ∀ H' : Hp, Dr b H H' → Q (.bl true) H'
theorem ok_right {f ft fo fs fk fb fm ff : Addr} {fd fdt fdo fds fdk fdb fdm fdf : FuncData} (F : Fun K "_law_right" "_law_right" sRight f fd) (T : Tab K C fI)
    (Ft : Fns P w K mg base 7 "_law_take" ["_law_box_here", "_law_size"] spTake ft fdt) (Fo : Fns P w K mg base 7 "_law_of" ["_law_box_here", "_law_some"] (spOf K) fo fdo)
    (Fs : Fns P w K mg base 7 "_law_same" ["_law_found", "_law_due"] (spSame K 7) fs fds) (Fk : Fns P w K mg base 7 "_law_kinds" ["_law_error"] (spKinds C 10 id) fk fdk)
    (Fb : Fns P w K mg base 7 "_law_bases" ["_law_error"] (spKinds C 5 bs) fb fdb) (Fm : Fns P w K mg base 7 "_law_made" ["_law_what"] (spMade C) fm fdm) (Ff : Fns P w K mg base 7 "_law_fields" ["_law_made_here"] (spFields K C) ff fdf)
    (mr : mg "range" = none) (me : mg "enumerate" = none) (m1 : mg "RED" = some (.str "red" t1)) (m2 : mg "BLUE" = some (.str "blue" t2)) (m3 : mg "MOST" = some (.int 400 t3)) :
    FnOk P w K mg base CX0 8 f fd ["_law_box_here"] spRight := by
  refine F.ok scRight (fun vs H Q E h => ?_) (fun cdv A outer s H vs Q E hr h => ?_)
  · obtain ⟨b, rfl, _⟩ := h
    rfl
  obtain ⟨b, rfl, hb, q⟩ := h
  have hu := hr.units
  refine ⟨_, (pss_cons (ps_for PassesOwn.never rfl (pi_range1 rfl mr (pa_cons pe_int pa_nil)) (pg_name (i := 1) scRight.nd rfl (.inl rfl))
      (pss_cons (ps_set (i := 2) scRight.nd rfl (.inl rfl) (pe_fn Fo hr rfl (pa_cons (pv 0) (pa_cons (pe_lst (pa_cons (pe_op op_sub (pe_fn Ft hr rfl (pa_cons (pv 0) (pa_cons pe_int pa_nil))) pe_int) (pa_cons (pe_tup (pa_cons (pe_fn Ft hr rfl (pa_cons (pv 0) (pa_cons pe_int pa_nil))) (pa_cons pe_str pa_nil))) (pa_cons (pe_op op_pow pe_int pe_int) pa_nil)))) pa_nil))))
      (pss_cons (ps_set (i := 3) scRight.nd rfl (.inl rfl) (pe_fn Fm hr rfl (pa_cons (pv 2) pa_nil)))
      (pss_cons (ps_set (i := 4) scRight.nd rfl (.inl rfl) (pe_op op_cat (pe_op op_cat (pe_op op_rep (pe_lst (pa_cons (pv 2) pa_nil)) pe_int) (pe_lst (pa_cons pe_non pa_nil))) (pe_op op_rep (pe_lst (pa_cons (pv 2) pa_nil)) pe_int)))
      (pss_one (ps_for PassesOwn.never rfl (pi_range1 rfl mr (pa_cons pe_int pa_nil)) (pg_name (i := 5) scRight.nd rfl (.inr rfl))
      (pss_cons (ps_setLc (i := 6) (own := [("_law_pair", 10)]) (g := gName 10) (tt := tYes) rfl scRight.nd rfl rfl (sw_true rfl rfl rfl (by decide +kernel)) (pi_seq (pv 3)) (blkOk_by (own := [("_law_pair", 10)]) (N := nRight) (sc := defScope sRight) (by decide +kernel)) (fun _ _ _ _ _ => pg_name (i := 10) scRight.nd rfl (Or.inl rfl)) (fun _ _ _ _ _ => pts_nil) (fun _ _ _ _ _ => pe_hide (pe_ix (r := rIxT K) ix_tup (pv 10) (pv 5) (fun _ _ => rfl))))
      (pss_cons (ps_if (pt_not (pt_val (pe_fn Fs hr rfl (pa_cons (pe_fn Ff hr rfl (pa_cons (pv 6) pa_nil)) (pa_cons (pv 4) pa_nil))))) (pss_one (ps_ret pe_bl)) pss_nil)
      (pss_one (ps_for PassesOwn.never rfl (pi_enum rfl me (pa_cons (pv 6) pa_nil)) (pg_tup rfl (pgs_cons (pg_name (i := 7) scRight.nd rfl (.inr rfl)) (pgs_cons (pg_name (i := 8) scRight.nd rfl (.inl rfl)) pgs_nil)))
      (pss_cons (ps_set (i := 9) scRight.nd rfl (.inr rfl) (PE.imp (t' := tBase 7) (pe_ifExp (pt_cmpR op_eq (pv 7) pe_int (nomark _)) pe_int (pe_ifExp (pt_cmpR op_lt (pv 7) pe_int (nomark _)) pe_int (pe_ifExp (pt_cmpR op_lt (pv 7) pe_int (nomark _)) pe_int pe_int))) base_imp))
      (pss_cons (ps_if (pt_cmpR (op_neD hu) (pe_fn Fb hr rfl (pa_cons (pv 8) pa_nil)) (pe_lc (own := [("_law_place", 11)]) (g := gName 11) (tt := tYes) rfl scRight.nd (pi_range1 rfl mr (pa_cons pe_int pa_nil)) (blkOk_by (own := [("_law_place", 11)]) (N := nRight) (sc := defScope sRight) (by decide +kernel)) (fun _ _ _ _ _ => pg_name (i := 11) scRight.nd rfl (Or.inl rfl)) (fun _ _ _ _ _ => pts_nil) (fun _ _ _ _ _ => pe_hide (pe_cmpR op_eq (pv 11) (pv 9) (nomark _)))) (nomark _)) (pss_one (ps_ret pe_bl)) pss_nil)
      (pss_one (ps_if (pt_cmpR (op_neD hu) (pe_fn Fk hr rfl (pa_cons (pv 8) pa_nil)) (pe_lc (own := [("_law_place", 11)]) (g := gName 11) (tt := tYes) rfl scRight.nd (pi_range1 rfl mr (pa_cons pe_int pa_nil)) (blkOk_by (own := [("_law_place", 11)]) (N := nRight) (sc := defScope sRight) (by decide +kernel)) (fun _ _ _ _ _ => pg_name (i := 11) scRight.nd rfl (Or.inl rfl)) (fun _ _ _ _ _ => pts_nil) (fun _ _ _ _ _ => pe_hide (pe_cmpR op_eq (pv 11) (pv 7) (nomark _)))) (nomark _)) (pss_one (ps_ret pe_bl)) pss_nil))))))))))))))
      (pss_one (ps_ret (pe_fn Fs hr rfl (pa_cons (pe_lst (pa_cons (pe_glob (v := .str "red") rfl m1 ⟨_, rfl⟩) (pa_cons (pe_glob (v := .str "blue") rfl m2 ⟨_, rfl⟩) (pa_cons (pe_glob (v := .int 400) rfl m3 ⟨_, rfl⟩) pa_nil)))) (pa_cons (pe_lst (pa_cons pe_str (pa_cons pe_str (pa_cons pe_int pa_nil)))) pa_nil)))))), ?_⟩
  refine ⟨3, rfl, by decide, by decide, for_it walk_range (fun i σ H3 => ∃ y1 y2 y3 y4 y5 y6 y7 y8 y9 y10 y11 : Option V, σ = [some (.ref b), y1, y2, y3, y4, y5, y6, y7, y8, y9, y10, y11] ∧ Dr b H H3)
    ⟨none, none, none, none, none, none, none, none, none, none, none, rfl, Dr.refl hb⟩ (fun _ _ _ _ _ => trivial) (fun i x σ H3 H4 hi h hy => ?_) (fun σ H3 h => ?_)⟩
  · obtain ⟨y1, y2, y3, y4, y5, y6, y7, y8, y9, y10, y11, rfl, dr⟩ := h
    obtain ⟨rfl, rfl⟩ := hy
    refine at_g (σ' := [some (.ref b), some (.int (0 + i)), y2, y3, y4, y5, y6, y7, y8, y9, y10, y11]) rfl ?_
    -- what
    refine ⟨_, rfl, _, rfl, b, 99, rfl, dr.box, by decide, by decide, fun v1 H5 v10 v11 d1 => ?_⟩
    refine ⟨_, _, rfl, rfl, _, rfl, b, 9, rfl, d1.box, by decide, by decide, fun v2 H6 v20 v21 d2 => ?_⟩
    refine ⟨(by show 2 ≤ sizeLine; decide), fun TT nT => ?_⟩
    refine ⟨_, _, rfl, rfl, ⟨by decide, by decide, by decide⟩, (by show 3 ≤ sizeLine; decide), fun l nl => ?_⟩
    have d3 : Dr b H (upd (upd H6 TT (.tup [.int v2, .str "blue"])) l (.lst [.int (v1 - 40), .ref TT, .int (10 ^ Int.toNat 12)])) :=
      ((dr.trans d1).trans d2).trans ((Dr.new d2.box nT).trans (Dr.new (Dr.new d2.box nT).box nl))
    have ebx := (Dr.new (o := .tup [.int v2, .str "blue"]) d2.box nT).box
    have lb : l ≠ b := fun z => by
      obtain ⟨_, _, _, e⟩ := ebx
      rw [z, e] at nl; cases nl
    have Tb : TT ≠ b := fun z => by
      obtain ⟨_, _, _, e⟩ := d2.box
      rw [z, e] at nT; cases nT
    refine ⟨b, l, _, rfl, d3.box, lb, SqL.of upd_same, (fun z => nomatch z), (by show 3 < 1000; decide), fun j v H7 hv d4 => ?_⟩
    obtain ⟨d, hd, okd⟩ : ∃ d, Dp K H7 v d ∧ okD 3 d := by
      match j, hv with
      | 0, hv => cases hv; exact ⟨_, .int _, trivial⟩
      | 1, hv =>
        cases hv
        refine ⟨.tuple [.int v2, .str "blue"], .tup (.inl (.inl (d4.same _ _ Tb (same_new nl _ _ upd_same)))) (.cons (.int _) (.cons (.str _) .nil)), by show 2 ≤ 1000; decide, fun e he => ?_⟩
        simp only [List.mem_cons, List.not_mem_nil, or_false] at he
        rcases he with rfl | rfl <;> exact trivial
      | 2, hv => cases hv; exact ⟨_, .int _, trivial⟩
      | n + 3, hv => cases hv
    have d5 := d3.trans d4
    clear d4 d3 d2 d1 hv nl nT ebx lb Tb
    refine at_g (σ' := [some (.ref b), some (.int (0 + i)), some v, y3, y4, y5, y6, y7, y8, y9, y10, y11]) rfl ?_
    -- pairs
    refine ⟨_, rfl, v, rfl, fun p Ts H8 s8 np ep tl hT => ?_⟩
    refine at_g (σ' := [some (.ref b), some (.int (0 + i)), some v, some (.ref p), y4, y5, y6, y7, y8, y9, y10, y11]) rfl ?_
    -- due
    refine ⟨v, rfl, (by show 1 ≤ sizeLine; decide), fun a1 n1 => ?_⟩
    refine ⟨a1, 7, _, rfl, rfl, upd_same, by decide, by decide, (by show 1 * 7 ≤ sizeLine; decide), fun a2 n2 => ?_⟩
    refine ⟨(by show 1 ≤ sizeLine; decide), fun a3 n3 => ?_⟩
    refine ⟨a2, a3, _, _, rfl, rfl, same_new n3 _ _ upd_same, upd_same, (by show 8 ≤ sizeLine; decide), fun a4 n4 => ?_⟩
    refine ⟨v, rfl, (by show 1 ≤ sizeLine; decide), fun a5 n5 => ?_⟩
    refine ⟨a5, 2, _, rfl, rfl, upd_same, by decide, by decide, (by show 1 * 2 ≤ sizeLine; decide), fun a6 n6 => ?_⟩
    refine ⟨a4, a6, _, _, rfl, rfl, same_new n6 _ _ (same_new n5 _ _ upd_same), upd_same, (by show 10 ≤ sizeLine; decide), fun du nd => ?_⟩
    refine at_g (σ' := [some (.ref b), some (.int (0 + i)), some v, some (.ref p), some (.ref du), y5, y6, y7, y8, y9, y10, y11]) rfl ?_
    obtain ⟨G, eG, s9, edu⟩ : ∃ G, (upd (upd (upd (upd (upd (upd (upd H8 a1 (.lst [v])) a2 (.lst (List.replicate (Int.toNat 7) [v]).flatten)) a3 (.lst [.non])) a4 (.lst ((List.replicate (Int.toNat 7) [v]).flatten ++ [.non]))) a5 (.lst [v])) a6 (.lst (List.replicate (Int.toNat 2) [v]).flatten)) du (.lst (((List.replicate (Int.toNat 7) [v]).flatten ++ [.non]) ++ (List.replicate (Int.toNat 2) [v]).flatten))) = G ∧ Same H8 G ∧ G du = some (.lst [v, v, v, v, v, v, v, .non, v, v]) :=
      ⟨_, rfl, (((((((same_new n1).trans (same_new n2)).trans (same_new n3)).trans (same_new n4)).trans (same_new n5)).trans (same_new n6)).trans (same_new nd)), upd_same⟩
    have key : ∀ {N : L2.St → Hp → Prop} {σ : L2.St}, N σ G → N σ (upd (upd (upd (upd (upd (upd (upd H8 a1 (.lst [v])) a2 (.lst (List.replicate (Int.toNat 7) [v]).flatten)) a3 (.lst [.non])) a4 (.lst ((List.replicate (Int.toNat 7) [v]).flatten ++ [.non]))) a5 (.lst [v])) a6 (.lst (List.replicate (Int.toNat 2) [v]).flatten)) du (.lst (((List.replicate (Int.toNat 7) [v]).flatten ++ [.non]) ++ (List.replicate (Int.toNat 2) [v]).flatten))) := fun h => by rw [eG]; exact h
    refine key ?_
    clear key eG nd n6 n5 n4 n3 n2 n1
    have S0 := s8.trans s9
    have eTs : G p = some (.lst (Ts.map V.ref)) := s9 _ _ ep
    have hd9 := Dp.same S0 _ hd
    have hT9 : ∀ (k : Nat) T, Ts[k]? = some T → Pr C G T k v := fun k T e => (hT k T e).same s9
    have dG : Dr b H G := d5.trans (Dr.of d5.box S0)
    clear hT ep s8 s9 np d5 hd S0 dr
    -- for k in range(2)
    refine ⟨2, rfl, by decide, by decide, for_it walk_range (fun m σ H3 => ∃ y5 y6 y7 y8 y9 y10 y11 : Option V, σ = [some (.ref b), some (.int (0 + i)), some v, some (.ref p), some (.ref du), y5, y6, y7, y8, y9, y10, y11] ∧ Same G H3)
      ⟨_, _, _, _, _, _, _, rfl, Same.refl _⟩ (fun _ _ _ _ _ => trivial) (fun m x σ H10 H11 hm h hy => ?_) (fun σ H10 h => ?_)⟩
    · clear y5 y6 y7 y8 y9 y10 y11
      obtain ⟨y5, y6, y7, y8, y9, y10, y11, rfl, s10⟩ := h
      obtain ⟨rfl, rfl⟩ := hy
      refine at_g (σ' := [some (.ref b), some (.int (0 + i)), some v, some (.ref p), some (.ref du), some (.int (0 + m)), y6, y7, y8, y9, y10, y11]) rfl ?_
      refine ⟨_, rfl, p, Ts.map V.ref, rfl, .inl (SqL.of (s10 _ _ eTs)), fun J wk => lc_map wk Same (fun a b => a.trans b) (fun j y F => Em C F y j v) (fun j y A B s e => e.same s) (by rw [List.length_map, tl]; decide) (Same.refl _) (fun F D acc sF nF => ?_) (fun j x D acc F H' hj nD sF nF hy B hB => ?_) (fun D ys F nD sF nF hl hR => ?_)⟩
      · have sD : Same _ (upd F D (.lst acc)) := sF.trans (same_new nF)
        exact ⟨fun _ z => sD.seq z, fun z => Same.tup sD z⟩
      · obtain ⟨rfl, hx⟩ := hy
        rw [List.getElem?_map] at hx
        obtain ⟨T', eT, rfl⟩ : ∃ T', Ts[j]? = some T' ∧ x = .ref T' := by
          cases e : Ts[j]? with
          | none => rw [e] at hx; cases hx
          | some T' => rw [e] at hx; exact ⟨T', rfl, (Option.some.inj hx).symm⟩
        obtain ⟨x1, x2, eT2, m1, m2⟩ := (hT9 j T' eT).same (s10.trans sF)
        refine hB _ F rfl nF fun Qt hq => ?_
        match m, hm with
        | 0, _ => exact ⟨_, rfl, _, rfl, T', [x1, x2], _, x1, rfl, rfl, .inl (.inl eT2), rfl, hq _ _ (Same.refl _) m1⟩
        | 1, _ => exact ⟨_, rfl, _, rfl, T', [x1, x2], _, x2, rfl, rfl, .inl (.inl eT2), rfl, hq _ _ (Same.refl _) m2⟩
      rw [List.length_map, tl] at hl
      refine at_g (σ' := [some (.ref b), some (.int (0 + i)), some v, some (.ref p), some (.ref du), some (.int (0 + m)), some (.ref D), y7, y8, y9, y10, y11]) rfl ?_
      have sD : Same F (upd F D (.lst ys)) := same_new nF
      have hR' : ∀ (k : Nat) x, ys[k]? = some x → Em C (upd F D (.lst ys)) x k v := fun k x e => (hR k x e).same sD
      have S1 : Same G (upd F D (.lst ys)) := s10.trans (sF.trans sD)
      have eD : upd F D (.lst ys) D = some (.lst ys) := upd_same
      generalize upd F D (.lst ys) = G1 at hR' S1 eD ⊢
      clear hR sD sF nF nD s10
      -- if not same(fields(made_here), due)
      refine ⟨_, rfl, D, ys, v, rfl, SqL.of eD, hl, hR', fun qf H12 s12 nq eq => ?_⟩
      have hd12 := Dp.same (S1.trans s12) _ hd9
      have ten : DpAll K H12 [v, v, v, v, v, v, v, .non, v, v] [d, d, d, d, d, d, d, .none, d, d] := .cons hd12 (.cons hd12 (.cons hd12 (.cons hd12 (.cons hd12 (.cons hd12 (.cons hd12 (.cons .non (.cons hd12 (.cons hd12 .nil)))))))))
      refine ⟨_, rfl, .ref qf, .ref du, .list [d, d, d, d, d, d, d, .none, d, d], rfl, .lst (SqL.of eq) ten, .lst (SqL.of ((S1.trans s12) _ _ edu)) ten, ⟨by show 10 ≤ 1000; decide, fun e he => ?_⟩, fun H13 s13 => ⟨true, rfl, iteF ?_⟩⟩
      · simp only [List.mem_cons, List.not_mem_nil, or_false] at he
        rcases he with rfl | rfl | rfl | rfl | rfl | rfl | rfl | rfl | rfl | rfl <;> first | exact trivial | exact okD_up okd
      -- the errors one by one
      have s14 := s12.trans s13
      refine ⟨_, rfl, D, ys, rfl, SqL.of (s14 _ _ eD), for_it (walk_enum (xs := ys)) (fun j σ H' => ∃ y7 y8 y9 y10 y11 : Option V, σ = [some (.ref b), some (.int (0 + i)), some v, some (.ref p), some (.ref du), some (.int (0 + m)), some (.ref D), y7, y8, y9, y10, y11] ∧ Same G1 H')
        ⟨_, _, _, _, _, rfl, s14⟩ (fun j σ H' _ h => ?_) (fun j x σ H' H'' hj h hy => ?_) (fun σ H' h => ?_)⟩
      · obtain ⟨_, _, _, _, _, _, z⟩ := h
        exact SqL.of (z _ _ eD)
      · clear y7 y8 y9 y10 y11
        obtain ⟨y7, y8, y9, y10, y11, rfl, s15⟩ := h
        obtain ⟨T', x1, x2, rfl, nT, rfl, e1, e2⟩ := hy
        cases e1
        have s16 := same_new (o := .tup [.int (j : Nat), x2]) nT
        refine ⟨T', _, rfl, .inl (.inl upd_same), rfl, _, _, rfl, _, _, rfl, rfl, ?_⟩
        refine at_s (σ' := [some (.ref b), some (.int (0 + i)), some v, some (.ref p), some (.ref du), some (.int (0 + m)), some (.ref D), some (.int (j : Nat)), some x2, y9, y10, y11]) rfl ?_
        have hj' : j < 10 := by omega
        have em : Em C (upd H' T' (.tup [.int (j : Nat), x2])) x2 j v := (hR' j x2 e2).same (s15.trans s16)
        have S2 := s15.trans s16
        generalize upd H' T' (.tup [.int (j : Nat), x2]) = G2 at em S2 ⊢
        clear s16 nT s15
        refine ⟨j, hj', rfl, ?_⟩
        refine at_g (σ' := [some (.ref b), some (.int (0 + i)), some v, some (.ref p), some (.ref du), some (.int (0 + m)), some (.ref D), some (.int (j : Nat)), some x2, some (.int (bs j)), y10, y11]) rfl ?_
        -- bases
        refine ⟨_, rfl, x2, v, j, rfl, hj', em, fun pb G3 s3 npb epb => ?_⟩
        refine ⟨5, rfl, by decide, by decide, lc_map walk_range Same (fun a b => a.trans b) (fun n y F => y = .bl (decide (n = bs j))) (fun n y A B s e => e) (by decide) (Same.refl _) (fun _ _ _ _ _ => trivial) (fun n x D' acc F H' hn nD sF nF hy B hB => ?_) (fun D' ys' F nD sF nF hl' hR2 => ?_)⟩
        · obtain ⟨rfl, rfl⟩ := hy
          refine hB _ F rfl nF fun Qt hq => ?_
          exact ⟨_, rfl, _, rfl, rfl, hq _ _ (Same.refl _) (el_eq _ _)⟩
        have eys := bls_eq (n := 5) hl' hR2
        subst eys
        have sD' := same_new (o := .lst (boolsV 5 (bs j))) nF
        refine ⟨boolsD 5 (bs j), boolsD 5 (bs j), bools_dp (sD' _ _ (sF _ _ epb)), bools_dp upd_same, (bools_5 _ (bs_lt j hj')).1, (bools_5 _ (bs_lt j hj')).1, ?_⟩
        rw [(bools_5 _ (bs_lt j hj')).2]
        refine ⟨false, rfl, iteF ?_⟩
        have s4 := s3.trans (sF.trans sD')
        have em4 := em.same s4
        have S4 := S2.trans s4
        generalize upd F D' (.lst (boolsV 5 (bs j))) = G4 at em4 S4 ⊢
        clear s4 sD' sF s3 em S2
        -- kinds
        refine ⟨_, rfl, x2, v, j, rfl, hj', em4, fun pb G5 s5 npb epb => ?_⟩
        refine ⟨10, rfl, by decide, by decide, lc_map walk_range Same (fun a b => a.trans b) (fun n y F => y = .bl (decide (n = j))) (fun n y A B s e => e) (by decide) (Same.refl _) (fun _ _ _ _ _ => trivial) (fun n x D' acc F H' hn nD sF nF hy B hB => ?_) (fun D' ys' F nD sF nF hl' hR2 => ?_)⟩
        · obtain ⟨rfl, rfl⟩ := hy
          refine hB _ F rfl nF fun Qt hq => ?_
          exact ⟨_, rfl, _, rfl, rfl, hq _ _ (Same.refl _) (el_eq _ _)⟩
        have eys := bls_eq (n := 10) hl' hR2
        subst eys
        have sD' := same_new (o := .lst (boolsV 10 j)) nF
        refine ⟨boolsD 10 j, boolsD 10 j, bools_dp (sD' _ _ (sF _ _ epb)), bools_dp upd_same, (bools_10 _ hj').1, (bools_10 _ hj').1, ?_⟩
        rw [(bools_10 _ hj').2]
        exact ⟨false, rfl, iteF ⟨_, _, _, _, _, rfl, S4.trans (s5.trans (sF.trans sD'))⟩⟩
      · obtain ⟨y7, y8, y9, y10, y11, rfl, s15⟩ := h
        exact ⟨_, _, _, _, _, _, _, rfl, S1.trans s15⟩
    · obtain ⟨y5, y6, y7, y8, y9, y10, y11, rfl, s10⟩ := h
      exact ⟨_, _, _, _, _, _, _, _, _, _, _, rfl, dG.trans (Dr.of dG.box s10)⟩
  · obtain ⟨y1, y2, y3, y4, y5, y6, y7, y8, y9, y10, y11, rfl, dr⟩ := h
    refine ⟨(by show 3 ≤ sizeLine; decide), fun l1 n1 => ⟨(by show 3 ≤ sizeLine; decide), fun l2 n2 => ?_⟩⟩
    have s1 := same_new (o := .lst [.str "red", .str "blue", .int 400]) n1
    have s2 := same_new (o := .lst [.str "red", .str "blue", .int 400]) n2
    refine ⟨.ref l1, .ref l2, .list [.str "red", .str "blue", .int 400], rfl, .lst (SqL.of (s2 _ _ upd_same)) (.cons (.str _) (.cons (.str _) (.cons (.int _) .nil))), .lst (SqL.of upd_same) (.cons (.str _) (.cons (.str _) (.cons (.int _) .nil))), ⟨by show 3 ≤ 1000; decide, fun e he => ?_⟩, fun H5 s5 => ?_⟩
    · simp only [List.mem_cons, List.not_mem_nil, or_false] at he
      rcases he with rfl | rfl | rfl <;> exact trivial
    · exact q _ (dr.trans (Dr.of dr.box ((s1.trans s2).trans s5)))
end
end XL
namespace XL
open PySem PySem.Spec PyProof.Rows L2
abbrev sLaw : Stmt := topS 25
section
variable {P : Program} {w : World} {K : PySem.W.Frag} {mg : Str → Option Value} {base : Heap}
abbrev nLaw : List Str := ["_law_script", "_law_cells_here", "_law_k"]
theorem scLaw : FnScope nLaw ["_law_script"] (defScope sLaw) := ⟨rfl, rfl, rfl, by decide +kernel, rfl, by decide +kernel, by decide +kernel⟩
def spLaw (K : PySem.W.Frag) : Sp := fun vs H Q _ => ∃ (a : Addr) (ns : List Int), vs = [.ref a] ∧ SqL K H a (ns.map V.int) ∧ ns.length ≤ 63 ∧ ∀ H', Q (.bl true) H'
theorem ok_law {f fc fx fr : Addr} {fd fdc fdx fdr : FuncData} (F : Fun K "law" "law" sLaw f fd)
    (C : Fns P w K mg base 8 "_law_cells" ["_law_script", "_law_utmost"] (spCells K) fc fdc) (B : Fns P w K mg base 8 "_law_box" ["_law_cells_here", "_law_k"] (spBox K) fx fdx)
    (R : Fns P w K mg base 8 "_law_right" ["_law_box_here"] spRight fr fdr) (me : mg "len" = none) (ma : mg "all" = none) (mr : mg "range" = none) :
    FnOk P w K mg base CX0 9 f fd ["_law_script"] (spLaw K) := by
  refine F.ok scLaw (fun vs H Q E h => ?_) (fun cdv A outer s H vs Q E hr h => ?_)
  · obtain ⟨a, ns, rfl, _⟩ := h
    rfl
  obtain ⟨a, ns, rfl, ha, hn, q⟩ := h
  refine ⟨_, pss_cons (ps_set (i := 1) scLaw.nd rfl (.inr rfl) (pe_fn C hr rfl (pa_cons (pv 0) (pa_cons pe_int pa_nil))))
    (pss_one (ps_ret (pe_callB (cr_all rfl) rfl ma boot_all (pa_cons (pe_lc (own := [("_law_k", 2)]) (g := gName 2) (tt := tYes) rfl scLaw.nd (pi_range1 rfl mr (pa_cons (pe_callB call_len_seq rfl me PySem.boot_len (pa_cons (pv 1) pa_nil)) pa_nil)) (blkOk_by (own := [("_law_k", 2)]) (N := nLaw) (sc := defScope sLaw) (by decide +kernel))
        (fun _ _ _ _ _ => pg_name (i := 2) scLaw.nd rfl (Or.inl rfl)) (fun _ _ _ _ _ => pts_nil) (fun _ _ _ _ _ => pe_hide (pe_fn R hr rfl (pa_cons (pe_fn B hr rfl (pa_cons (pv 1) (pa_cons (pv 2) pa_nil))) pa_nil)))) pa_nil)))), ?_⟩
  refine ⟨_, rfl, a, ns, 2, rfl, ha, hn, by decide, by decide, fun p zs H1 s1 np ep z1 z2 => ?_⟩
  refine at_g (σ' := [some (.ref a), some (.ref p), none]) rfl ?_
  refine ⟨_, rfl, p, _, rfl, .inl (SqL.of ep), _, rfl, by rw [List.length_map]; omega, by rw [List.length_map]; omega, lc_map walk_range Same (fun a b => a.trans b) (fun i y F => y = .bl true) (fun i y A B _ p => p) (by rw [List.length_map]; exact Nat.lt_of_le_of_lt z2 (by decide)) (Same.refl _) (fun _ _ _ _ _ => trivial) (fun j x D acc F H' hj nD sF nF hy B hB => ?_) (fun D ys F nD sF nF hl hR => ?_)⟩
  · obtain ⟨rfl, rfl⟩ := hy
    have hj' : j < zs.length := by rw [List.length_map] at hj; omega
    refine hB _ F rfl nF fun Qt hq => ?_
    refine ⟨_, rfl, _, rfl, p, zs, j, by show [V.ref p, V.int (0 + (j : Int))] = _; rw [Int.zero_add], SqL.of (sF _ _ ep), hj', fun b x y nb => ?_⟩
    refine ⟨b, rfl, ⟨x, y, 0, upd_same⟩, fun F' d => hq _ _ (fun c o e => ?_) rfl⟩
    have hc : c ≠ b := ne_of_none e nb
    exact d.same c o hc (by rw [upd_ne hc]; exact e)
  · refine ⟨D, List.replicate ys.length true, rfl, ?_, ?_⟩
    · rw [← eq_true_map ys hR]; exact SqL.of upd_same
    · rw [all_true]
      exact q _
end
/-- an own exception straight over the b-th of the four -/
theorem exk_mk {K : PySem.W.Frag} {C : Addr} {b : Nat} {nm q : Str} {N : Addr} {bs : List Value} {sn : List Str} {sub : List Value} {ab : Bool} {col : Option Bool} {dd : Option Addr} {k0 k1 k2 k3 k5 : Option Value} (base : ExcBaseFacts (bN b) (bW b) (bI b) (bM b)) (pass : ∀ self, refuseLoop self "__setattr__" (bM b) = pure ())
    (obj : (bM b).contains (.type "object") = true) (bas : (bM b).contains (.type "BaseException") = true) (hC : K.lookup C = some (excClassObj nm q C N bs (bM b) true sn sub ab col dd k0 k1 k2 k3 k5 (bW b))) (sa : PySem.W.findIn K (.ref C) "__setattr__" = some (some (.builtin "object.__setattr__"))) (ga : PySem.W.findIn K (.ref C) "__getattribute__" = some (some (.builtin "BaseException.__getattribute__"))) (gt : PySem.W.findIn K (.ref C) "__getattr__" = some none)
    (kC : PySem.W.keepIn K (.ref C) = true) (ca : PySem.W.findIn K (.ref C) "__class__" = some (some (.builtin "object.__class__"))) (hd : PySem.W.hasDictIn K C = true) (sg : PySem.W.specialIn K (.builtin "object.__class__") "__get__" = some (some (.builtin "getset_descriptor.__get__"))) (st : PySem.W.takesIn K (.builtin "object.__class__") = some true) : ExK K C b := by
  have hcl : PySem.W.clsIn K C = some { name := nm, bases := bs, mro := .ref C :: bM b, ns := N, qualname := q, hasDict := true, slotNames := sn, subclasses := sub, abstract := ab, collection := col, hasDel := false } := by unfold PySem.W.clsIn; rw [hC] <;> rfl
  have mo : ∀ v, (bM b).contains v = true → PySem.W.mroIn K C v = some true := fun v hv => by
    unfold PySem.W.mroIn
    rw [hcl]
    show some ((Value.ref C :: bM b).contains v) = some true
    rw [List.contains_cons, hv, Bool.or_true]
  exact ⟨base, fun self => by rw [refuseLoop_ref]; exact pass self, obj, ⟨nm, q, N, bs, sn, sub, ab, col, dd, k0, k1, k2, k3, k5, hC⟩, sa, ga, gt, mo _ bas, kC, hd, ca, sg, st, mo _ obj⟩
theorem fn_up {P : Program} {w : World} {K : PySem.W.Frag} {mg : Str → Option Value} {base : Heap} {k n : Nat} {f : Addr} {fd : FuncData} {ps : List Str} {sp : Sp} (h : k ≤ n) (F : FnOk P w K mg base CX0 k f fd ps sp) : FnOk P w K mg base CX0 n f fd ps sp :=
  ⟨F.len, fun A outer s H args us vs Q E hr e0 hb r q => F.run A outer s H args us vs Q E (hr.mono h) e0 hb r q⟩
theorem C_at {c0 c1 c2 c3 c4 c5 c6 c7 c8 c9 : Addr} : ∀ j, j < 10 → ([c0, c1, c2, c3, c4, c5, c6, c7, c8, c9] : List Addr)[j]? = some ((fun k => match k with | 0 => c0 | 1 => c1 | 2 => c2 | 3 => c3 | 4 => c4 | 5 => c5 | 6 => c6 | 7 => c7 | 8 => c8 | _ => c9 : Nat → Addr) j)
  | 0, _ => rfl | 1, _ => rfl | 2, _ => rfl | 3, _ => rfl | 4, _ => rfl | 5, _ => rfl | 6, _ => rfl | 7, _ => rfl | 8, _ => rfl | 9, _ => rfl | n + 10, h => absurd h (by omega)
theorem inj_of {c0 c1 c2 c3 c4 c5 c6 c7 c8 c9 : Addr} (h : ([c0, c1, c2, c3, c4, c5, c6, c7, c8, c9] : List Addr).Nodup) (j k : Nat) (hj : j < 10) (hk : k < 10) (e : ([c0, c1, c2, c3, c4, c5, c6, c7, c8, c9] : List Addr)[j]? = ([c0, c1, c2, c3, c4, c5, c6, c7, c8, c9] : List Addr)[k]?) : j = k :=
  (List.getElem?_inj (l := [c0, c1, c2, c3, c4, c5, c6, c7, c8, c9]) hj h).mp e
set_option maxHeartbeats 8000000 in
theorem all_mk {l : PySem.W.OpenLaw} {w : World} {K : PySem.W.Frag} {h : Heap} {mg : Str → Option Value} {fa f1 f2 f3 f4 f5 f6 f7 f8 f9 f10 f11 c0 c1 c2 c3 c4 c5 c6 c7 c8 c9 e0 e1 e2 e3 e4 e5 e6 e7 e8 e9 : Addr} {t1 t2 t3 : Tok} (X : K.In h) (G : h.Ns mainGlobals mg) (hfa : mg "law" = some (.ref fa))
    {od1 an1 : Option Addr} {sl1 : Array (Option Value)} {oc1 kV1 dc1 pm1 cd1 ct1 : Value}
    {od2 an2 : Option Addr} {sl2 : Array (Option Value)} {oc2 kV2 dc2 pm2 cd2 ct2 : Value}
    {od3 an3 : Option Addr} {sl3 : Array (Option Value)} {oc3 kV3 dc3 pm3 cd3 ct3 : Value}
    {od4 an4 : Option Addr} {sl4 : Array (Option Value)} {oc4 kV4 dc4 pm4 cd4 ct4 : Value}
    {od5 an5 : Option Addr} {sl5 : Array (Option Value)} {oc5 kV5 dc5 pm5 cd5 ct5 : Value}
    {od6 an6 : Option Addr} {sl6 : Array (Option Value)} {oc6 kV6 dc6 pm6 cd6 ct6 : Value}
    {od7 an7 : Option Addr} {sl7 : Array (Option Value)} {oc7 kV7 dc7 pm7 cd7 ct7 : Value}
    {od8 an8 : Option Addr} {sl8 : Array (Option Value)} {oc8 kV8 dc8 pm8 cd8 ct8 : Value}
    {od9 an9 : Option Addr} {sl9 : Array (Option Value)} {oc9 kV9 dc9 pm9 cd9 ct9 : Value}
    {od10 an10 : Option Addr} {sl10 : Array (Option Value)} {oc10 kV10 dc10 pm10 cd10 ct10 : Value}
    {od11 an11 : Option Addr} {sl11 : Array (Option Value)} {oc11 kV11 dc11 pm11 cd11 ct11 : Value}
    {nm0 q0 : Str} {N0 : Addr} {bb0 : List Value} {sn0 : List Str} {sub0 : List Value} {ab0 : Bool} {col0 : Option Bool} {dd0 : Option Addr} {ma0 mb0 mc0 md0 me0 : Option Value} {xod0 xan0 : Option Addr} {xsl0 : Array (Option Value)} {xoc0 xkV0 xdc0 xpm0 xcd0 xct0 : Value}
    {nm1 q1 : Str} {N1 : Addr} {bb1 : List Value} {sn1 : List Str} {sub1 : List Value} {ab1 : Bool} {col1 : Option Bool} {dd1 : Option Addr} {ma1 mb1 mc1 md1 me1 : Option Value} {xod1 xan1 : Option Addr} {xsl1 : Array (Option Value)} {xoc1 xkV1 xdc1 xpm1 xcd1 xct1 : Value}
    {nm2 q2 : Str} {N2 : Addr} {bb2 : List Value} {sn2 : List Str} {sub2 : List Value} {ab2 : Bool} {col2 : Option Bool} {dd2 : Option Addr} {ma2 mb2 mc2 md2 me2 : Option Value} {xod2 xan2 : Option Addr} {xsl2 : Array (Option Value)} {xoc2 xkV2 xdc2 xpm2 xcd2 xct2 : Value}
    {nm3 q3 : Str} {N3 : Addr} {bb3 : List Value} {sn3 : List Str} {sub3 : List Value} {ab3 : Bool} {col3 : Option Bool} {dd3 : Option Addr} {ma3 mb3 mc3 md3 me3 : Option Value} {xod3 xan3 : Option Addr} {xsl3 : Array (Option Value)} {xoc3 xkV3 xdc3 xpm3 xcd3 xct3 : Value}
    {nm4 q4 : Str} {N4 : Addr} {bb4 : List Value} {sn4 : List Str} {sub4 : List Value} {ab4 : Bool} {col4 : Option Bool} {dd4 : Option Addr} {ma4 mb4 mc4 md4 me4 : Option Value} {xod4 xan4 : Option Addr} {xsl4 : Array (Option Value)} {xoc4 xkV4 xdc4 xpm4 xcd4 xct4 : Value}
    {nm5 q5 : Str} {N5 : Addr} {bb5 : List Value} {sn5 : List Str} {sub5 : List Value} {ab5 : Bool} {col5 : Option Bool} {dd5 : Option Addr} {ma5 mb5 mc5 md5 me5 : Option Value} {xod5 xan5 : Option Addr} {xsl5 : Array (Option Value)} {xoc5 xkV5 xdc5 xpm5 xcd5 xct5 : Value}
    {nm6 q6 : Str} {N6 : Addr} {bb6 : List Value} {sn6 : List Str} {sub6 : List Value} {ab6 : Bool} {col6 : Option Bool} {dd6 : Option Addr} {ma6 mb6 mc6 md6 me6 : Option Value} {xod6 xan6 : Option Addr} {xsl6 : Array (Option Value)} {xoc6 xkV6 xdc6 xpm6 xcd6 xct6 : Value}
    {nm7 q7 : Str} {N7 : Addr} {bb7 : List Value} {sn7 : List Str} {sub7 : List Value} {ab7 : Bool} {col7 : Option Bool} {dd7 : Option Addr} {ma7 mb7 mc7 md7 me7 : Option Value} {xod7 xan7 : Option Addr} {xsl7 : Array (Option Value)} {xoc7 xkV7 xdc7 xpm7 xcd7 xct7 : Value}
    {nm8 q8 : Str} {N8 : Addr} {bb8 : List Value} {sn8 : List Str} {sub8 : List Value} {ab8 : Bool} {col8 : Option Bool} {dd8 : Option Addr} {ma8 mb8 mc8 md8 me8 : Option Value} {xod8 xan8 : Option Addr} {xsl8 : Array (Option Value)} {xoc8 xkV8 xdc8 xpm8 xcd8 xct8 : Value}
    {nm9 q9 : Str} {N9 : Addr} {bb9 : List Value} {sn9 : List Str} {sub9 : List Value} {ab9 : Bool} {col9 : Option Bool} {dd9 : Option Addr} {ma9 mb9 mc9 md9 me9 : Option Value} {xod9 xan9 : Option Addr} {xsl9 : Array (Option Value)} {xoc9 xkV9 xdc9 xpm9 xcd9 xct9 : Value}
    (a1 : PySem.W.nsIn K mainGlobals "_law_take" = some (some (.ref f1)))
    (l1 : K.lookup f1 = some ⟨oc1, od1, .func (PySem.W.fnOf "_law_take" "_law_take" (defArgs sTake) (defBody sTake) (defScope sTake) .none kV1 dc1 pm1 an1 cd1 ct1), sl1⟩)
    (d1 : PySem.W.codeIn K cd1 "_law_take" = true)
    (k1 : PySem.W.keepIn K (.ref f1) = true)
    (a2 : PySem.W.nsIn K mainGlobals "_law_of" = some (some (.ref f2)))
    (l2 : K.lookup f2 = some ⟨oc2, od2, .func (PySem.W.fnOf "_law_of" "_law_of" (defArgs sOf) (defBody sOf) (defScope sOf) .none kV2 dc2 pm2 an2 cd2 ct2), sl2⟩)
    (d2 : PySem.W.codeIn K cd2 "_law_of" = true)
    (k2 : PySem.W.keepIn K (.ref f2) = true)
    (a3 : PySem.W.nsIn K mainGlobals "_law_same" = some (some (.ref f3)))
    (l3 : K.lookup f3 = some ⟨oc3, od3, .func (PySem.W.fnOf "_law_same" "_law_same" (defArgs sSame) (defBody sSame) (defScope sSame) .none kV3 dc3 pm3 an3 cd3 ct3), sl3⟩)
    (d3 : PySem.W.codeIn K cd3 "_law_same" = true)
    (k3 : PySem.W.keepIn K (.ref f3) = true)
    (a4 : PySem.W.nsIn K mainGlobals "_law_cells" = some (some (.ref f4)))
    (l4 : K.lookup f4 = some ⟨oc4, od4, .func (PySem.W.fnOf "_law_cells" "_law_cells" (defArgs sCells) (defBody sCells) (defScope sCells) .none kV4 dc4 pm4 an4 cd4 ct4), sl4⟩)
    (d4 : PySem.W.codeIn K cd4 "_law_cells" = true)
    (k4 : PySem.W.keepIn K (.ref f4) = true)
    (a5 : PySem.W.nsIn K mainGlobals "_law_box" = some (some (.ref f5)))
    (l5 : K.lookup f5 = some ⟨oc5, od5, .func (PySem.W.fnOf "_law_box" "_law_box" (defArgs sBox) (defBody sBox) (defScope sBox) .none kV5 dc5 pm5 an5 cd5 ct5), sl5⟩)
    (d5 : PySem.W.codeIn K cd5 "_law_box" = true)
    (k5 : PySem.W.keepIn K (.ref f5) = true)
    (a6 : PySem.W.nsIn K mainGlobals "_law_kinds" = some (some (.ref f6)))
    (l6 : K.lookup f6 = some ⟨oc6, od6, .func (PySem.W.fnOf "_law_kinds" "_law_kinds" (defArgs sKinds) (defBody sKinds) (defScope sKinds) .none kV6 dc6 pm6 an6 cd6 ct6), sl6⟩)
    (d6 : PySem.W.codeIn K cd6 "_law_kinds" = true)
    (k6 : PySem.W.keepIn K (.ref f6) = true)
    (a7 : PySem.W.nsIn K mainGlobals "_law_bases" = some (some (.ref f7)))
    (l7 : K.lookup f7 = some ⟨oc7, od7, .func (PySem.W.fnOf "_law_bases" "_law_bases" (defArgs sBases) (defBody sBases) (defScope sBases) .none kV7 dc7 pm7 an7 cd7 ct7), sl7⟩)
    (d7 : PySem.W.codeIn K cd7 "_law_bases" = true)
    (k7 : PySem.W.keepIn K (.ref f7) = true)
    (a8 : PySem.W.nsIn K mainGlobals "_law_made" = some (some (.ref f8)))
    (l8 : K.lookup f8 = some ⟨oc8, od8, .func (PySem.W.fnOf "_law_made" "_law_made" (defArgs sMade) (defBody sMade) (defScope sMade) .none kV8 dc8 pm8 an8 cd8 ct8), sl8⟩)
    (d8 : PySem.W.codeIn K cd8 "_law_made" = true)
    (k8 : PySem.W.keepIn K (.ref f8) = true)
    (a9 : PySem.W.nsIn K mainGlobals "_law_fields" = some (some (.ref f9)))
    (l9 : K.lookup f9 = some ⟨oc9, od9, .func (PySem.W.fnOf "_law_fields" "_law_fields" (defArgs sFields) (defBody sFields) (defScope sFields) .none kV9 dc9 pm9 an9 cd9 ct9), sl9⟩)
    (d9 : PySem.W.codeIn K cd9 "_law_fields" = true)
    (k9 : PySem.W.keepIn K (.ref f9) = true)
    (a10 : PySem.W.nsIn K mainGlobals "_law_right" = some (some (.ref f10)))
    (l10 : K.lookup f10 = some ⟨oc10, od10, .func (PySem.W.fnOf "_law_right" "_law_right" (defArgs sRight) (defBody sRight) (defScope sRight) .none kV10 dc10 pm10 an10 cd10 ct10), sl10⟩)
    (d10 : PySem.W.codeIn K cd10 "_law_right" = true)
    (k10 : PySem.W.keepIn K (.ref f10) = true)
    (a11 : PySem.W.nsIn K mainGlobals "law" = some (some (.ref f11)))
    (l11 : K.lookup f11 = some ⟨oc11, od11, .func (PySem.W.fnOf "law" "law" (defArgs sLaw) (defBody sLaw) (defScope sLaw) .none kV11 dc11 pm11 an11 cd11 ct11), sl11⟩)
    (d11 : PySem.W.codeIn K cd11 "law" = true)
    (k11 : PySem.W.keepIn K (.ref f11) = true)
    (ca0 : PySem.W.nsIn K mainGlobals "BadRow" = some (some (.ref c0)))
    (cl0 : K.lookup c0 = some (excClassObj nm0 q0 c0 N0 bb0 [.type "ValueError", .type "Exception", .type "BaseException", .type "object"] true sn0 sub0 ab0 col0 dd0 ma0 mb0 mc0 md0 me0 "ValueError.__new__"))
    (cs0 : PySem.W.findIn K (.ref c0) "__setattr__" = some (some (.builtin "object.__setattr__")))
    (cg0 : PySem.W.findIn K (.ref c0) "__getattribute__" = some (some (.builtin "BaseException.__getattribute__")))
    (ct0_ : PySem.W.findIn K (.ref c0) "__getattr__" = some none)
    (ck0 : PySem.W.keepIn K (.ref c0) = true)
    (cc0 : PySem.W.findIn K (.ref c0) "__class__" = some (some (.builtin "object.__class__")))
    (ci0 : PySem.W.findIn K (.ref c0) "__init__" = some (some (.ref e0)))
    (cf0 : PySem.W.typeIn K (.ref e0) = some (.type "function"))
    (cy0 : PySem.W.typeIn K (.ref c0) = some (.type "type"))
    (ch0 : PySem.W.hasDictIn K c0 = true)
    (cn0 : PySem.W.findIn K (.ref c0) "at" = some none)
    (el0 : K.lookup e0 = some ⟨xoc0, xod0, .func (PySem.W.fnOf "__init__" "BadRow.__init__" (defArgs sI0) (defBody sI0) (defScope sI0) .none xkV0 xdc0 xpm0 xan0 xcd0 xct0), xsl0⟩)
    (ed0 : PySem.W.codeIn K xcd0 "BadRow.__init__" = true)
    (ek0 : PySem.W.keepIn K (.ref e0) = true)
    (ca1 : PySem.W.nsIn K mainGlobals "Loose" = some (some (.ref c1)))
    (cl1 : K.lookup c1 = some (excClassObj nm1 q1 c1 N1 bb1 [.type "ValueError", .type "Exception", .type "BaseException", .type "object"] true sn1 sub1 ab1 col1 dd1 ma1 mb1 mc1 md1 me1 "ValueError.__new__"))
    (cs1 : PySem.W.findIn K (.ref c1) "__setattr__" = some (some (.builtin "object.__setattr__")))
    (cg1 : PySem.W.findIn K (.ref c1) "__getattribute__" = some (some (.builtin "BaseException.__getattribute__")))
    (ct1_ : PySem.W.findIn K (.ref c1) "__getattr__" = some none)
    (ck1 : PySem.W.keepIn K (.ref c1) = true)
    (cc1 : PySem.W.findIn K (.ref c1) "__class__" = some (some (.builtin "object.__class__")))
    (ci1 : PySem.W.findIn K (.ref c1) "__init__" = some (some (.ref e1)))
    (cf1 : PySem.W.typeIn K (.ref e1) = some (.type "function"))
    (cy1 : PySem.W.typeIn K (.ref c1) = some (.type "type"))
    (ch1 : PySem.W.hasDictIn K c1 = true)
    (cn1 : PySem.W.findIn K (.ref c1) "lock" = some none)
    (el1 : K.lookup e1 = some ⟨xoc1, xod1, .func (PySem.W.fnOf "__init__" "Loose.__init__" (defArgs sI1) (defBody sI1) (defScope sI1) .none xkV1 xdc1 xpm1 xan1 xcd1 xct1), xsl1⟩)
    (ed1 : PySem.W.codeIn K xcd1 "Loose.__init__" = true)
    (ek1 : PySem.W.keepIn K (.ref e1) = true)
    (ca2 : PySem.W.nsIn K mainGlobals "Others" = some (some (.ref c2)))
    (cl2 : K.lookup c2 = some (excClassObj nm2 q2 c2 N2 bb2 [.type "ValueError", .type "Exception", .type "BaseException", .type "object"] true sn2 sub2 ab2 col2 dd2 ma2 mb2 mc2 md2 me2 "ValueError.__new__"))
    (cs2 : PySem.W.findIn K (.ref c2) "__setattr__" = some (some (.builtin "object.__setattr__")))
    (cg2 : PySem.W.findIn K (.ref c2) "__getattribute__" = some (some (.builtin "BaseException.__getattribute__")))
    (ct2_ : PySem.W.findIn K (.ref c2) "__getattr__" = some none)
    (ck2 : PySem.W.keepIn K (.ref c2) = true)
    (cc2 : PySem.W.findIn K (.ref c2) "__class__" = some (some (.builtin "object.__class__")))
    (ci2 : PySem.W.findIn K (.ref c2) "__init__" = some (some (.ref e2)))
    (cf2 : PySem.W.typeIn K (.ref e2) = some (.type "function"))
    (cy2 : PySem.W.typeIn K (.ref c2) = some (.type "type"))
    (ch2 : PySem.W.hasDictIn K c2 = true)
    (cn2 : PySem.W.findIn K (.ref c2) "basin" = some none)
    (el2 : K.lookup e2 = some ⟨xoc2, xod2, .func (PySem.W.fnOf "__init__" "Others.__init__" (defArgs sI2) (defBody sI2) (defScope sI2) .none xkV2 xdc2 xpm2 xan2 xcd2 xct2), xsl2⟩)
    (ed2 : PySem.W.codeIn K xcd2 "Others.__init__" = true)
    (ek2 : PySem.W.keepIn K (.ref e2) = true)
    (ca3 : PySem.W.nsIn K mainGlobals "NoLock" = some (some (.ref c3)))
    (cl3 : K.lookup c3 = some (excClassObj nm3 q3 c3 N3 bb3 [.type "LookupError", .type "Exception", .type "BaseException", .type "object"] true sn3 sub3 ab3 col3 dd3 ma3 mb3 mc3 md3 me3 "LookupError.__new__"))
    (cs3 : PySem.W.findIn K (.ref c3) "__setattr__" = some (some (.builtin "object.__setattr__")))
    (cg3 : PySem.W.findIn K (.ref c3) "__getattribute__" = some (some (.builtin "BaseException.__getattribute__")))
    (ct3_ : PySem.W.findIn K (.ref c3) "__getattr__" = some none)
    (ck3 : PySem.W.keepIn K (.ref c3) = true)
    (cc3 : PySem.W.findIn K (.ref c3) "__class__" = some (some (.builtin "object.__class__")))
    (ci3 : PySem.W.findIn K (.ref c3) "__init__" = some (some (.ref e3)))
    (cf3 : PySem.W.typeIn K (.ref e3) = some (.type "function"))
    (cy3 : PySem.W.typeIn K (.ref c3) = some (.type "type"))
    (ch3 : PySem.W.hasDictIn K c3 = true)
    (cn3 : PySem.W.findIn K (.ref c3) "lock" = some none)
    (el3 : K.lookup e3 = some ⟨xoc3, xod3, .func (PySem.W.fnOf "__init__" "NoLock.__init__" (defArgs sI3) (defBody sI3) (defScope sI3) .none xkV3 xdc3 xpm3 xan3 xcd3 xct3), xsl3⟩)
    (ed3 : PySem.W.codeIn K xcd3 "NoLock.__init__" = true)
    (ek3 : PySem.W.keepIn K (.ref e3) = true)
    (ca4 : PySem.W.nsIn K mainGlobals "NoBasin" = some (some (.ref c4)))
    (cl4 : K.lookup c4 = some (excClassObj nm4 q4 c4 N4 bb4 [.type "LookupError", .type "Exception", .type "BaseException", .type "object"] true sn4 sub4 ab4 col4 dd4 ma4 mb4 mc4 md4 me4 "LookupError.__new__"))
    (cs4 : PySem.W.findIn K (.ref c4) "__setattr__" = some (some (.builtin "object.__setattr__")))
    (cg4 : PySem.W.findIn K (.ref c4) "__getattribute__" = some (some (.builtin "BaseException.__getattribute__")))
    (ct4_ : PySem.W.findIn K (.ref c4) "__getattr__" = some none)
    (ck4 : PySem.W.keepIn K (.ref c4) = true)
    (cc4 : PySem.W.findIn K (.ref c4) "__class__" = some (some (.builtin "object.__class__")))
    (ci4 : PySem.W.findIn K (.ref c4) "__init__" = some (some (.ref e4)))
    (cf4 : PySem.W.typeIn K (.ref e4) = some (.type "function"))
    (cy4 : PySem.W.typeIn K (.ref c4) = some (.type "type"))
    (ch4 : PySem.W.hasDictIn K c4 = true)
    (cn4 : PySem.W.findIn K (.ref c4) "basin" = some none)
    (el4 : K.lookup e4 = some ⟨xoc4, xod4, .func (PySem.W.fnOf "__init__" "NoBasin.__init__" (defArgs sI4) (defBody sI4) (defScope sI4) .none xkV4 xdc4 xpm4 xan4 xcd4 xct4), xsl4⟩)
    (ed4 : PySem.W.codeIn K xcd4 "NoBasin.__init__" = true)
    (ek4 : PySem.W.keepIn K (.ref e4) = true)
    (ca5 : PySem.W.nsIn K mainGlobals "NoDeed" = some (some (.ref c5)))
    (cl5 : K.lookup c5 = some (excClassObj nm5 q5 c5 N5 bb5 [.type "LookupError", .type "Exception", .type "BaseException", .type "object"] true sn5 sub5 ab5 col5 dd5 ma5 mb5 mc5 md5 me5 "LookupError.__new__"))
    (cs5 : PySem.W.findIn K (.ref c5) "__setattr__" = some (some (.builtin "object.__setattr__")))
    (cg5 : PySem.W.findIn K (.ref c5) "__getattribute__" = some (some (.builtin "BaseException.__getattribute__")))
    (ct5_ : PySem.W.findIn K (.ref c5) "__getattr__" = some none)
    (ck5 : PySem.W.keepIn K (.ref c5) = true)
    (cc5 : PySem.W.findIn K (.ref c5) "__class__" = some (some (.builtin "object.__class__")))
    (ci5 : PySem.W.findIn K (.ref c5) "__init__" = some (some (.ref e5)))
    (cf5 : PySem.W.typeIn K (.ref e5) = some (.type "function"))
    (cy5 : PySem.W.typeIn K (.ref c5) = some (.type "type"))
    (ch5 : PySem.W.hasDictIn K c5 = true)
    (cn5 : PySem.W.findIn K (.ref c5) "many" = some none)
    (el5 : K.lookup e5 = some ⟨xoc5, xod5, .func (PySem.W.fnOf "__init__" "NoDeed.__init__" (defArgs sI5) (defBody sI5) (defScope sI5) .none xkV5 xdc5 xpm5 xan5 xcd5 xct5), xsl5⟩)
    (ed5 : PySem.W.codeIn K xcd5 "NoDeed.__init__" = true)
    (ek5 : PySem.W.keepIn K (.ref e5) = true)
    (ca6 : PySem.W.nsIn K mainGlobals "NoBoat" = some (some (.ref c6)))
    (cl6 : K.lookup c6 = some (excClassObj nm6 q6 c6 N6 bb6 [.type "RuntimeError", .type "Exception", .type "BaseException", .type "object"] true sn6 sub6 ab6 col6 dd6 ma6 mb6 mc6 md6 me6 "RuntimeError.__new__"))
    (cs6 : PySem.W.findIn K (.ref c6) "__setattr__" = some (some (.builtin "object.__setattr__")))
    (cg6 : PySem.W.findIn K (.ref c6) "__getattribute__" = some (some (.builtin "BaseException.__getattribute__")))
    (ct6_ : PySem.W.findIn K (.ref c6) "__getattr__" = some none)
    (ck6 : PySem.W.keepIn K (.ref c6) = true)
    (cc6 : PySem.W.findIn K (.ref c6) "__class__" = some (some (.builtin "object.__class__")))
    (ci6 : PySem.W.findIn K (.ref c6) "__init__" = some (some (.ref e6)))
    (cf6 : PySem.W.typeIn K (.ref e6) = some (.type "function"))
    (cy6 : PySem.W.typeIn K (.ref c6) = some (.type "type"))
    (ch6 : PySem.W.hasDictIn K c6 = true)
    (cn6 : PySem.W.findIn K (.ref c6) "going" = some none)
    (el6 : K.lookup e6 = some ⟨xoc6, xod6, .func (PySem.W.fnOf "__init__" "NoBoat.__init__" (defArgs sI6) (defBody sI6) (defScope sI6) .none xkV6 xdc6 xpm6 xan6 xcd6 xct6), xsl6⟩)
    (ed6 : PySem.W.codeIn K xcd6 "NoBoat.__init__" = true)
    (ek6 : PySem.W.keepIn K (.ref e6) = true)
    (ca7 : PySem.W.nsIn K mainGlobals "NoCounts" = some (some (.ref c7)))
    (cl7 : K.lookup c7 = some (excClassObj nm7 q7 c7 N7 bb7 [.type "RuntimeError", .type "Exception", .type "BaseException", .type "object"] true sn7 sub7 ab7 col7 dd7 ma7 mb7 mc7 md7 me7 "RuntimeError.__new__"))
    (cs7 : PySem.W.findIn K (.ref c7) "__setattr__" = some (some (.builtin "object.__setattr__")))
    (cg7 : PySem.W.findIn K (.ref c7) "__getattribute__" = some (some (.builtin "BaseException.__getattribute__")))
    (ct7_ : PySem.W.findIn K (.ref c7) "__getattr__" = some none)
    (ck7 : PySem.W.keepIn K (.ref c7) = true)
    (cc7 : PySem.W.findIn K (.ref c7) "__class__" = some (some (.builtin "object.__class__")))
    (ci7 : PySem.W.findIn K (.ref c7) "__init__" = some (some (.ref e7)))
    (cf7 : PySem.W.typeIn K (.ref e7) = some (.type "function"))
    (cy7 : PySem.W.typeIn K (.ref c7) = some (.type "type"))
    (ch7 : PySem.W.hasDictIn K c7 = true)
    (el7 : K.lookup e7 = some ⟨xoc7, xod7, .func (PySem.W.fnOf "__init__" "NoCounts.__init__" (defArgs sI7) (defBody sI7) (defScope sI7) .none xkV7 xdc7 xpm7 xan7 xcd7 xct7), xsl7⟩)
    (ed7 : PySem.W.codeIn K xcd7 "NoCounts.__init__" = true)
    (ek7 : PySem.W.keepIn K (.ref e7) = true)
    (ca8 : PySem.W.nsIn K mainGlobals "Short" = some (some (.ref c8)))
    (cl8 : K.lookup c8 = some (excClassObj nm8 q8 c8 N8 bb8 [.type "RuntimeError", .type "Exception", .type "BaseException", .type "object"] true sn8 sub8 ab8 col8 dd8 ma8 mb8 mc8 md8 me8 "RuntimeError.__new__"))
    (cs8 : PySem.W.findIn K (.ref c8) "__setattr__" = some (some (.builtin "object.__setattr__")))
    (cg8 : PySem.W.findIn K (.ref c8) "__getattribute__" = some (some (.builtin "BaseException.__getattribute__")))
    (ct8_ : PySem.W.findIn K (.ref c8) "__getattr__" = some none)
    (ck8 : PySem.W.keepIn K (.ref c8) = true)
    (cc8 : PySem.W.findIn K (.ref c8) "__class__" = some (some (.builtin "object.__class__")))
    (ci8 : PySem.W.findIn K (.ref c8) "__init__" = some (some (.ref e8)))
    (cf8 : PySem.W.typeIn K (.ref e8) = some (.type "function"))
    (cy8 : PySem.W.typeIn K (.ref c8) = some (.type "type"))
    (ch8 : PySem.W.hasDictIn K c8 = true)
    (cn8 : PySem.W.findIn K (.ref c8) "many" = some none)
    (el8 : K.lookup e8 = some ⟨xoc8, xod8, .func (PySem.W.fnOf "__init__" "Short.__init__" (defArgs sI8) (defBody sI8) (defScope sI8) .none xkV8 xdc8 xpm8 xan8 xcd8 xct8), xsl8⟩)
    (ed8 : PySem.W.codeIn K xcd8 "Short.__init__" = true)
    (ek8 : PySem.W.keepIn K (.ref e8) = true)
    (ca9 : PySem.W.nsIn K mainGlobals "TooMany" = some (some (.ref c9)))
    (cl9 : K.lookup c9 = some (excClassObj nm9 q9 c9 N9 bb9 [.type "OverflowError", .type "ArithmeticError", .type "Exception", .type "BaseException", .type "object"] true sn9 sub9 ab9 col9 dd9 ma9 mb9 mc9 md9 me9 "OverflowError.__new__"))
    (cs9 : PySem.W.findIn K (.ref c9) "__setattr__" = some (some (.builtin "object.__setattr__")))
    (cg9 : PySem.W.findIn K (.ref c9) "__getattribute__" = some (some (.builtin "BaseException.__getattribute__")))
    (ct9_ : PySem.W.findIn K (.ref c9) "__getattr__" = some none)
    (ck9 : PySem.W.keepIn K (.ref c9) = true)
    (cc9 : PySem.W.findIn K (.ref c9) "__class__" = some (some (.builtin "object.__class__")))
    (ci9 : PySem.W.findIn K (.ref c9) "__init__" = some (some (.ref e9)))
    (cf9 : PySem.W.typeIn K (.ref e9) = some (.type "function"))
    (cy9 : PySem.W.typeIn K (.ref c9) = some (.type "type"))
    (ch9 : PySem.W.hasDictIn K c9 = true)
    (cn9 : PySem.W.findIn K (.ref c9) "many" = some none)
    (el9 : K.lookup e9 = some ⟨xoc9, xod9, .func (PySem.W.fnOf "__init__" "TooMany.__init__" (defArgs sI9) (defBody sI9) (defScope sI9) .none xkV9 xdc9 xpm9 xan9 xcd9 xct9), xsl9⟩)
    (ed9 : PySem.W.codeIn K xcd9 "TooMany.__init__" = true)
    (ek9 : PySem.W.keepIn K (.ref e9) = true)
    (sg : PySem.W.specialIn K (.builtin "object.__class__") "__get__" = some (some (.builtin "getset_descriptor.__get__")))
    (st : PySem.W.takesIn K (.builtin "object.__class__") = some true)
    (v1 : PySem.W.nsIn K mainGlobals "RED" = some (some (.str "red" t1)))
    (v2 : PySem.W.nsIn K mainGlobals "BLUE" = some (some (.str "blue" t2)))
    (v3 : PySem.W.nsIn K mainGlobals "MOST" = some (some (.int 400 t3)))
    (z1 : PySem.W.nsIn K mainGlobals "isinstance" = some none)
    (z2 : PySem.W.nsIn K mainGlobals "list" = some none)
    (z3 : PySem.W.nsIn K mainGlobals "tuple" = some none)
    (z4 : PySem.W.nsIn K mainGlobals "zip" = some none)
    (z5 : PySem.W.nsIn K mainGlobals "len" = some none)
    (z6 : PySem.W.nsIn K mainGlobals "all" = some none)
    (z7 : PySem.W.nsIn K mainGlobals "bool" = some none)
    (z8 : PySem.W.nsIn K mainGlobals "str" = some none)
    (z9 : PySem.W.nsIn K mainGlobals "int" = some none)
    (z10 : PySem.W.nsIn K mainGlobals "range" = some none)
    (z11 : PySem.W.nsIn K mainGlobals "enumerate" = some none)
    (z12 : PySem.W.nsIn K mainGlobals "abs" = some none)
    (z13 : PySem.W.nsIn K mainGlobals "ValueError" = some none)
    (z14 : PySem.W.nsIn K mainGlobals "LookupError" = some none)
    (z15 : PySem.W.nsIn K mainGlobals "RuntimeError" = some none)
    (z16 : PySem.W.nsIn K mainGlobals "OverflowError" = some none)
    (z17 : PySem.W.nsIn K mainGlobals "KeyError" = some none)
    (z18 : PySem.W.nsIn K mainGlobals "IndexError" = some none)
    (z19 : PySem.W.nsIn K mainGlobals "NotImplementedError" = some none)
    (inj : ([c0, c1, c2, c3, c4, c5, c6, c7, c8, c9] : List Addr).Nodup)
    : ∃ fd : FuncData, (∀ (s : Shared) (v : Value), BindsTo s fd ⟨[v], []⟩ [("_law_script", v)]) ∧ ∀ base : Heap, K.In base → base.Ns mainGlobals mg → FnG l.prog w K mg base 9 fa fd ["_law_script"] (spLaw K) := by
  have e := hfa.symm.trans (PySem.W.mg_of X G a11)
  cases e
  have F1 := fun_mk (st := sTake) l1 d1 k1
  have b1 := F1.binds (ps := ["_law_box_here", "_law_size"]) fun _ _ _ _ _ _ us hl => match us, hl with | [_, _], _ => rfl
  have g1 := PySem.W.mg_of X G a1
  have F2 := fun_mk (st := sOf) l2 d2 k2
  have b2 := F2.binds (ps := ["_law_box_here", "_law_some"]) fun _ _ _ _ _ _ us hl => match us, hl with | [_, _], _ => rfl
  have g2 := PySem.W.mg_of X G a2
  have F3 := fun_mk (st := sSame) l3 d3 k3
  have b3 := F3.binds (ps := ["_law_found", "_law_due"]) fun _ _ _ _ _ _ us hl => match us, hl with | [_, _], _ => rfl
  have g3 := PySem.W.mg_of X G a3
  have F4 := fun_mk (st := sCells) l4 d4 k4
  have b4 := F4.binds (ps := ["_law_script", "_law_utmost"]) fun _ _ _ _ _ _ us hl => match us, hl with | [_, _], _ => rfl
  have g4 := PySem.W.mg_of X G a4
  have F5 := fun_mk (st := sBox) l5 d5 k5
  have b5 := F5.binds (ps := ["_law_cells_here", "_law_k"]) fun _ _ _ _ _ _ us hl => match us, hl with | [_, _], _ => rfl
  have g5 := PySem.W.mg_of X G a5
  have F6 := fun_mk (st := sKinds) l6 d6 k6
  have b6 := F6.binds (ps := ["_law_error"]) fun _ _ _ _ _ _ us hl => match us, hl with | [_], _ => rfl
  have g6 := PySem.W.mg_of X G a6
  have F7 := fun_mk (st := sBases) l7 d7 k7
  have b7 := F7.binds (ps := ["_law_error"]) fun _ _ _ _ _ _ us hl => match us, hl with | [_], _ => rfl
  have g7 := PySem.W.mg_of X G a7
  have F8 := fun_mk (st := sMade) l8 d8 k8
  have b8 := F8.binds (ps := ["_law_what"]) fun _ _ _ _ _ _ us hl => match us, hl with | [_], _ => rfl
  have g8 := PySem.W.mg_of X G a8
  have F9 := fun_mk (st := sFields) l9 d9 k9
  have b9 := F9.binds (ps := ["_law_made_here"]) fun _ _ _ _ _ _ us hl => match us, hl with | [_], _ => rfl
  have g9 := PySem.W.mg_of X G a9
  have F10 := fun_mk (st := sRight) l10 d10 k10
  have b10 := F10.binds (ps := ["_law_box_here"]) fun _ _ _ _ _ _ us hl => match us, hl with | [_], _ => rfl
  have g10 := PySem.W.mg_of X G a10
  have F11 := fun_mk (st := sLaw) l11 d11 k11
  have m1 := PySem.W.mg_none_of X G z1
  have m2 := PySem.W.mg_none_of X G z2
  have m3 := PySem.W.mg_none_of X G z3
  have m4 := PySem.W.mg_none_of X G z4
  have m5 := PySem.W.mg_none_of X G z5
  have m6 := PySem.W.mg_none_of X G z6
  have m7 := PySem.W.mg_none_of X G z7
  have m8 := PySem.W.mg_none_of X G z8
  have m9 := PySem.W.mg_none_of X G z9
  have m10 := PySem.W.mg_none_of X G z10
  have m11 := PySem.W.mg_none_of X G z11
  have m12 := PySem.W.mg_none_of X G z12
  have m13 := PySem.W.mg_none_of X G z13
  have m14 := PySem.W.mg_none_of X G z14
  have m15 := PySem.W.mg_none_of X G z15
  have m16 := PySem.W.mg_none_of X G z16
  have m17 := PySem.W.mg_none_of X G z17
  have m18 := PySem.W.mg_none_of X G z18
  have m19 := PySem.W.mg_none_of X G z19
  have x0 : ExK K c0 0 := exk_mk F.excBase_ValueError F.store_ValueError.passes (by decide +kernel) (by decide +kernel) cl0 cs0 cg0 ct0_ ck0 cc0 ch0 sg st
  have y0 := fun_mk (st := sI0) el0 ed0 ek0
  have yb0 := y0.binds (ps := ["self", "at"]) fun _ _ _ _ _ _ us hl => match us, hl with | [_, _], _ => rfl
  have yk0 := kbi (p := "at") y0 fun _ _ _ _ _ _ _ _ => rfl
  have cG0 := PySem.W.mg_of X G ca0
  have x1 : ExK K c1 0 := exk_mk F.excBase_ValueError F.store_ValueError.passes (by decide +kernel) (by decide +kernel) cl1 cs1 cg1 ct1_ ck1 cc1 ch1 sg st
  have y1 := fun_mk (st := sI1) el1 ed1 ek1
  have yb1 := y1.binds (ps := ["self", "lock"]) fun _ _ _ _ _ _ us hl => match us, hl with | [_, _], _ => rfl
  have yk1 := kbi (p := "lock") y1 fun _ _ _ _ _ _ _ _ => rfl
  have cG1 := PySem.W.mg_of X G ca1
  have x2 : ExK K c2 0 := exk_mk F.excBase_ValueError F.store_ValueError.passes (by decide +kernel) (by decide +kernel) cl2 cs2 cg2 ct2_ ck2 cc2 ch2 sg st
  have y2 := fun_mk (st := sI2) el2 ed2 ek2
  have yb2 := y2.binds (ps := ["self", "basin"]) fun _ _ _ _ _ _ us hl => match us, hl with | [_, _], _ => rfl
  have yk2 := kbi (p := "basin") y2 fun _ _ _ _ _ _ _ _ => rfl
  have cG2 := PySem.W.mg_of X G ca2
  have x3 : ExK K c3 1 := exk_mk F.excBase_LookupError F.store_LookupError.passes (by decide +kernel) (by decide +kernel) cl3 cs3 cg3 ct3_ ck3 cc3 ch3 sg st
  have y3 := fun_mk (st := sI3) el3 ed3 ek3
  have yb3 := y3.binds (ps := ["self", "lock"]) fun _ _ _ _ _ _ us hl => match us, hl with | [_, _], _ => rfl
  have yk3 := kbi (p := "lock") y3 fun _ _ _ _ _ _ _ _ => rfl
  have cG3 := PySem.W.mg_of X G ca3
  have x4 : ExK K c4 1 := exk_mk F.excBase_LookupError F.store_LookupError.passes (by decide +kernel) (by decide +kernel) cl4 cs4 cg4 ct4_ ck4 cc4 ch4 sg st
  have y4 := fun_mk (st := sI4) el4 ed4 ek4
  have yb4 := y4.binds (ps := ["self", "basin"]) fun _ _ _ _ _ _ us hl => match us, hl with | [_, _], _ => rfl
  have yk4 := kbi (p := "basin") y4 fun _ _ _ _ _ _ _ _ => rfl
  have cG4 := PySem.W.mg_of X G ca4
  have x5 : ExK K c5 1 := exk_mk F.excBase_LookupError F.store_LookupError.passes (by decide +kernel) (by decide +kernel) cl5 cs5 cg5 ct5_ ck5 cc5 ch5 sg st
  have y5 := fun_mk (st := sI5) el5 ed5 ek5
  have yb5 := y5.binds (ps := ["self", "many"]) fun _ _ _ _ _ _ us hl => match us, hl with | [_, _], _ => rfl
  have yk5 := kbi (p := "many") y5 fun _ _ _ _ _ _ _ _ => rfl
  have cG5 := PySem.W.mg_of X G ca5
  have x6 : ExK K c6 2 := exk_mk F.excBase_RuntimeError F.store_RuntimeError.passes (by decide +kernel) (by decide +kernel) cl6 cs6 cg6 ct6_ ck6 cc6 ch6 sg st
  have y6 := fun_mk (st := sI6) el6 ed6 ek6
  have yb6 := y6.binds (ps := ["self", "going"]) fun _ _ _ _ _ _ us hl => match us, hl with | [_, _], _ => rfl
  have yk6 := kbi (p := "going") y6 fun _ _ _ _ _ _ _ _ => rfl
  have cG6 := PySem.W.mg_of X G ca6
  have x7 : ExK K c7 2 := exk_mk F.excBase_RuntimeError F.store_RuntimeError.passes (by decide +kernel) (by decide +kernel) cl7 cs7 cg7 ct7_ ck7 cc7 ch7 sg st
  have y7 := fun_mk (st := sI7) el7 ed7 ek7
  have yb7 := y7.binds (ps := ["self"]) fun _ _ _ _ _ _ us hl => match us, hl with | [_], _ => rfl
  have cG7 := PySem.W.mg_of X G ca7
  have x8 : ExK K c8 2 := exk_mk F.excBase_RuntimeError F.store_RuntimeError.passes (by decide +kernel) (by decide +kernel) cl8 cs8 cg8 ct8_ ck8 cc8 ch8 sg st
  have y8 := fun_mk (st := sI8) el8 ed8 ek8
  have yb8 := y8.binds (ps := ["self", "many"]) fun _ _ _ _ _ _ us hl => match us, hl with | [_, _], _ => rfl
  have yk8 := kbi (p := "many") y8 fun _ _ _ _ _ _ _ _ => rfl
  have cG8 := PySem.W.mg_of X G ca8
  have x9 : ExK K c9 3 := exk_mk F.excBase_OverflowError F.store_OverflowError.passes (by decide +kernel) (by decide +kernel) cl9 cs9 cg9 ct9_ ck9 cc9 ch9 sg st
  have y9 := fun_mk (st := sI9) el9 ed9 ek9
  have yb9 := y9.binds (ps := ["self", "many"]) fun _ _ _ _ _ _ us hl => match us, hl with | [_, _], _ => rfl
  have yk9 := kbi (p := "many") y9 fun _ _ _ _ _ _ _ _ => rfl
  have cG9 := PySem.W.mg_of X G ca9
  let C : Nat → Addr := fun k => match k with | 0 => c0 | 1 => c1 | 2 => c2 | 3 => c3 | 4 => c4 | 5 => c5 | 6 => c6 | 7 => c7 | 8 => c8 | _ => c9
  let I : Nat → Addr := fun k => match k with | 0 => e0 | 1 => e1 | 2 => e2 | 3 => e3 | 4 => e4 | 5 => e5 | 6 => e6 | 7 => e7 | 8 => e8 | _ => e9
  let D : Nat → FuncData := fun k => match k with | 0 => (PySem.W.fnOf "__init__" "BadRow.__init__" (defArgs sI0) (defBody sI0) (defScope sI0) .none xkV0 xdc0 xpm0 xan0 xcd0 xct0) | 1 => (PySem.W.fnOf "__init__" "Loose.__init__" (defArgs sI1) (defBody sI1) (defScope sI1) .none xkV1 xdc1 xpm1 xan1 xcd1 xct1) | 2 => (PySem.W.fnOf "__init__" "Others.__init__" (defArgs sI2) (defBody sI2) (defScope sI2) .none xkV2 xdc2 xpm2 xan2 xcd2 xct2) | 3 => (PySem.W.fnOf "__init__" "NoLock.__init__" (defArgs sI3) (defBody sI3) (defScope sI3) .none xkV3 xdc3 xpm3 xan3 xcd3 xct3) | 4 => (PySem.W.fnOf "__init__" "NoBasin.__init__" (defArgs sI4) (defBody sI4) (defScope sI4) .none xkV4 xdc4 xpm4 xan4 xcd4 xct4) | 5 => (PySem.W.fnOf "__init__" "NoDeed.__init__" (defArgs sI5) (defBody sI5) (defScope sI5) .none xkV5 xdc5 xpm5 xan5 xcd5 xct5) | 6 => (PySem.W.fnOf "__init__" "NoBoat.__init__" (defArgs sI6) (defBody sI6) (defScope sI6) .none xkV6 xdc6 xpm6 xan6 xcd6 xct6) | 7 => (PySem.W.fnOf "__init__" "NoCounts.__init__" (defArgs sI7) (defBody sI7) (defScope sI7) .none xkV7 xdc7 xpm7 xan7 xcd7 xct7) | 8 => (PySem.W.fnOf "__init__" "Short.__init__" (defArgs sI8) (defBody sI8) (defScope sI8) .none xkV8 xdc8 xpm8 xan8 xcd8 xct8) | _ => (PySem.W.fnOf "__init__" "TooMany.__init__" (defArgs sI9) (defBody sI9) (defScope sI9) .none xkV9 xdc9 xpm9 xan9 xcd9 xct9)
  have T : Tab K C I := {
    ex := fun k hk => match k, hk with | 0, _ => x0 | 1, _ => x1 | 2, _ => x2 | 3, _ => x3 | 4, _ => x4 | 5, _ => x5 | 6, _ => x6 | 7, _ => x7 | 8, _ => x8 | 9, _ => x9 | n + 10, h => absurd h (by omega)
    ini := fun k hk => match k, hk with | 0, _ => ci0 | 1, _ => ci1 | 2, _ => ci2 | 3, _ => ci3 | 4, _ => ci4 | 5, _ => ci5 | 6, _ => ci6 | 7, _ => ci7 | 8, _ => ci8 | 9, _ => ci9 | n + 10, h => absurd h (by omega)
    tI := fun k hk => match k, hk with | 0, _ => cf0 | 1, _ => cf1 | 2, _ => cf2 | 3, _ => cf3 | 4, _ => cf4 | 5, _ => cf5 | 6, _ => cf6 | 7, _ => cf7 | 8, _ => cf8 | 9, _ => cf9 | n + 10, h => absurd h (by omega)
    no := fun k hk k7 => match k, hk, k7 with | 0, _, z => cn0 | 1, _, z => cn1 | 2, _, z => cn2 | 3, _, z => cn3 | 4, _, z => cn4 | 5, _, z => cn5 | 6, _, z => cn6 | 7, _, z => absurd rfl z | 8, _, z => cn8 | 9, _, z => cn9 | n + 10, h, _ => absurd h (by omega)
    ty := fun k hk => match k, hk with | 0, _ => cy0 | 1, _ => cy1 | 2, _ => cy2 | 3, _ => cy3 | 4, _ => cy4 | 5, _ => cy5 | 6, _ => cy6 | 7, _ => cy7 | 8, _ => cy8 | 9, _ => cy9 | n + 10, h => absurd h (by omega)
    inj := fun j k hj hk e => inj_of inj j k hj hk (by have h1 := C_at (c0 := c0) (c1 := c1) (c2 := c2) (c3 := c3) (c4 := c4) (c5 := c5) (c6 := c6) (c7 := c7) (c8 := c8) (c9 := c9) j hj; have h2 := C_at (c0 := c0) (c1 := c1) (c2 := c2) (c3 := c3) (c4 := c4) (c5 := c5) (c6 := c6) (c7 := c7) (c8 := c8) (c9 := c9) k hk; rw [h1, h2]; exact congrArg some e) }
  have Gs : Gls mg C := ⟨cG0, cG1, cG2, cG3, cG4, cG5, cG6, cG7, cG8, cG9⟩
  refine ⟨PySem.W.fnOf "law" "law" (defArgs sLaw) (defBody sLaw) (defScope sLaw) .none kV11 dc11 pm11 an11 cd11 ct11, fun s v => .of_eq rfl, fun base _ _ => FnG.of ?_⟩
  have Is : Inis l.prog w K mg base C I D := { i0 := ⟨ok_I0 (P := l.prog) (w := w) (base := base) y0 x0 cn0 m13, cG0, yb0, yk0⟩, i1 := ⟨ok_I1 (P := l.prog) (w := w) (base := base) y1 x1 cn1 m13, cG1, yb1, yk1⟩, i2 := ⟨ok_I2 (P := l.prog) (w := w) (base := base) y2 x2 cn2 m13, cG2, yb2, yk2⟩, i3 := ⟨ok_I3 (P := l.prog) (w := w) (base := base) y3 x3 cn3 m14, cG3, yb3, yk3⟩, i4 := ⟨ok_I4 (P := l.prog) (w := w) (base := base) y4 x4 cn4 m14, cG4, yb4, yk4⟩, i5 := ⟨ok_I5 (P := l.prog) (w := w) (base := base) y5 x5 cn5 m14, cG5, yb5, yk5⟩, i6 := ⟨ok_I6 (P := l.prog) (w := w) (base := base) y6 x6 cn6 m15, cG6, yb6, yk6⟩, i8 := ⟨ok_I8 (P := l.prog) (w := w) (base := base) y8 x8 cn8 m15, cG8, yb8, yk8⟩, i9 := ⟨ok_I9 (P := l.prog) (w := w) (base := base) y9 x9 cn9 m16, cG9, yb9, yk9⟩, i7 := ok_I7 y7 x7 m15, b7 := yb7, g7 := cG7 }
  have R := ok_right (K := K) (mg := mg) (base := base) (P := l.prog) (w := w) F10 T ⟨ok_take (k := 6) F1, g1, k1, b1⟩ ⟨ok_of (k := 5) F2 F1 b1 g1 m5, g2, k2, b2⟩ ⟨ok_same F3 b3 g3 m1 m2 m3 m4 m5 m6 m7 m8 m9 7, g3, k3, b3⟩ ⟨ok_kinds (k := 6) F6 T Gs m1, g6, k6, b6⟩ ⟨ok_bases (k := 6) F7 T m1 m13 m14 m15 m16 m17 m18 m19, g7, k7, b7⟩ ⟨fn_up (by decide) (ok_made F8 T Is), g8, k8, b8⟩ ⟨ok_fields (k := 6) F9 T, g9, k9, b9⟩ m10 m11 (PySem.W.mg_of X G v1) (PySem.W.mg_of X G v2) (PySem.W.mg_of X G v3)
  exact ok_law F11 ⟨ok_cells (k := 7) F4 m2 m11, g4, k4, b4⟩ ⟨ok_box (k := 7) F5 m12 m9, g5, k5, b5⟩ ⟨R, g10, k10, b10⟩ m5 m6 m10
end XL
open PySem PySem.W PyProof.Rows
set_option maxRecDepth 100000 in
set_option maxHeartbeats 0 in
theorem PySem.Challenge.cw_crosslocks_k00_errors_and_words_holds : PySem.Challenge.rw_crosslocks_k00_errors_and_words.Holds := by
  w_on; o_law; k_head; (case hw => w_witness2)
  k_fill
  refine XL.walkG (l := PySem.Challenge.rw_crosslocks_k00_errors_and_words) (n := 63) (k := 9) (x := "_law_script") (sp := XL.spLaw) rfl (by decide) rfl ⟨rfl, by decide, by decide⟩ (fun w h Y => PySem.W.kIn_of Y) ?F (fun K H a ns hl _ hS => ⟨a, ns, rfl, hS, hl, fun _ => rfl⟩)
  case F =>
    intro w mg fa h KX G hmg
    refine' XL.all_mk KX G hmg ?a1 ?l1 ?d1 ?k1 ?a2 ?l2 ?d2 ?k2 ?a3 ?l3 ?d3 ?k3 ?a4 ?l4 ?d4 ?k4 ?a5 ?l5 ?d5 ?k5 ?a6 ?l6 ?d6 ?k6 ?a7 ?l7 ?d7 ?k7 ?a8 ?l8 ?d8 ?k8 ?a9 ?l9 ?d9 ?k9 ?a10 ?l10 ?d10 ?k10 ?a11 ?l11 ?d11 ?k11 ?ca0 ?cl0 ?cs0 ?cg0 ?ct0_ ?ck0 ?cc0 ?ci0 ?cf0 ?cy0 ?ch0 ?cn0 ?el0 ?ed0 ?ek0 ?ca1 ?cl1 ?cs1 ?cg1 ?ct1_ ?ck1 ?cc1 ?ci1 ?cf1 ?cy1 ?ch1 ?cn1 ?el1 ?ed1 ?ek1 ?ca2 ?cl2 ?cs2 ?cg2 ?ct2_ ?ck2 ?cc2 ?ci2 ?cf2 ?cy2 ?ch2 ?cn2 ?el2 ?ed2 ?ek2 ?ca3 ?cl3 ?cs3 ?cg3 ?ct3_ ?ck3 ?cc3 ?ci3 ?cf3 ?cy3 ?ch3 ?cn3 ?el3 ?ed3 ?ek3 ?ca4 ?cl4 ?cs4 ?cg4 ?ct4_ ?ck4 ?cc4 ?ci4 ?cf4 ?cy4 ?ch4 ?cn4 ?el4 ?ed4 ?ek4 ?ca5 ?cl5 ?cs5 ?cg5 ?ct5_ ?ck5 ?cc5 ?ci5 ?cf5 ?cy5 ?ch5 ?cn5 ?el5 ?ed5 ?ek5 ?ca6 ?cl6 ?cs6 ?cg6 ?ct6_ ?ck6 ?cc6 ?ci6 ?cf6 ?cy6 ?ch6 ?cn6 ?el6 ?ed6 ?ek6 ?ca7 ?cl7 ?cs7 ?cg7 ?ct7_ ?ck7 ?cc7 ?ci7 ?cf7 ?cy7 ?ch7 ?el7 ?ed7 ?ek7 ?ca8 ?cl8 ?cs8 ?cg8 ?ct8_ ?ck8 ?cc8 ?ci8 ?cf8 ?cy8 ?ch8 ?cn8 ?el8 ?ed8 ?ek8 ?ca9 ?cl9 ?cs9 ?cg9 ?ct9_ ?ck9 ?cc9 ?ci9 ?cf9 ?cy9 ?ch9 ?cn9 ?el9 ?ed9 ?ek9 ?sg ?st ?v1 ?v2 ?v3 ?z1 ?z2 ?z3 ?z4 ?z5 ?z6 ?z7 ?z8 ?z9 ?z10 ?z11 ?z12 ?z13 ?z14 ?z15 ?z16 ?z17 ?z18 ?z19 ?inj
    (case a1 => k_is)
    (case l1 => k_is)
    (case d1 => k_is)
    (case k1 => k_is)
    (case a2 => k_is)
    (case l2 => k_is)
    (case d2 => k_is)
    (case k2 => k_is)
    (case a3 => k_is)
    (case l3 => k_is)
    (case d3 => k_is)
    (case k3 => k_is)
    (case a4 => k_is)
    (case l4 => k_is)
    (case d4 => k_is)
    (case k4 => k_is)
    (case a5 => k_is)
    (case l5 => k_is)
    (case d5 => k_is)
    (case k5 => k_is)
    (case a6 => k_is)
    (case l6 => k_is)
    (case d6 => k_is)
    (case k6 => k_is)
    (case a7 => k_is)
    (case l7 => k_is)
    (case d7 => k_is)
    (case k7 => k_is)
    (case a8 => k_is)
    (case l8 => k_is)
    (case d8 => k_is)
    (case k8 => k_is)
    (case a9 => k_is)
    (case l9 => k_is)
    (case d9 => k_is)
    (case k9 => k_is)
    (case a10 => k_is)
    (case l10 => k_is)
    (case d10 => k_is)
    (case k10 => k_is)
    (case a11 => k_is)
    (case l11 => k_is)
    (case d11 => k_is)
    (case k11 => k_is)
    (case ca0 => k_is)
    (case cl0 => k_is)
    (case cs0 => k_is)
    (case cg0 => k_is)
    (case ct0_ => k_is)
    (case ck0 => k_is)
    (case cc0 => k_is)
    (case ci0 => k_is)
    (case cf0 => k_is)
    (case cy0 => k_is)
    (case ch0 => k_is)
    (case cn0 => k_is)
    (case el0 => k_is)
    (case ed0 => k_is)
    (case ek0 => k_is)
    (case ca1 => k_is)
    (case cl1 => k_is)
    (case cs1 => k_is)
    (case cg1 => k_is)
    (case ct1_ => k_is)
    (case ck1 => k_is)
    (case cc1 => k_is)
    (case ci1 => k_is)
    (case cf1 => k_is)
    (case cy1 => k_is)
    (case ch1 => k_is)
    (case cn1 => k_is)
    (case el1 => k_is)
    (case ed1 => k_is)
    (case ek1 => k_is)
    (case ca2 => k_is)
    (case cl2 => k_is)
    (case cs2 => k_is)
    (case cg2 => k_is)
    (case ct2_ => k_is)
    (case ck2 => k_is)
    (case cc2 => k_is)
    (case ci2 => k_is)
    (case cf2 => k_is)
    (case cy2 => k_is)
    (case ch2 => k_is)
    (case cn2 => k_is)
    (case el2 => k_is)
    (case ed2 => k_is)
    (case ek2 => k_is)
    (case ca3 => k_is)
    (case cl3 => k_is)
    (case cs3 => k_is)
    (case cg3 => k_is)
    (case ct3_ => k_is)
    (case ck3 => k_is)
    (case cc3 => k_is)
    (case ci3 => k_is)
    (case cf3 => k_is)
    (case cy3 => k_is)
    (case ch3 => k_is)
    (case cn3 => k_is)
    (case el3 => k_is)
    (case ed3 => k_is)
    (case ek3 => k_is)
    (case ca4 => k_is)
    (case cl4 => k_is)
    (case cs4 => k_is)
    (case cg4 => k_is)
    (case ct4_ => k_is)
    (case ck4 => k_is)
    (case cc4 => k_is)
    (case ci4 => k_is)
    (case cf4 => k_is)
    (case cy4 => k_is)
    (case ch4 => k_is)
    (case cn4 => k_is)
    (case el4 => k_is)
    (case ed4 => k_is)
    (case ek4 => k_is)
    (case ca5 => k_is)
    (case cl5 => k_is)
    (case cs5 => k_is)
    (case cg5 => k_is)
    (case ct5_ => k_is)
    (case ck5 => k_is)
    (case cc5 => k_is)
    (case ci5 => k_is)
    (case cf5 => k_is)
    (case cy5 => k_is)
    (case ch5 => k_is)
    (case cn5 => k_is)
    (case el5 => k_is)
    (case ed5 => k_is)
    (case ek5 => k_is)
    (case ca6 => k_is)
    (case cl6 => k_is)
    (case cs6 => k_is)
    (case cg6 => k_is)
    (case ct6_ => k_is)
    (case ck6 => k_is)
    (case cc6 => k_is)
    (case ci6 => k_is)
    (case cf6 => k_is)
    (case cy6 => k_is)
    (case ch6 => k_is)
    (case cn6 => k_is)
    (case el6 => k_is)
    (case ed6 => k_is)
    (case ek6 => k_is)
    (case ca7 => k_is)
    (case cl7 => k_is)
    (case cs7 => k_is)
    (case cg7 => k_is)
    (case ct7_ => k_is)
    (case ck7 => k_is)
    (case cc7 => k_is)
    (case ci7 => k_is)
    (case cf7 => k_is)
    (case cy7 => k_is)
    (case ch7 => k_is)
    (case el7 => k_is)
    (case ed7 => k_is)
    (case ek7 => k_is)
    (case ca8 => k_is)
    (case cl8 => k_is)
    (case cs8 => k_is)
    (case cg8 => k_is)
    (case ct8_ => k_is)
    (case ck8 => k_is)
    (case cc8 => k_is)
    (case ci8 => k_is)
    (case cf8 => k_is)
    (case cy8 => k_is)
    (case ch8 => k_is)
    (case cn8 => k_is)
    (case el8 => k_is)
    (case ed8 => k_is)
    (case ek8 => k_is)
    (case ca9 => k_is)
    (case cl9 => k_is)
    (case cs9 => k_is)
    (case cg9 => k_is)
    (case ct9_ => k_is)
    (case ck9 => k_is)
    (case cc9 => k_is)
    (case ci9 => k_is)
    (case cf9 => k_is)
    (case cy9 => k_is)
    (case ch9 => k_is)
    (case cn9 => k_is)
    (case el9 => k_is)
    (case ed9 => k_is)
    (case ek9 => k_is)
    (case sg => k_is)
    (case st => k_is)
    (case v1 => k_is)
    (case v2 => k_is)
    (case v3 => k_is)
    (case z1 => k_is)
    (case z2 => k_is)
    (case z3 => k_is)
    (case z4 => k_is)
    (case z5 => k_is)
    (case z6 => k_is)
    (case z7 => k_is)
    (case z8 => k_is)
    (case z9 => k_is)
    (case z10 => k_is)
    (case z11 => k_is)
    (case z12 => k_is)
    (case z13 => k_is)
    (case z14 => k_is)
    (case z15 => k_is)
    (case z16 => k_is)
    (case z17 => k_is)
    (case z18 => k_is)
    (case z19 => k_is)
    (case inj => decide)

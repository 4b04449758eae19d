import PyProof.Rows.All
import Wide.All
import OpenK.AllK
import Wide.FinOn
import KE.GoesMore
import KE.KDictZip
import PyProof.ListNew
import PyProof.SeqWrite
import KE.GoesEnum
import HandS.ForMost
import HandS.Zip
import PyProof.ReprRoads
import HandS.IsInst
import HandS.TupAny
import HandS.NoneIn
import HandS.Flow
import HandS.Conv
import HandS.Walk
import HandS.ExcValue
import PyProof.ReprLen
import PySem.Challenge.RW_crosslocks_k03_canals_exchanged_and_toge
set_option Elab.async false
set_option linter.all false
set_option maxRecDepth 100000
namespace XL
open PySem PyProof.Rows
section
variable {prog : Program} {w : World} {A : Around} {E : Value → Shared → Prop} {s : Shared} {z TI TO T i1 i2 : Addr}
variable {fp1 fp2 : List Addr} {n1 n2 i : Nat} {P1 P2 : Nat → Value → Prop} {St1 St2 : Nat → Heap → Prop} {a1 a2 : Value} {f : Bool} {oT : Obj}

/-- one more pair while the one given out before is held -/
theorem held_item {Q : Value → Shared → Prop} (S : ZipSep2 z TI TO i1 i2 fp1 fp2)
    (D1 : Draws prog w A i1 fp1 n1 P1 St1) (D2 : Draws prog w A i2 fp2 n2 P2 St2)
    (hz : IsZipHeld s.heap z TI TO T f) (hT : s.heap.get? T = some oT) (hTI : IsTupOf2 s.heap TI (.ref i1) (.ref i2))
    (st1 : St1 i s.heap) (st2 : St2 i s.heap) (l1 : i < n1) (l2 : i < n2)
    (hQ : ∀ x1 x2 h' tk, P1 i x1 → P2 i x2 → IsZipHeld h' z TI TO T true → St1 (i + 1) h' → St2 (i + 1) h' →
      IsTupOf2 h' s.heap.objs.size x1 x2 → h'.objs.size = s.heap.objs.size + 1 →
      (∀ c o, c ≠ z → c ≠ i1 → c ≠ i2 → s.heap.get? c = some o → h'.get? c = some o) →
      Q (.ref s.heap.objs.size) { s with heap := h', toks := tk }) :
    wpAny (model prog w) A (Builtin.«zip.__next__» ⟨[.ref z], []⟩) (fun fin s' => ∃ v, fin = .done (.ret v) ∧ Q v s') E s := by
  obtain ⟨hp, g, d, tk0, os⟩ := s
  show wpAny _ _ (field (.ref z) 2 >>= _) _ _ _
  refine wpAny_bind (wpAny_field hz rfl (x := .bool false) rfl ?_); show wpAny _ _ (field (.ref z) 3 >>= _) _ _ _
  refine wpAny_bind (wpAny_field hz rfl (x := .ref TI) rfl ?_); refine wpAny_bind (wpAny_seqItems hTI rfl ?_)
  show wpAny _ _ (Builtin.SmallTypes.ownedTupleIsFree (.ref z) >>= _) _ _ _
  refine wpAny_bind (wpAny_tupleHeld_zip hz hT fun g0 hz0 hs0 => ?_); simp only [Bool.false_eq_true, if_false]; refine wpAny_bind ?_
  replace hs0 : Heap.SameBut z hp g0 := hs0
  rw [← Array.forIn_toList]; simp only [List.forIn_cons, List.forIn_nil]
  refine wpAny_bind (wpAny_bind (wpAny_holding ?_)); show wpAny _ _ (Builtin.SmallTypes.nextOf (.ref i1) >>= _) _ _ ⟨g0, g, d, tk0, os⟩
  refine wpAny_bind (D1.item i _ _ _ l1 (D1.over st1 hs0 S.zf1) fun x1 p1 tk1 hx1 sn1 hp1 => wpAny_pure ?_)
  replace hp1 : Heap.SameBut i1 g0 p1 := hp1
  refine wpAny_pure ?_
  refine wpAny_bind (wpAny_bind (wpAny_holding ?_)); show wpAny _ _ (Builtin.SmallTypes.nextOf (.ref i2) >>= _) _ _ ⟨p1, g, d, tk1, os⟩
  refine wpAny_bind (D2.item i _ _ _ l2 (D2.over (D2.over st2 hs0 S.zf2) hp1 S.sep1_2) fun x2 p2 tk2 hx2 sn2 hp2 => wpAny_pure ?_)
  replace hp2 : Heap.SameBut i2 p1 p2 := hp2
  refine wpAny_pure (wpAny_pure ?_); show wpAny _ _ (newTuple [x1, x2] >>= _) _ _ _
  refine wpAny_bind (wpAny_newTuple ?_)
  have hsz : p2.objs.size = hp.objs.size := by rw [hp2.1, hp1.1, hs0.1]
  have hz2 : IsZipHeld p2 z TI TO T true := hp2.extBut _ _ S.zi2 (hp1.extBut _ _ S.zi1 hz0)
  have hk : ∀ c o, c ≠ z → c ≠ i1 → c ≠ i2 → hp.get? c = some o → p2.get? c = some o := fun c o c0 c1 c2 e =>
    hp2.extBut _ _ c2 (hp1.extBut _ _ c1 (hs0.extBut _ _ c0 e))
  have j1 : St1 (i + 1) p2 := D1.over sn1 hp2 S.sep2_1
  refine wpAny_pure ⟨_, rfl, ?_⟩; show Q (.ref p2.objs.size) _
  have hpr : IsTupOf2 (p2.push { cls := .type "tuple", data := .seq #[x1, x2] }) p2.objs.size x1 x2 := Heap.get?_push_size _ rfl
  have hz4 : (p2.push { cls := .type "tuple", data := .seq #[x1, x2] }).objs.size = p2.objs.size + 1 := Heap.size_push ..
  rw [hsz] at hpr hz4 ⊢
  exact hQ x1 x2 _ tk2 hx1 hx2 (Heap.get?_push_of_some _ hz2) (D1.frame _ _ _ j1 fun b _ o e => Heap.get?_push_of_some _ e)
    (D2.frame _ _ _ sn2 fun b _ o e => Heap.get?_push_of_some _ e) hpr hz4 fun c o c0 c1 c2 e => Heap.get?_push_of_some _ (hk c o c0 c1 c2 e)

/-- the end while the last pair is held -/
theorem held_end {Q : Fin → Shared → Prop} (S : ZipSep2 z TI TO i1 i2 fp1 fp2)
    (D1 : Draws prog w A i1 fp1 n1 P1 St1) (D2 : Draws prog w A i2 fp2 n2 P2 St2)
    (hz : IsZipHeld s.heap z TI TO T f) (hT : s.heap.get? T = some oT) (hTI : IsTupOf2 s.heap TI (.ref i1) (.ref i2))
    (st1 : St1 i s.heap) (st2 : St2 i s.heap) (e1 : i ≤ n1) (e2 : i ≤ n2) (hend : i = n1 ∨ i = n2)
    (hE : ∀ h' tk e, (∀ c o, c ≠ z → c ≠ i1 → c ≠ i2 → s.heap.get? c = some o → h'.get? c = some o) →
      (∃ o, h'.get? e = some o ∧ o.cls = .type "StopIteration") → E (.ref e) { s with heap := h', toks := tk }) :
    wpAny (model prog w) A (Builtin.«zip.__next__» ⟨[.ref z], []⟩) Q E s := by
  obtain ⟨hp, g, d, tk0, os⟩ := s
  show wpAny _ _ (field (.ref z) 2 >>= _) _ _ _
  refine wpAny_bind (wpAny_field hz rfl (x := .bool false) rfl ?_); show wpAny _ _ (field (.ref z) 3 >>= _) _ _ _
  refine wpAny_bind (wpAny_field hz rfl (x := .ref TI) rfl ?_); refine wpAny_bind (wpAny_seqItems hTI rfl ?_)
  show wpAny _ _ (Builtin.SmallTypes.ownedTupleIsFree (.ref z) >>= _) _ _ _
  refine wpAny_bind (wpAny_tupleHeld_zip hz hT fun g0 hz0 hs0 => ?_); simp only [Bool.false_eq_true, if_false]; refine wpAny_bind ?_
  replace hs0 : Heap.SameBut z hp g0 := hs0
  rw [← Array.forIn_toList]; simp only [List.forIn_cons, List.forIn_nil]
  refine wpAny_bind (wpAny_bind (wpAny_holding ?_)); show wpAny _ _ (Builtin.SmallTypes.nextOf (.ref i1) >>= _) _ _ ⟨g0, g, d, tk0, os⟩
  by_cases l1 : i < n1
  · refine wpAny_bind (D1.item i _ _ _ l1 (D1.over st1 hs0 S.zf1) fun x1 p1 tk1 hx1 sn1 hp1 => wpAny_pure ?_)
    replace hp1 : Heap.SameBut i1 g0 p1 := hp1
    have hi2 : i = n2 := by omega
    refine wpAny_pure ?_
    refine wpAny_bind (wpAny_bind (wpAny_holding ?_)); show wpAny _ _ (Builtin.SmallTypes.nextOf (.ref i2) >>= _) _ _ ⟨p1, g, d, tk1, os⟩
    refine wpAny_bind (D2.done ⟨p1, g, d, tk1, os⟩ _ _ (by rw [← hi2]; exact D2.over (D2.over st2 hs0 S.zf2) hp1 S.sep1_2) fun q e hq he => ?_)
    exact hE q tk1 e (fun c o c0 c1 c2 x => hq _ _ c2 (hp1.extBut _ _ c1 (hs0.extBut _ _ c0 x))) he
  · have hi1 : i = n1 := by omega
    refine wpAny_bind (D1.done ⟨g0, g, d, tk0, os⟩ _ _ (by rw [← hi1]; exact D1.over st1 hs0 S.zf1) fun q e hq he => ?_)
    exact hE q tk0 e (fun c o c0 c1 c2 x => hq _ _ c1 (hs0.extBut _ _ c0 x)) he
end
end XL
namespace XL
open PySem PyProof.Rows
/-- the zip between two nexts: nothing given out yet, or the last pair is held -/
def ZNow (h : Heap) (z TI TO L : Addr) : Prop :=
  (IsZip h z TI TO .none ∧ ∃ a1 a2, IsTupOf2 h TO a1 a2) ∨ ∃ T f oT, IsZipHeld h z TI TO T f ∧ h.get? T = some oT ∧ T ≠ z ∧ T ≠ L
theorem ZNow.typ {s : Shared} {z TI TO L : Addr} (h : ZNow s.heap z TI TO L) : s.TypeIs (.ref z) "zip" := by
  rcases h with ⟨h, _⟩ | ⟨T, f, oT, h, _⟩
  · exact ⟨_, h, rfl⟩
  · exact ⟨_, h, rfl⟩
theorem ZNow.lt {h : Heap} {z TI TO L : Addr} (q : ZNow h z TI TO L) : z < h.objs.size := by
  rcases q with ⟨h, _⟩ | ⟨T, f, oT, h, _⟩
  · exact Heap.lt_size h
  · exact Heap.lt_size h
section
variable {prog : Program} {w : World} {A : Around} {E : Value → Shared → Prop} {s : Shared} {z TI TO L i1 i2 : Addr}
variable {fp1 fp2 : List Addr} {n1 n2 i : Nat} {P1 P2 : Nat → Value → Prop} {St1 St2 : Nat → Heap → Prop}
theorem next_item {Q : Option Value → Shared → Prop} (S : ZipSep2 z TI TO i1 i2 fp1 fp2)
    (D1 : Draws prog w A.in1 i1 fp1 n1 P1 St1) (D2 : Draws prog w A.in1 i2 fp2 n2 P2 St2)
    (hz : ZNow s.heap z TI TO L) (hTI : IsTupOf2 s.heap TI (.ref i1) (.ref i2)) (hL : L < s.heap.objs.size)
    (st1 : St1 i s.heap) (st2 : St2 i s.heap) (l1 : i < n1) (l2 : i < n2)
    (hQ : ∀ x1 x2 h' tk, P1 i x1 → P2 i x2 → ZNow h' z TI TO L → St1 (i + 1) h' → St2 (i + 1) h' →
      IsTupOf2 h' s.heap.objs.size x1 x2 → h'.objs.size = s.heap.objs.size + 1 →
      (∀ c o, c ≠ z → c ≠ TO → c ≠ i1 → c ≠ i2 → s.heap.get? c = some o → h'.get? c = some o) →
      Q (some (.ref s.heap.objs.size)) { s with heap := h', toks := tk }) :
    wpAny (model prog w) A (pyNext (.ref z)) Q E s := by
  have hTy := hz.typ
  have zl : z < s.heap.objs.size := hz.lt
  have zne : s.heap.objs.size ≠ z := Nat.ne_of_gt zl
  have lne : s.heap.objs.size ≠ L := Nat.ne_of_gt hL
  rcases hz with ⟨hz, a1, a2, hTO⟩ | ⟨T, f, oT, hz, hT, hTz, hTL⟩
  · refine wpAny_pyNext_zipD2_item S D1 D2 hz hTI hTO st1 st2 l1 l2 fun x1 x2 h' tk y1 y2 b1 b2 d1 d2 b5 b6 b7 => ?_
    exact hQ x1 x2 h' tk y1 y2 (.inr ⟨s.heap.objs.size, false, _, b1, b5, zne, lne⟩) d1 d2 b5 b6 b7
  · unfold pyNext
    refine wpAny_bind (wpAny_attempt (wpAny_callSpecial?_slot (name := Str.ofString "__next__") hTy F.slot_zip_next
      (wpAny_call_entry F.slot_zip_next hTy F.entry_zip_next (held_item S D1 D2 hz hT hTI st1 st2 l1 l2
        fun x1 x2 h' tk y1 y2 b1 d1 d2 b5 b6 b7 => wpAny_pure ?_) (F.args_zip_next_1 _))))
    have hT' : ∃ o, h'.get? T = some o := by
      by_cases c1 : T = i1
      · rw [c1]; exact D1.live _ _ d1
      · by_cases c2 : T = i2
        · rw [c2]; exact D2.live _ _ d2
        · exact ⟨_, b7 T oT hTz c1 c2 hT⟩
    obtain ⟨o', hT'⟩ := hT'
    exact hQ x1 x2 h' tk y1 y2 (.inr ⟨T, true, o', b1, hT', hTz, hTL⟩) d1 d2 b5 b6 fun c o c0 _ c1 c2 e => b7 c o c0 c1 c2 e
theorem next_end {Q : Option Value → Shared → Prop} (S : ZipSep2 z TI TO i1 i2 fp1 fp2)
    (D1 : Draws prog w A.in1 i1 fp1 n1 P1 St1) (D2 : Draws prog w A.in1 i2 fp2 n2 P2 St2)
    (hz : ZNow s.heap z TI TO L) (hTI : IsTupOf2 s.heap TI (.ref i1) (.ref i2))
    (st1 : St1 i s.heap) (st2 : St2 i s.heap) (e1 : i ≤ n1) (e2 : i ≤ n2) (hend : i = n1 ∨ i = n2)
    (hQ : ∀ h' tk, (∀ c o, c ≠ z → c ≠ TO → c ≠ i1 → c ≠ i2 → s.heap.get? c = some o → h'.get? c = some o) →
      Q none { s with heap := h', toks := tk }) :
    wpAny (model prog w) A (pyNext (.ref z)) Q E s := by
  have hTy := hz.typ
  rcases hz with ⟨hz, a1, a2, hTO⟩ | ⟨T, f, oT, hz, hT, hTz, hTL⟩
  · exact wpAny_pyNext_zipD2_end S D1 D2 hz hTI hTO st1 st2 e1 e2 hend hQ
  · unfold pyNext
    refine wpAny_bind (wpAny_attempt (wpAny_callSpecial?_slot (name := Str.ofString "__next__") hTy F.slot_zip_next
      (wpAny_call_entry F.slot_zip_next hTy F.entry_zip_next (held_end S D1 D2 hz hT hTI st1 st2 e1 e2 hend fun h' tk e hk he => ?_) (F.args_zip_next_1 _))))
    obtain ⟨o, ho, hc⟩ := he
    refine wpAny_bind (wpAny_isInstance (T := "StopIteration") (b := true) ⟨o, ho, hc⟩ isSubtype_stop ?_)
    exact wpAny_pure (hQ _ _ fun c o c0 _ c1 c2 e => hk c o c0 c1 c2 e)
end

/-- the pairs laid so far: at Ts, new, apart from the zip's own cells and the list -/
structure Laid (N L : Nat) (P1 P2 : Nat → Value → Prop) (cells : List Addr) (h : Heap) (Ts : List Addr) : Prop where
  nd : Ts.Nodup
  at_ : ∀ j T, Ts[j]? = some T → N ≤ T ∧ T < h.objs.size ∧ T ≠ L ∧ T ∉ cells ∧ ∃ x y, P1 j x ∧ P2 j y ∧ IsTupOf2 h T x y
theorem Laid.nil {N L : Nat} {P1 P2 : Nat → Value → Prop} {cells : List Addr} {h : Heap} : Laid N L P1 P2 cells h [] := ⟨List.nodup_nil, fun j T e => by simp at e⟩
theorem Laid.over {N L : Nat} {P1 P2 : Nat → Value → Prop} {cells : List Addr} {h h' : Heap} {Ts : List Addr} (q : Laid N L P1 P2 cells h Ts)
    (hs : h.objs.size ≤ h'.objs.size) (hk : ∀ c o, c ∉ cells → c ≠ L → h.get? c = some o → h'.get? c = some o) : Laid N L P1 P2 cells h' Ts :=
  ⟨q.nd, fun j T e => by
    obtain ⟨a, b, c, d, x, y, px, py, t⟩ := q.at_ j T e
    exact ⟨a, Nat.lt_of_lt_of_le b hs, c, d, x, y, px, py, hk _ _ d c t⟩⟩
theorem Laid.push {N L : Nat} {P1 P2 : Nat → Value → Prop} {cells : List Addr} {h h' : Heap} {Ts : List Addr} {x y : Value} (q : Laid N L P1 P2 cells h Ts)
    (hs : h'.objs.size = h.objs.size + 1) (hk : ∀ c o, c ∉ cells → c ≠ L → h.get? c = some o → h'.get? c = some o)
    (hN : N ≤ h.objs.size) (hL : L < h.objs.size) (hc : ∀ c ∈ cells, c < h.objs.size) (px : P1 Ts.length x) (py : P2 Ts.length y) (t : IsTupOf2 h' h.objs.size x y) :
    Laid N L P1 P2 cells h' (Ts ++ [h.objs.size]) := by
  have q' := q.over (h' := h') (by omega) hk
  refine ⟨?_, fun j T e => ?_⟩
  · rw [List.nodup_append]
    refine ⟨q.nd, by simp, fun a ha b hb e => ?_⟩
    simp at hb
    obtain ⟨j, hj⟩ := List.getElem?_of_mem ha
    have := (q.at_ j a hj).2.1
    rw [e, hb] at this
    exact Nat.lt_irrefl _ this
  · by_cases hj : j < Ts.length
    · rw [List.getElem?_append_left hj] at e
      exact q'.at_ j T e
    · rw [List.getElem?_append_right (by omega)] at e
      have hj0 : j - Ts.length = 0 := by
        rcases Nat.eq_zero_or_pos (j - Ts.length) with z | z
        · exact z
        · rw [List.getElem?_eq_none (by simp; omega)] at e
          cases e
      rw [hj0] at e
      have e' : h.objs.size = T := by simpa using e
      subst e'
      have ej : j = Ts.length := by omega
      refine ⟨hN, by rw [hs]; exact Nat.lt_succ_self _, Nat.ne_of_gt hL, fun hm => Nat.lt_irrefl _ (hc _ hm), x, y, ?_, ?_, t⟩
      · rw [ej]; exact px
      · rw [ej]; exact py
section
variable {prog : Program} {w : World} {A : Around} {R : Result → Shared → Prop} {z TI TO i1 i2 : Addr} {N L : Nat}
variable {fp1 fp2 : List Addr} {n1 n2 n : Nat} {P1 P2 : Nat → Value → Prop} {St1 St2 : Nat → Heap → Prop}
theorem loop_zip (S : ZipSep2 z TI TO i1 i2 fp1 fp2) (D1 : Draws prog w A.in1.in1 i1 fp1 n1 P1 St1) (D2 : Draws prog w A.in1.in1 i2 fp2 n2 P2 St2)
    (hn : n = min n1 n2) (hsz : n ≤ sizeLine) (res : Value) (hL1 : L ∉ fp1) (hL2 : L ∉ fp2) (hLz : L ≠ z) (hLTI : L ≠ TI) (hLTO : L ≠ TO) (hNz : N ≤ z) (hNT : N ≤ TO) (hN1 : N ≤ i1) (hN2 : N ≤ i2) (hNL : N ≤ L) :
    ∀ (k : Nat) (s : Shared) (Ts : List Addr) (c : Nat), n - Ts.length = k → Ts.length ≤ n → ZNow s.heap z TI TO L → IsTupOf2 s.heap TI (.ref i1) (.ref i2) → TO < s.heap.objs.size →
      St1 Ts.length s.heap → St2 Ts.length s.heap → N ≤ s.heap.objs.size → s.heap.get? L = some { cls := .type "list", dict := none, data := .seq (Ts.map Value.ref).toArray c, slots := #[] } →
      Laid N L P1 P2 [z, TO, i1, i2] s.heap Ts →
      (∀ h' tk Ts' c', Ts'.length = n → (∀ b o, b < N → s.heap.get? b = some o → h'.get? b = some o) →
        h'.get? L = some { cls := .type "list", dict := none, data := .seq (Ts'.map Value.ref).toArray c', slots := #[] } → Laid N L P1 P2 [z, TO, i1, i2] h' Ts' →
        R (.ok (.ret res)) { s with heap := h', toks := tk }) →
      codeAny (model prog w) A (.builtin "list.extend.loop" ⟨[.ref L, .ref z, res], []⟩) R s := by
  intro k
  have S' := S
  induction k with
  | zero =>
    intro s Ts c hk hle hz hTI hTO st1 st2 hN hLs hld hR
    have hin : Ts.length = n := by omega
    refine codeAny_builtin F.entry_extend_loop ?_
    rw [Around.under_plainId F.plain_extend_loop _]
    show wpAny _ A.in1 (pyNext (.ref z) >>= _) _ _ s
    have hend : Ts.length = n1 ∨ Ts.length = n2 := by omega
    refine wpAny_bind (next_end S D1 D2 hz hTI st1 st2 (by omega) (by omega) hend fun h' tk hk' => ?_)
    have ne : ∀ c, c ∉ [z, TO, i1, i2] → c ≠ z ∧ c ≠ TO ∧ c ≠ i1 ∧ c ≠ i2 := fun c hc => by simpa using hc
    have Li : L ≠ i1 ∧ L ≠ i2 := ⟨fun e => hL1 (e ▸ S.mem1), fun e => hL2 (e ▸ S.mem2)⟩
    refine wpAny_pure (hR h' tk Ts c hin (fun b o hb e => ?_) (hk' L _ hLz hLTO Li.1 Li.2 hLs) ?_)
    · exact hk' b o (Nat.ne_of_lt (Nat.lt_of_lt_of_le hb hNz)) (Nat.ne_of_lt (Nat.lt_of_lt_of_le hb hNT)) (Nat.ne_of_lt (Nat.lt_of_lt_of_le hb hN1)) (Nat.ne_of_lt (Nat.lt_of_lt_of_le hb hN2)) e
    · refine ⟨hld.nd, fun j T e => ?_⟩
      obtain ⟨a, b, c, d, x, y, px, py, t⟩ := hld.at_ j T e
      have t' : IsTupOf2 h' T x y := hk' _ _ (ne T d).1 (ne T d).2.1 (ne T d).2.2.1 (ne T d).2.2.2 t
      exact ⟨a, Heap.lt_size t', c, d, x, y, px, py, t'⟩
  | succ k ih =>
    intro s Ts c hk hle hz hTI hTO st1 st2 hN hLs hld hR
    have hlt1 : Ts.length < n1 := by omega
    have hlt2 : Ts.length < n2 := by omega
    refine codeAny_builtin F.entry_extend_loop ?_
    rw [Around.under_plainId F.plain_extend_loop _]
    show wpAny _ A.in1 (pyNext (.ref z) >>= _) _ _ s
    have hLlt : L < s.heap.objs.size := Heap.lt_size hLs
    refine wpAny_bind (next_item S D1 D2 hz hTI hLlt st1 st2 hlt1 hlt2 fun x1 x2 h' tk px py hz' d1 d2 ht hsz' hk' => ?_)
    have ne : ∀ c, c ∉ [z, TO, i1, i2] → c ≠ z ∧ c ≠ TO ∧ c ≠ i1 ∧ c ≠ i2 := fun c hc => by simpa using hc
    have Li : L ≠ i1 ∧ L ≠ i2 := ⟨fun e => hL1 (e ▸ S.mem1), fun e => hL2 (e ▸ S.mem2)⟩
    have hL' := hk' L _ hLz hLTO Li.1 Li.2 hLs
    have hTI' : IsTupOf2 h' TI (.ref i1) (.ref i2) := hk' TI _ S.TIz S.TITO S.TIi1 S.TIi2 hTI
    have hcells : ∀ b ∈ [z, TO, i1, i2], b < s.heap.objs.size := fun b hb => by
      have hb' : b = z ∨ b = TO ∨ b = i1 ∨ b = i2 := by simpa using hb
      rcases hb' with e | e | e | e
      · rw [e]; exact hz.lt
      · rw [e]; exact hTO
      · rw [e]; obtain ⟨o, q⟩ := D1.live _ _ st1; exact Heap.lt_size q
      · rw [e]; obtain ⟨o, q⟩ := D2.live _ _ st2; exact Heap.lt_size q
    have hld' : Laid N L P1 P2 [z, TO, i1, i2] h' (Ts ++ [s.heap.objs.size]) :=
      hld.push hsz' (fun c o hc _ e => hk' c o (ne c hc).1 (ne c hc).2.1 (ne c hc).2.2.1 (ne c hc).2.2.2 e) hN hLlt hcells px py ht
    show wpAny _ A.in1 (updateSeq L (·.push (Value.ref s.heap.objs.size)) >>= _) _ _ _
    refine wpAny_bind ?_
    have hlen : (Ts ++ [s.heap.objs.size]).length = Ts.length + 1 := by simp
    have hzs : ((Ts.map Value.ref).toArray : Array Value).size = Ts.length := by simp
    refine wpAny_updateSeq hL' rfl (wpAny_pure ⟨plainId_quiet F.plain_extend_loop _, ?_⟩) (by rw [hzs]; omega)
      (by show ((Ts.map Value.ref).toArray.push (Value.ref s.heap.objs.size)).size ≤ sizeLine + 1; rw [Array.size_push, hzs]; omega)
    have hself := Heap.get?_update_self (Obj.mapSeq (·.push (Value.ref s.heap.objs.size))) hL' rfl
    have hoth : ∀ b o, b ≠ L → h'.get? b = some o → (h'.update L (Obj.mapSeq (·.push (Value.ref s.heap.objs.size)))).get? b = some o :=
      fun b o hb e => (Heap.get?_update_other _ _ (Ne.symm hb)).trans e
    have hus : (h'.update L (Obj.mapSeq (·.push (Value.ref s.heap.objs.size)))).objs.size = h'.objs.size := (Heap.SameBut.update ..).1
    obtain ⟨c3, hc3⟩ : ∃ c3, (h'.update L (Obj.mapSeq (·.push (Value.ref s.heap.objs.size)))).get? L = some { cls := .type "list", dict := none, data := .seq ((Ts ++ [s.heap.objs.size]).map Value.ref).toArray c3, slots := #[] } := by
      have eA : ((Ts ++ [s.heap.objs.size]).map Value.ref).toArray = (Ts.map Value.ref).toArray.push (Value.ref s.heap.objs.size) := by simp
      rw [eA, hself]; exact ⟨_, rfl⟩
    refine ih { s with heap := h'.update L (Obj.mapSeq (·.push (Value.ref s.heap.objs.size))), toks := tk } (Ts ++ [s.heap.objs.size]) c3 (by rw [hlen]; omega) (by rw [hlen]; omega) ?_ (hoth TI _ (Ne.symm hLTI) hTI') ?_ ?_ ?_ ?_ ?_ ?_ fun h2 tk2 Ts2 c2 hl2 hk2 hL2' hld2 => ?_
    · rcases hz' with ⟨q, a1, a2, q2⟩ | ⟨T, f, oT, q, q2, q3, q4⟩
      · exact .inl ⟨hoth z _ (Ne.symm hLz) q, a1, a2, hoth TO _ (Ne.symm hLTO) q2⟩
      · exact .inr ⟨T, f, oT, hoth z _ (Ne.symm hLz) q, hoth T _ q4 q2, q3, q4⟩
    · show TO < (h'.update L _).objs.size
      rw [hus, hsz']; exact Nat.lt_succ_of_lt hTO
    · rw [hlen]; exact D1.frame _ _ _ d1 fun b hb o e => hoth b o (fun q => hL1 (q ▸ hb)) e
    · rw [hlen]; exact D2.frame _ _ _ d2 fun b hb o e => hoth b o (fun q => hL2 (q ▸ hb)) e
    · show N ≤ (h'.update L _).objs.size
      rw [hus, hsz']; exact Nat.le_succ_of_le hN
    · exact hc3
    · exact hld'.over (by rw [hus]; exact Nat.le_refl _) fun b o _ hb e => hoth b o hb e
    · refine hR h2 tk2 Ts2 c2 hl2 (fun b o hb e => hk2 b o hb (hoth b o (Nat.ne_of_lt (Nat.lt_of_lt_of_le hb hNL)) ?_)) hL2' hld2
      exact hk' b o (Nat.ne_of_lt (Nat.lt_of_lt_of_le hb hNz)) (Nat.ne_of_lt (Nat.lt_of_lt_of_le hb hNT)) (Nat.ne_of_lt (Nat.lt_of_lt_of_le hb hN1)) (Nat.ne_of_lt (Nat.lt_of_lt_of_le hb hN2)) e
theorem zip_no_len : typeLookup (.type "zip") "__len__" = pure none := am_miss_of_fast (by decide +kernel)
theorem zip_no_hint : typeLookup (.type "zip") "__length_hint__" = pure none := am_miss_of_fast (by decide +kernel)
end
end XL
namespace XL
open PySem PyProof.Rows
section
variable {prog : Program} {w : World} {A : Around} {E : Value → Shared → Prop} {s : Shared}
/-- list(zip(v1, v2)): a new list of new pairs -/
theorem call_list_zip {Q : Value → Shared → Prop} {v1 v2 : Value} {o1 o2 : Obj} {H1 H2 : Heap → Prop} {fp1 fp2 : List Addr} {n1 n2 n : Nat} {P1 P2 : Nat → Value → Prop} {St1 St2 : Nat → Heap → Prop}
    (B1 : Begins v1 o1 H1) (B2 : Begins v2 o2 H2) (h1 : H1 s.heap) (h2 : H2 s.heap) (hf1 : ∀ b ∈ fp1, b < s.heap.objs.size) (hf2 : ∀ b ∈ fp2, b < s.heap.objs.size)
    (D1 : ∀ A', A'.handled = none → Draws prog w A' s.heap.objs.size (s.heap.objs.size :: fp1) n1 P1 St1)
    (D2 : ∀ A', A'.handled = none → Draws prog w A' (s.heap.objs.size + 1) ((s.heap.objs.size + 1) :: fp2) n2 P2 St2)
    (b1 : ∀ h', (∀ b o, s.heap.get? b = some o → h'.get? b = some o) → h'.get? s.heap.objs.size = some o1 → St1 0 h')
    (b2 : ∀ h', (∀ b o, s.heap.get? b = some o → h'.get? b = some o) → h'.get? (s.heap.objs.size + 1) = some o2 → St2 0 h')
    (hA : A.handled = none) (hn : n = min n1 n2) (hz : n ≤ sizeLine)
    (hQ : ∀ (h' : Heap) (tk : Nat) (Ts : List Addr) (c : Nat) (L : Addr), Ts.length = n → (∀ b o, s.heap.get? b = some o → h'.get? b = some o) → s.heap.objs.size ≤ L →
      h'.get? L = some { cls := .type "list", dict := none, data := .seq (Ts.map Value.ref).toArray c, slots := #[] } → Ts.Nodup →
      (∀ j T, Ts[j]? = some T → s.heap.objs.size ≤ T ∧ T ≠ L ∧ ∃ x y, P1 j x ∧ P2 j y ∧ IsTupOf2 h' T x y) → Q (.ref L) { s with heap := h', toks := tk }) :
    wpAny (model prog w) A (call (.type "zip") [v1, v2]) (fun v s1 => wpAny (model prog w) A (call (.type "list") [v]) Q E s1) E s := by
  refine zip_begins2 B1 B2 h1 h2 fun g hz0 hTI hTO e1 e2 hsz hk => ?_
  have hgN : g.objs.size = s.heap.objs.size + 5 := hsz
  generalize hNN : s.heap.objs.size = N at *
  refine callType_codes (Q₁ := fun obj s₁ => obj = .ref g.objs.size ∧ s₁ = { s with heap := g.push { cls := .type "list", data := .seq #[] } }) F.called_list (F.typeCall_list_1 _) F.entry_list_init
    (code_list_new _ ⟨rfl, rfl⟩) fun obj s₁ q₁ => ?_
  obtain ⟨rfl, rfl⟩ := q₁
  have hS : (g.push { cls := .type "list", data := .seq #[] }).get? g.objs.size = some { cls := .type "list", data := .seq #[] } := Heap.get?_push_size _ rfl
  refine ⟨⟨_, hS, rfl⟩, F.args_list_init_2 _ _, ?_⟩
  have SS := zip_sep2 hf1 hf2
  have kp : ∀ b o, g.get? b = some o → (g.push { cls := .type "list", data := .seq #[] }).get? b = some o := fun b o e => Heap.get?_push_of_some _ e
  generalize hG : g.push { cls := .type "list", data := .seq #[] } = G at *
  have hGz : G.objs.size = g.objs.size + 1 := by rw [← hG]; exact Heap.size_push ..
  have hLv : g.objs.size = N + 5 := hgN
  generalize hLL : g.objs.size = L at *
  show wpAny _ _ (do let old ← Builtin.List.listItems (.ref L); Builtin.List.listUpdate (.ref L) (fun _ => #[]); letGo old.toList.reverse; Builtin.List.listExtendWith (.ref L) (.ref (N + 4)) .none) _ _ _
  refine wpAny_bind ?_
  unfold Builtin.List.listItems
  refine wpAny_bind (wpAny_seqItems hS rfl (wpAny_pure ?_))
  show wpAny _ _ (updateSeq L (fun _ => #[]) >>= fun _ => letGo (#[] : Array Value).toList.reverse >>= fun _ => Builtin.List.listExtendWith (.ref L) (.ref (N + 4)) .none) _ _ _
  refine wpAny_bind (wpAny_updateSeq hS rfl ?_)
  have hS₂ := Heap.get?_update_self (Obj.mapSeq (fun _ => (#[] : Array Value))) hS rfl
  have oth : ∀ b o, b ≠ L → G.get? b = some o → (G.update L (Obj.mapSeq (fun _ => (#[] : Array Value)))).get? b = some o :=
    fun b o hb e => (Heap.get?_update_other _ _ (Ne.symm hb)).trans e
  have hG2 : (G.update L (Obj.mapSeq (fun _ => (#[] : Array Value)))).objs.size = G.objs.size := (Heap.SameBut.update ..).1
  generalize hGG : G.update L (Obj.mapSeq (fun _ => (#[] : Array Value))) = G2 at *
  refine wpAny_bind (wpAny_letGo ?_)
  have hNL : N ≤ L := by omega
  have nL : ∀ j : Nat, j < 5 → N + j ≠ L := fun j hj => by omega
  have hz2 : IsZip G2 (N + 4) (N + 2) (N + 3) .none := oth _ _ (nL 4 (by omega)) (kp _ _ hz0)
  have hT2 : IsTupOf2 G2 (N + 2) (.ref N) (.ref (N + 1)) := oth _ _ (nL 2 (by omega)) (kp _ _ hTI)
  have hO2 : IsTupOf2 G2 (N + 3) .none .none := oth _ _ (nL 3 (by omega)) (kp _ _ hTO)
  unfold Builtin.List.listExtendWith
  have hTy : ({ s with heap := G2 } : Shared).TypeIs (.ref (N + 4)) "zip" := ⟨_, hz2, rfl⟩
  refine wpAny_bind (wpAny_typeOf hTy ?_)
  have q1 : Builtin.List.listSameRef (.ref L) (.ref (N + 4)) = false := by simp only [Builtin.List.listSameRef]; exact beq_eq_false_iff_ne.mpr (nL 4 (by omega)).symm
  have q2 : (Value.type "zip" == Value.type "list") = false := by decide
  have q3 : (Value.type "zip" == Value.type "tuple") = false := by decide
  simp only [q1, q2, q3, Bool.or_false, Bool.false_eq_true, if_false]
  refine wpAny_bind (wpAny_pyIter_zip hz2 ?_)
  refine wpAny_bind (wpAny_holding ?_)
  unfold Builtin.List.listLengthHint
  refine wpAny_bind (wpAny_specialOf hTy zip_no_len ?_)
  show wpAny _ _ (specialOf (Value.ref (N + 4)) (Str.ofString "__length_hint__") >>= _) _ _ _
  refine wpAny_bind (wpAny_specialOf hTy zip_no_hint ?_)
  refine wpAny_pure ?_
  show wpAny _ _ (rule "list.extend.makes-room" >>= fun _ => Builtin.List.listTouch (.ref L) >>= fun _ => again (.builtin "list.extend.loop" ⟨[.ref L, .ref (N + 4), .none], []⟩)) _ _ _
  refine wpAny_bind (wpAny_rule ?_)
  refine wpAny_bind ?_
  show wpAny _ _ (updateSeq L (·.push .none) >>= fun _ => updateSeq L (·.pop)) _ _ _
  refine wpAny_bind (wpAny_updateSeq hS₂ rfl ?_)
  have hS₃ := Heap.get?_update_self (Obj.mapSeq (·.push Value.none)) hS₂ rfl
  refine wpAny_updateSeq (hz := by seq_fits) hS₃ rfl ?_
  have hS₄ := Heap.get?_update_self (Obj.mapSeq (·.pop)) hS₃ rfl
  have oth2 : ∀ b o, b ≠ L → G2.get? b = some o → ((G2.update L (Obj.mapSeq (·.push Value.none))).update L (Obj.mapSeq (·.pop))).get? b = some o :=
    fun b o hb e => (Heap.get?_update_other _ _ (Ne.symm hb)).trans ((Heap.get?_update_other _ _ (Ne.symm hb)).trans e)
  have hG3 : ((G2.update L (Obj.mapSeq (·.push Value.none))).update L (Obj.mapSeq (·.pop))).objs.size = G2.objs.size := ((Heap.SameBut.update ..).1).trans ((Heap.SameBut.update ..).1)
  generalize hGGG : (G2.update L (Obj.mapSeq (·.push Value.none))).update L (Obj.mapSeq (·.pop)) = G3 at *
  have old : ∀ b o, s.heap.get? b = some o → G3.get? b = some o := fun b o e => by
    have hb : b < N := by rw [← hNN]; exact Heap.lt_size e
    have hb' : b ≠ L := Nat.ne_of_lt (Nat.lt_of_lt_of_le hb hNL)
    exact oth2 b o hb' (oth b o hb' (kp b o (hk b o e)))
  have at1 : G3.get? N = some o1 := oth2 _ _ (nL 0 (by omega)) (oth _ _ (nL 0 (by omega)) (kp _ _ e1))
  have at2 : G3.get? (N + 1) = some o2 := oth2 _ _ (nL 1 (by omega)) (oth _ _ (nL 1 (by omega)) (kp _ _ e2))
  have hLn1 : L ∉ N :: fp1 := fun hm => by
    rcases List.mem_cons.mp hm with e | hm
    · exact nL 0 (by omega) e.symm
    · exact Nat.lt_irrefl _ (Nat.lt_of_lt_of_le (hf1 _ hm) hNL)
  have hLn2 : L ∉ (N + 1) :: fp2 := fun hm => by
    rcases List.mem_cons.mp hm with e | hm
    · exact nL 1 (by omega) e.symm
    · exact Nat.lt_irrefl _ (Nat.lt_of_lt_of_le (hf2 _ hm) hNL)
  refine wpAny_pure ⟨plainId_quiet F.plain_extend_loop _, loop_zip (A := A.in1) (N := N) (L := L) SS (D1 _ (show A.in1.in1.in1.handled = none from hA)) (D2 _ (show A.in1.in1.in1.handled = none from hA)) hn hz .none hLn1 hLn2 (nL 4 (by omega)).symm (nL 2 (by omega)).symm (nL 3 (by omega)).symm (Nat.le_add_right _ _) (Nat.le_add_right _ _) (Nat.le_refl _) (Nat.le_add_right _ _) (by omega)
    n _ [] _ (by simp) (Nat.zero_le _) (.inl ⟨oth2 _ _ (nL 4 (by omega)) hz2, _, _, oth2 _ _ (nL 3 (by omega)) hO2⟩) (oth2 _ _ (nL 2 (by omega)) hT2) ?_ (b1 G3 old at1) (b2 G3 old at2) ?_ hS₄ .nil fun h' tk Ts c hl hk' hL' hld => ?_⟩
  · show (N + 3 : Nat) < G3.objs.size
    rw [hG3, hG2, hGz]; omega
  · show N ≤ G3.objs.size
    rw [hG3, hG2, hGz]; omega
  · refine ⟨rfl, hQ h' tk Ts c L hl (fun b o e => hk' b o (by rw [← hNN]; exact Heap.lt_size e) (old b o e)) (by omega) hL' hld.nd fun j T e => ?_⟩
    obtain ⟨a, _, b, _, c⟩ := hld.at_ j T e
    exact ⟨a, b, c⟩
end
end XL
namespace XL
open PySem PySem.Spec PyProof.Rows L2
/-- a list or a tuple -/
def Sq2 (K : PySem.W.Frag) (H : Hp) (a : Addr) (xs : List V) : Prop := SqL K H a xs ∨ SqT K H a xs
theorem Same.tup {K : PySem.W.Frag} {H H' : Hp} {a : Addr} {xs : List V} (e : Same H H') (h : SqT K H a xs) : SqT K H' a xs := by
  rcases h with (h | ⟨o, h⟩) | h
  · exact .inl (.inl (e _ _ h))
  · exact .inl (.inr ⟨o, e _ _ h⟩)
  · exact .inr h
theorem Same.sq2 {K : PySem.W.Frag} {H H' : Hp} {a : Addr} {xs : List V} (e : Same H H') (h : Sq2 K H a xs) : Sq2 K H' a xs := h.imp (fun q => e.seq q) (fun q => Same.tup e q)
theorem same_new {H : Hp} {p : Addr} {o : HO} (h : H p = none) : Same H (upd H p o) := fun b x e => by
  rw [upd_ne (ne_of_none e h)]
  exact e
section
variable {X : Cx} {pins : List (Addr × Obj)} {σ : L2.St} {H : Hp} {s : Shared} {a : Addr} {xs : List V}
theorem seq_draws (I : Inv X pins σ H s) (h : Sq2 X.K H a xs) : ∃ (its : List Value) (o : Obj) (B : Heap → Prop) (fp : List Addr), Vals xs its ∧ xs.length ≤ sizeLine ∧ Begins (.ref a) o B ∧ B s.heap ∧
    (∀ b ∈ fp, b < s.heap.objs.size) ∧ ∀ it, s.heap.objs.size ≤ it → ∃ St : Nat → Heap → Prop, (∀ A' : Around, A'.handled = none → Draws X.prog X.w A' it (it :: fp) its.length (fun i v => its[i]? = some v) St) ∧
      ∀ h' : Heap, (∀ b o, s.heap.get? b = some o → h'.get? b = some o) → h'.get? it = some o → St 0 h' := by
  rcases h with h | h
  · obtain ⟨its, rv, p, hz⟩ := I.list h
    have la : a < s.heap.objs.size := p.lt
    refine ⟨its, _, _, [a], rv, hz, begins_list a its.toArray, p.isList, fun b hb => by rw [List.mem_singleton.mp hb]; exact la, fun it hit => ?_⟩
    have hne : a ≠ it := Nat.ne_of_lt (Nat.lt_of_lt_of_le la hit)
    refine ⟨fun i h => h.IsListIter it a i ∧ h.IsList a its.toArray, fun A' hA => ?_, fun h' hk e => ?_⟩
    · have D := Draws.list (prog := X.prog) (w := X.w) hA it a hne its.toArray
      simpa using D
    · exact ⟨⟨_, e, rfl, rfl⟩, p.isList.at fun o q => hk a o q⟩
  · obtain ⟨its, rv, p, hz⟩ := I.tuple h
    have la : a < s.heap.objs.size := by
      obtain ⟨o, e, _⟩ := p
      exact Heap.lt_size e
    have p' : s.heap.IsTuple a its.toArray := p
    refine ⟨its, _, _, [a], rv, hz, begins_tuple a its.toArray, p', fun b hb => by rw [List.mem_singleton.mp hb]; exact la, fun it hit => ?_⟩
    have hne : a ≠ it := Nat.ne_of_lt (Nat.lt_of_lt_of_le la hit)
    refine ⟨fun i h => h.IsTupleIter it a i ∧ h.IsTuple a its.toArray, fun A' hA => ?_, fun h' hk e => ?_⟩
    · have D := Draws.tuple (prog := X.prog) (w := X.w) hA it a hne its.toArray
      simpa using D
    · exact ⟨⟨_, e, rfl, rfl⟩, p'.at fun o q => hk a o q⟩
end
/-- pairs laid at Ts -/
def layP (H : Hp) : List Addr → List V → List V → Hp
  | T :: Ts, x :: xs, y :: ys => upd (layP H Ts xs ys) T (.tup [x, y])
  | _, _, _ => H
theorem layP_off (H : Hp) {c : Addr} : ∀ (Ts : List Addr) (xs ys : List V), c ∉ Ts → layP H Ts xs ys c = H c
  | [], xs, ys, _ => by cases xs <;> cases ys <;> rfl
  | T :: Ts, [], ys, _ => rfl
  | T :: Ts, _ :: _, [], _ => rfl
  | T :: Ts, x :: xs, y :: ys, h => by
    have h1 : c ≠ T := fun e => h (by rw [e]; exact List.mem_cons_self ..)
    show upd (layP H Ts xs ys) T _ c = H c
    rw [upd_ne h1]
    exact layP_off H Ts xs ys fun q => h (List.mem_cons_of_mem _ q)
theorem layP_at (H : Hp) : ∀ (Ts : List Addr) (xs ys : List V) (j : Nat) (T : Addr) (x y : V), Ts.Nodup → Ts[j]? = some T → xs[j]? = some x → ys[j]? = some y → layP H Ts xs ys T = some (.tup [x, y])
  | [], _, _, _, _, _, _, _, h, _, _ => by simp at h
  | T :: Ts, [], _, _, _, _, _, _, _, h, _ => by simp at h
  | T :: Ts, _ :: _, [], _, _, _, _, _, _, _, h => by simp at h
  | T :: Ts, x :: xs, y :: ys, 0, T', x', y', _, h, hx, hy => by
    have e1 : T = T' := Option.some.inj h
    have e2 : x = x' := Option.some.inj hx
    have e3 : y = y' := Option.some.inj hy
    subst e1 e2 e3
    exact upd_same
  | T :: Ts, x :: xs, y :: ys, j + 1, T', x', y', nd, h, hx, hy => by
    have h' : Ts[j]? = some T' := h
    have hne : T' ≠ T := fun e => (List.nodup_cons.mp nd).1 (by rw [← e]; exact List.mem_of_getElem? h')
    show upd (layP H Ts xs ys) T _ T' = _
    rw [upd_ne hne]
    exact layP_at H Ts xs ys j T' x' y' (List.nodup_cons.mp nd).2 h' hx hy
/-- list(zip(e, e2)) -/
def tLZ (K : PySem.W.Frag) (ta : TA) : TE := fun σ H Q => ta σ H fun vs H1 => ∃ a b xs ys, vs = [.ref a, .ref b] ∧ Sq2 K H1 a xs ∧ Sq2 K H1 b ys ∧
  ∀ (L : Addr) (Ts : List Addr) (H2 : Hp), Same H1 H2 → H1 L = none → H2 L = some (.lst (Ts.map V.ref)) → Ts.length = min xs.length ys.length →
    (∀ (j : Nat) (T : Addr), Ts[j]? = some T → ∃ x y, xs[j]? = some x ∧ ys[j]? = some y ∧ H2 T = some (.tup [x, y])) → Q (.ref L) H2
theorem pe_listZip {X : Cx} {e e2 : Expr} {ta : TA} {p p2 pos pos2 : Pos} (hc : X.calm = true) (hg : Gl X "list") (hm : X.mg "list" = none) (hg2 : Gl X "zip") (hm2 : X.mg "zip" = none) (ha : PA X [e, e2] ta)
    (hs : starEach [e, e2] X.env = (false, eval e X.env) :: starEach [e2] X.env := by rfl) (hpl : (backTo pos2 (starEach [e2] X.env)).any (·.1) = false := by rfl)
    (na : starEach [(Expr.Call (.Name "zip" p2) [e, e2] [] pos2)] X.env = (false, eval (.Call (.Name "zip" p2) [e, e2] [] pos2) X.env) :: starEach [] X.env := by rfl) :
    PE X (.Call (.Name "list" p) [.Call (.Name "zip" p2) [e, e2] [] pos2] [] pos) (tLZ X.K ta) := by
  refine ⟨fun pins s σ H Q I h => ?_⟩
  refine Call_ (ld_blt I hg hm boot_list (PyProof.Rows.callWith_type1 (args_cons ?_ na) na))
  obtain ⟨tk0, I0⟩ : ∃ t : Nat, Inv X pins σ H s := ⟨0, I⟩
  refine Call_ (ld_blt I hg2 hm2 PyProof.Rows.boot_zip (PyProof.Rows.callWith_type1 (thn (ha.run pos2 pins s σ H _ I h) fun us s1 ⟨vs, H1, I1, r1, q1⟩ => ?_) hs hpl))
  obtain ⟨a, b, xs, ys, ex, hx, hy, q⟩ := q1
  subst ex
  obtain ⟨u1, u2, rfl, r1, r2⟩ := vals2 r1
  cases (show u1 = Value.ref a from r1)
  cases (show u2 = Value.ref b from r2)
  obtain ⟨its, o1, B1, fp1, rv1, z1, b1, hb1, f1, d1⟩ := seq_draws I1 hx
  obtain ⟨its2, o2, B2, fp2, rv2, z2, b2, hb2, f2, d2⟩ := seq_draws I1 hy
  obtain ⟨St1, D1, s1'⟩ := d1 s1.heap.objs.size (Nat.le_refl _)
  obtain ⟨St2, D2, s2'⟩ := d2 (s1.heap.objs.size + 1) (Nat.le_succ _)
  have l1 := rv1.length
  have l2 := rv2.length
  refine thn (call_list_zip (n := min its.length its2.length) (Q := fun v s2 => ∃ v' H', Inv X pins σ H' s2 ∧ RelV v' v ∧ Q v' H') (E := X.xe) b1 b2 hb1 hb2 f1 f2 D1 D2 s1' s2' (I1.ok.hd hc) rfl (by omega) fun h' tk Ts c L hl hk hLn hL nd hT => ?_) fun v s2 hq => args_nil hq
  have hT' : ∀ (j : Nat) (T : Addr), Ts[j]? = some T → ∃ x y u v, xs[j]? = some x ∧ ys[j]? = some y ∧ RelV x u ∧ RelV y v ∧ s1.heap.objs.size ≤ T ∧ T ≠ L ∧ IsTupOf2 h' T u v := fun j T e => by
    obtain ⟨g1, g2, u, v, pu, pv, t⟩ := hT j T e
    have hj1 : j < xs.length := by
      rw [l1]; exact (List.getElem?_eq_some_iff.mp pu).1
    have hj2 : j < ys.length := by
      rw [l2]; exact (List.getElem?_eq_some_iff.mp pv).1
    obtain ⟨u', eu, ru⟩ := rv1.get (List.getElem?_eq_getElem hj1)
    obtain ⟨v', ev, rv⟩ := rv2.get (List.getElem?_eq_getElem hj2)
    rw [eu] at pu
    rw [ev] at pv
    cases pu
    cases pv
    exact ⟨_, _, _, _, List.getElem?_eq_getElem hj1, List.getElem?_eq_getElem hj2, ru, rv, g1, g2, t⟩
  have hLT : L ∉ Ts := fun hm => by
    obtain ⟨j, e⟩ := List.getElem?_of_mem hm
    obtain ⟨_, _, _, _, _, _, _, _, _, ne, _⟩ := hT' j L e
    exact ne rfl
  have nTs : ∀ c, c < s1.heap.objs.size → c ∉ Ts := fun c hc hm => by
    obtain ⟨j, e⟩ := List.getElem?_of_mem hm
    obtain ⟨_, _, _, _, _, _, _, _, g, _⟩ := hT' j c e
    exact Nat.lt_irrefl _ (Nat.lt_of_lt_of_le hc g)
  have fr : ∀ c, s1.heap.objs.size ≤ c → H1 c = none := fun c hc => I1.hok.fresh hc
  have old : ∀ c o, H1 c = some o → upd (layP H1 Ts xs ys) L (.lst (Ts.map V.ref)) c = some o := fun c o e => by
    have h1 : c ≠ L := fun z => by rw [z, fr L hLn] at e; cases e
    have h2 : c ∉ Ts := fun hm => by
      obtain ⟨j, e'⟩ := List.getElem?_of_mem hm
      obtain ⟨_, _, _, _, _, _, _, _, g, _⟩ := hT' j c e'
      rw [fr c g] at e; cases e
    rw [upd_ne h1, layP_off H1 Ts xs ys h2]; exact e
  have U : Un X.fs [] H1 (upd (layP H1 Ts xs ys) L (.lst (Ts.map V.ref))) s1.heap h' := {
    keep := fun b o e _ _ _ => hk b o e
    slot := fun b o e _ _ _ => ⟨o.slots, hk b o e⟩
    free := fun b o e n _ => by
      have lb := Heap.lt_size e
      rw [upd_ne (Nat.ne_of_lt (Nat.lt_of_lt_of_le lb hLn)), layP_off H1 Ts xs ys (nTs b lb)]; exact n
    there := fun b o e _ => ⟨o, hk b o e⟩
    tups := fun b xs e => old b _ e
    frzs := fun b o u e => old b _ e
    tbls := fun b ps e => ⟨#[], by rw [old b _ e]; simp⟩ }
  have OK : HOk X.prog X.w (upd (layP H1 Ts xs ys) L (.lst (Ts.map V.ref))) h' := fun b o e => by
    by_cases hb : b = L
    · subst hb
      rw [upd_same] at e
      cases e
      refine ⟨by rw [List.length_map, hl]; omega, Ts.map Value.ref, c, ?_, hL⟩
      clear hT hT' hLT nTs old U hL nd hl q
      induction Ts with
      | nil => exact .nil
      | cons T r ih => exact .cons rfl ih
    · rw [upd_ne hb] at e
      by_cases hbT : b ∈ Ts
      · obtain ⟨j, ej⟩ := List.getElem?_of_mem hbT
        obtain ⟨x, y, u, v, ex, ey, ru, rv, g1, g2, t⟩ := hT' j b ej
        rw [layP_at H1 Ts xs ys j b x y nd ej ex ey] at e
        cases e
        exact ⟨by show 2 ≤ sizeLine; decide, [u, v], .cons ru (.cons rv .nil), ⟨_, t, rfl, _, rfl⟩⟩
      · rw [layP_off H1 Ts xs ys hbT] at e
        exact (I1.hok b o e).stay (fun c v _ q => hk c v q) (fun c q => old c _ q) fun c xs q => old c _ q
  refine ⟨.ref L, _, I1.un (t' := tk) U OK, rfl, q L Ts _ (fun c o e => old c o e) (fr L hLn) upd_same (by rw [hl]; omega) fun j T e => ?_⟩
  obtain ⟨x, y, u, v, ex, ey, ru, rv, g1, g2, t⟩ := hT' j T e
  exact ⟨x, y, ex, ey, by rw [upd_ne g2, layP_at H1 Ts xs ys j T x y nd e ex ey]⟩
end XL
namespace XL
open PySem PySem.Spec PyProof.Rows L2
/-- a def that keeps its promise where no repr is under way -/
structure FnG (P : Program) (w : World) (K : PySem.W.Frag) (mg : Str → Option Value) (base : Heap) (k : Nat) (f : Addr) (fd : FuncData) (ps : List Str) (sp : Sp) : Prop where
  len : ∀ vs H Q E, sp vs H Q E → vs.length = ps.length
  run : ∀ (A : Around) (outer : List Env) (s : Shared) (H : Hp) (args : Args) (us : List Value) (vs : List V) (Q : VK) (E : XK),
    A.guards = some [] → Room k A → Env0 P w K mg base A outer s H → BindsTo s fd args (ps.zip us) → Vals vs us → sp vs H Q E →
    codeAny (model P w) A (.call (.ref f) args) (CR CX0 outer P w H s Q E) s
section
variable {P : Program} {w : World} {K : PySem.W.Frag} {mg : Str → Option Value} {base : Heap}
theorem okG {x qual : Str} {st : Stmt} {f : Addr} {fd : FuncData} {N ps : List Str} {k : Nat} {sp : Sp} (F : Fun K x qual st f fd) (S : FnScope N ps (defScope st)) (len : ∀ vs H Q E, sp vs H Q E → vs.length = ps.length)
    (hbody : ∀ (cdv : Value) (A : Around) (outer : List Env) (s : Shared) (H : Hp) (vs : List V) (Q : VK) (E : XK),
      (A.deeper (envOfC qual (defScope st) s.heap.objs.size f cdv)).guards = some [] → Room k (A.deeper (envOfC qual (defScope st) s.heap.objs.size f cdv)) → sp vs H Q E →
      ∃ t, PSs (cxOf CX0 P w K mg base N qual (defScope st) f cdv A outer s H E).nox (defBody st) t ∧ t { nx := fun _ H' => Q .non H', rt := Q } (start N vs) H) : FnG P w K mg base (k + 1) f fd ps sp := by
  obtain ⟨oc, od, kV, doc, pm, an, cdv, ct, osl, rfl, lk, hcd⟩ := F.ex
  refine ⟨len, fun A outer s H args us vs Q E hgd hr e0 hb r hsp => ?_⟩
  have hl := len _ _ _ _ hsp; have KX : K.In s.heap := e0.mod.kin.keeps fun b o e => (e0.bs b o e).1
  have lim : s.heap.NoLimit := e0.mod.nolimit.keeps fun b o e => (e0.bs b o e).1
  have hkind : ∀ y ∈ ps.zip us, (defScope st).names.lookup y.1 = some .local ∨ ((defScope st).names.lookup y.1 = some .cell ∧ ((cellsFrom (s.heap.objs.size + 1) (defScope st).names []).lookup y.1).isSome = true) := fun ⟨n, v⟩ hy => by
    rcases S.par n (List.of_mem_zip hy).1 with q | q
    · exact .inl q
    · exact .inr ⟨q, PySem.W.cellsFrom_some _ _ _ (.inl q)⟩
  refine codeAny_call_function hr.depth (KX _ _ lk) rfl S.co S.gen rfl (PySem.W.codeRec_of KX hcd) (hb _ _ _ _ (wpAny_newFunctionEnv_cells S.kind hkind fun env he s1 x => ?_))
  subst he
  refine ⟨lim.keeps x.toInCall.keep, codeAny_func ?_⟩
  obtain ⟨t, ht, hq⟩ := hbody cdv A outer s H vs Q E hgd (hr.deeper _) hsp
  have I : Inv (cxOf CX0 P w K mg base N qual (defScope st) f cdv A outer s H E) [] (start N vs) H s1 := inv_start S hr.hd e0 hl r x
  refine wpAny_mono (ht.nox.run [] s1 (start N vs) H _ I hq) (fun fl s' hs => ?_) fun e s' hs => hs
  have fin : ∀ {σ' : L2.St} {H' : Hp} {v : V} {u : Value}, Inv (cxOf CX0 P w K mg base N qual (defScope st) f cdv A outer s H E) [] σ' H' s' → RelV v u → Q v H' → CE outer P w H s Q u s' := fun {σ' H' v u} J rv q =>
    ⟨v, H', J.os, J.bare, J.base, J.hok, rv, q⟩
  cases fl with
  | ret u => obtain ⟨v, σ', H', J, rv, q⟩ := hs; exact fin J rv q
  | next => obtain ⟨σ', H', J, q⟩ := hs; exact fin (v := V.non) (u := Value.none) J rfl q
  | brk => obtain ⟨_, _, _, q⟩ := hs; exact False.elim q
  | cont => obtain ⟨_, _, _, q⟩ := hs; exact False.elim q
theorem FnG.of {k : Nat} {f : Addr} {fd : FuncData} {ps : List Str} {sp : Sp} (F : FnOk P w K mg base CX0 k f fd ps sp) : FnG P w K mg base k f fd ps sp :=
  ⟨F.len, fun A outer s H args us vs Q E _ hr e0 hb r h => F.run A outer s H args us vs Q E hr e0 hb r h⟩
end
section
variable {X : Cx} {k : Nat} {f C : Addr} {fd : FuncData} {ps ks : List Str} {sp : Sp} {x m : Str} {p pos apos : Pos} {e o : Expr} {es : List Expr} {ta : TE} {t tk : TA} {kws : List Keyword}
/-- f(e, ..) of such a def -/
theorem pe_callG (hG : X.A.guards = some []) (F : FnG X.prog X.w X.K X.mg X.base k f fd ps sp) (hr : Room k X.A) (hg : Gl X x) (hm : X.mg x = some (.ref f)) (hk : PySem.W.keepIn X.K (.ref f) = true) (hb : Binds X.K fd ps [])
    (ha : PA X (e :: es) t) (hdb : (x == ("__debug__" : Str)) = false := by decide) (he : starEach (e :: es) X.env = (false, eval e X.env) :: starEach es X.env := by rfl)
    (hpl : (backTo pos (starEach es X.env)).any (·.1) = false := by rfl) : PE X (.Call (.Name x p) (e :: es) [] pos) (tCall sp [] E0 t) := by
  refine ⟨fun pins s σ H Q I h => wpAny_Call_Name_kw (ld_glob I hg hm ?_ hdb)⟩
  refine PySem.W.callWith_K (h₀ := X.base) I.ok.mod.kin hk (thn (ha.run pos pins s σ H _ I h) fun us s1 ⟨vs, H1, I1, r, q⟩ => ⟨I1.kIn, ?_⟩) he hpl
  have q' : sp vs H1 Q E0 := by have q2 : sp (vs ++ []) H1 Q E0 := q; rwa [List.append_nil] at q2
  have hl : us.length = ps.length := by rw [← r.length]; exact F.len _ _ _ _ q'
  have hb' : BindsTo s1 fd ⟨us, []⟩ (ps.zip us) := by have b2 := hb s1 us I1.kIn (by rw [List.append_nil]; exact hl); rwa [List.append_nil] at b2
  refine wpAny_call (codeAny_mono (F.run X.A X.stack s1 H1 ⟨us, []⟩ us vs Q E0 hG hr I1.env0 hb' r q') fun r s' hq => ?_)
  cases r with
  | error e => exact False.elim hq
  | ok fl =>
    cases fl with
    | ret u => exact I1.after hq
    | next => exact False.elim hq
    | brk => exact False.elim hq
    | cont => exact False.elim hq
variable {CX : CXT} {E : XK} {g : List Value → List Value → List Value} {gV : List V → List V → List V}
/-- f(k = v, ..), no argument by place -/
theorem pe_callK0 (F : FnOk X.prog X.w X.K X.mg X.base CX k f fd ps sp) (hr : Room k X.A) (hg : Gl X x) (hm : X.mg x = some (.ref f)) (hk : PySem.W.keepIn X.K (.ref f) = true) (hb : KBinds X.K fd ps ks g gV) (hx : Passes CX X E)
    (hkw : PK X kws tk) (hall : (backToKw pos (keywordEach kws X.env)).all (·.1.isSome) = true := by rfl) (hks : (backToKw pos (keywordEach kws X.env)).filterMap (·.1) = ks := by rfl)
    (hdb : (x == ("__debug__" : Str)) = false := by decide)
    (hpl : ((backTo pos (starEach [] X.env)).any (·.1) || (backToKw pos (keywordEach kws X.env)).any (·.1.isNone)) = false := by rfl) :
    PE X (.Call (.Name x p) [] kws pos) (fun σ H Q => tk σ H fun zs H2 => sp (gV [] zs) H2 Q E) := by
  refine ⟨fun pins s σ H Q I h => wpAny_Call_Name_kw (ld_glob I hg hm ?_ hdb)⟩
  refine PySem.W.callWith_KW0 (h₀ := X.base) I.ok.mod.kin hk hall (thn (hkw.run pos pins s σ H _ I h) fun ws s2 ⟨zs, H2, I2, rz, q2⟩ => ⟨I2.kIn, ?_⟩) hpl
  rw [hks]
  exact run_fnk F hr hb hx I2 .nil rz q2
end
/-! ### the head -/
theorem law_callG {P : Program} {w : World} {K : PySem.W.Frag} {mg mb : Str → Option Value} {k : Nat} {fa a : Addr} {fd : FuncData} {x : Str} {sp : Sp} {s₁ : Shared} {vs : List Value} {ns : List Int}
    (KX : K.In s₁.heap) (hns : s₁.heap.Ns mainGlobals mg) (hb : s₁.heap.Ns builtinsNs mb) (hbb : ∀ x : Str, x ≠ "__name__" → mb x = bootBuiltins x) (hlim : s₁.heap.NoLimit) (hg : s₁.gens = #[])
    (ha : s₁.heap.get? a = some { cls := .type "list", data := .seq vs.toArray }) (hi : IntsAre vs ns) (hl : ns.length ≤ sizeLine) (hr : Room k callerA)
    (F : ∀ base : Heap, K.In base → base.Ns mainGlobals mg → FnG P w K mg base k fa fd [x] sp) (hbind : ∀ (s : Shared) (u : Value), BindsTo s fd ⟨[u], []⟩ [(x, u)])
    (hsp : ∀ H : Hp, Only H → SqL K H a (ns.map V.int) → sp [.ref a] H (fun v _ => v = .bl true) fun _ _ _ => False) :
    codeAny (model P w) callerA (.call (.ref fa) ⟨[.ref a], []⟩) (fun r s' => r = .ok (.ret (.bool true)) ∧ OldK s₁.heap s'.heap ∧ s'.os = s₁.os ∧ AllBare s'.gens) s₁ := by
  have rv := vals_ints hi; have lenV := hi.length
  have core : ∀ H : Hp, Only H → SqL K H a (ns.map V.int) → HOk P w H s₁.heap → (∀ b, H b ≠ none → b = a) → (H a ≠ none → K.lookup a = none) → codeAny (model P w) callerA (.call (.ref fa) ⟨[.ref a], []⟩)
      (fun r s' => r = .ok (.ret (.bool true)) ∧ OldK s₁.heap s'.heap ∧ s'.os = s₁.os ∧ AllBare s'.gens) s₁ := by
    intro H hO hS hok hA hK
    have noA : ∀ {b : Addr} {o : Obj} {es : Array DictEntry} {ep : Nat}, s₁.heap.get? b = some o → o.data = .dict es ep → H b = none := by
      intro b o es ep e d
      cases q : H b with
      | none => rfl
      | some u =>
        have e' : b = a := hA b (by rw [q]; simp)
        subst e'; rw [ha] at e; cases e
        exact absurd (show Data.seq vs.toArray _ = Data.dict es ep from d) (by simp)
    have nsK : ∀ {b : Addr} {m : Str → Option Value}, s₁.heap.Ns b m → (hidT s₁.heap H).Ns b m := by
      intro b m hm
      obtain ⟨o, es, ep, e, d, r⟩ := hm
      exact ⟨o, es, ep, hidT_get e (noA e d), d, r⟩
    have hKb : K.In (hidT s₁.heap H) := by
      intro b o e
      refine hidT_get (KX b o e) ?_
      cases q : H b with
      | none => rfl
      | some u =>
        have e' : b = a := hA b (by rw [q]; simp)
        subst e'; rw [hK (by rw [q]; simp)] at e; cases e
    have hM : Mod K mg (hidT s₁.heap H) := by
      obtain ⟨mc, c1, c2⟩ := hlim
      exact ⟨hKb, nsK hns, ⟨mb, nsK hb, hbb⟩, ⟨mc, nsK c1, c2⟩⟩
    have e0 : Env0 P w K mg (hidT s₁.heap H) callerA [] s₁ H := by
      refine ⟨rfl, hM, fun b o e => of_hidT e, Nat.le_of_eq (hidT_size _ _), trivial, fun b hb => ?_, hok, .of_eq hg⟩
      exact absurd (show b ∈ ([] : List Addr) from hb) (by simp)
    refine codeAny_mono ((F _ hKb (nsK hns)).run callerA [] s₁ H ⟨[.ref a], []⟩ [.ref a] [.ref a] _ _ rfl hr e0 (hbind s₁ (.ref a)) (.cons rfl .nil) (hsp H hO hS)) fun r s' h => ?_
    cases r with
    | error e => exact False.elim h
    | ok fl =>
      cases fl with
      | next => exact False.elim h
      | brk => exact False.elim h
      | cont => exact False.elim h
      | ret u =>
        obtain ⟨v, H', os, bare, un, hok', r', q⟩ := h
        have q' : v = .bl true := q
        subst q'
        obtain rfl : u = Value.bool true := r'
        refine ⟨rfl, OldK.of_keep fun b o e => ?_, os, bare⟩
        cases q : H b with
        | none => exact un.keep b o e q (by intro z; exact absurd (show b ∈ ([] : List Addr) from z) (by simp)) (by simp)
        | some u =>
          rcases hO b with z | ⟨ob, xs, z⟩
          · rw [q] at z; cases z
          · have z2 := un.frzs b ob _ z
            obtain ⟨e1, _⟩ := hok b _ z; obtain ⟨e2, _⟩ := hok' b _ z2
            rw [e] at e1; cases e1; exact e2
  cases hk : K.lookup a with
  | some o =>
    have e := KX a o hk
    rw [ha] at e; cases e
    refine core (fun _ => none) (fun _ => .inl rfl) ?_ (fun b u z => nomatch z) (fun b z => absurd rfl z) fun z => absurd rfl z
    exact .inr ⟨_, vs.toArray, _, hk, rfl, rfl, rfl, by rw [List.size_toArray, lenV]; exact hl, by simpa using rv⟩
  | none =>
    refine core (fun b => if b = a then some (.frz { cls := .type "list", data := .seq vs.toArray } (.lst (ns.map V.int))) else none) (fun b => ?_) (.inl (.inr ⟨_, if_pos rfl⟩)) (fun b u z => ?_) (fun b z => ?_) fun _ => hk
    · by_cases hb : b = a
      · exact .inr ⟨_, _, if_pos hb⟩
      · exact .inl (if_neg hb)
    · by_cases hb : b = a
      · have z' := (if_pos hb).symm.trans z
        cases z'; subst hb
        exact ⟨ha, by rw [List.length_map]; exact hl, vs, _, rv, ha⟩
      · have z' := (if_neg hb).symm.trans z
        cases z'
    · by_cases hb : b = a
      · exact hb
      · exact absurd (if_neg hb) z
theorem walkG {l : PySem.W.OpenLaw} {n k : Nat} {q : Program} {loose : List Str} {XP : (Str → Option Value) → Heap → Prop} {YP : World → Heap → Prop} {d : DefRec} {K : Params → PySem.W.Frag} {sp : PySem.W.Frag → Sp} {x : Str}
    (hn : l.most = some n) (hn2 : n ≤ sizeLine) (hdf : d.params.defaults = []) (hr : Room k callerA) (hY : ∀ (w : World) (h : Heap), YP w h → (K w.params).In h)
    (F : ∀ (w : World) (mg : Str → Option Value) (fa : Addr) (h : Heap), (K w.params).In h → h.Ns mainGlobals mg → mg d.name = some (.ref fa) →
      ∃ fd : FuncData, (∀ (s : Shared) (u : Value), BindsTo s fd ⟨[u], []⟩ [(x, u)]) ∧ ∀ base : Heap, (K w.params).In base → base.Ns mainGlobals mg → FnG l.prog w (K w.params) mg base k fa fd [x] (sp (K w.params)))
    (hsp : ∀ (K : PySem.W.Frag) (H : Hp) (a : Addr) (ns : List Int), ns.length ≤ n → Only H → SqL K H a (ns.map V.int) → sp K [.ref a] H (fun v _ => v = .bl true) fun _ _ _ => False) :
    PySem.W.WalkO q loose XP YP l.row.toRowW d [] (fun f vs => PySem.call f vs) := by
  refine Att.attach_call hn hdf fun w s₀ s₁ mg mb fa o pm cd doc a vs ns G Y ho hd hcd hmg hobj hints hlen hg => ?_
  have KX := hY w _ Y
  obtain ⟨fd, hb, hF⟩ := F w mg fa _ KX G.T.g hmg
  exact law_callG KX G.T.g G.T.b G.T.builtins G.T.nolimit hg hobj hints (Nat.le_trans hlen hn2) hr hF hb fun H hO hS => hsp (K w.params) H a ns hlen hO hS
/-! ### repr of data -/
def tRep (K : PySem.W.Frag) (te : TE) : TE := fun σ H Q => te σ H fun x H1 => ∃ a d, x = .ref a ∧ Dp K H1 x d ∧ d.showable = true ∧ d.hasDict = false ∧ d.depth ≤ 50 ∧ d.shown.length ≤ sizeLine ∧ Q (.str d.shown) H1
theorem pe_rep {X : Cx} {k : Nat} {e : Expr} {te : TE} {p pos : Pos} (hG : X.A.guards = some []) (hr : Room k X.A) (hg : Gl X "repr") (hm : X.mg "repr" = none) (hb : bootBuiltins "repr" = some (.builtin "repr")) (ha : PE X e te)
    (he : starEach [e] X.env = (false, eval e X.env) :: starEach [] X.env := by rfl) : PE X (.Call (.Name "repr" p) [e] [] pos) (tRep X.K te) := by
  refine ⟨fun pins s σ H Q I h => wpAny_Call_Name_kw (ld_blt I hg hm hb ?_)⟩
  refine PyProof.Rows.callWith_builtin1 (args_cons (thn (ha.run pins s σ H _ I h) fun u s1 ⟨v, H1, I1, r1, q1⟩ => args_nil ?_) he) he rfl
  obtain ⟨a, d, ex, hd, hs, hno, hdp, hz, q⟩ := q1
  subst ex
  obtain ⟨as, rd⟩ := Dp.reads I1 d _ u hd r1
  cases (show u = Value.ref a from r1)
  have hu := hr.un
  refine repr_of_reads' rd hs (fun z => absurd z (by rw [hno]; decide)) hG (by omega) (fun b o e => e) (fun h' u tk hk => ?_) hz
  exact ⟨.str d.shown, H1, I1.kept hk, ⟨_, rfl⟩, q⟩
end XL
namespace XL
open PySem PySem.Spec PyProof.Rows L2
section
variable {K : PySem.W.Frag} {H H' : Hp}
/-! ### data stays -/
mutual
theorem Dp.same (s : Same H H') : ∀ {v : V} (d : PyData), Dp K H v d → Dp K H' v d
  | _, .none, h => by cases h; exact .non
  | _, .bool b, h => by cases h; exact .bl b
  | _, .int i, h => by cases h; exact .int i
  | _, .str x, h => by cases h; exact .str x
  | _, .list ds, h => by
    cases h with
    | lst hs ha => exact .lst (s.seq hs) (DpAll.same s ds ha)
  | _, .tuple ds, h => by
    cases h with
    | tup hs ha => exact .tup (Same.tup s hs) (DpAll.same s ds ha)
  | _, .dict _, h => by cases h
theorem DpAll.same (s : Same H H') : ∀ {vs : List V} (ds : List PyData), DpAll K H vs ds → DpAll K H' vs ds
  | _, [], h => by cases h; exact .nil
  | _, d :: ds, h => by
    cases h with
    | cons h1 h2 => exact .cons (Dp.same s d h1) (DpAll.same s ds h2)
end
theorem DpAll.length : ∀ {vs : List V} {ds : List PyData}, DpAll K H vs ds → vs.length = ds.length
  | _, _, .nil => rfl
  | _, _, .cons _ h => by rw [List.length_cons, List.length_cons, DpAll.length h]
theorem DpAll.get : ∀ {vs : List V} {ds : List PyData} {i : Nat} {v : V}, DpAll K H vs ds → vs[i]? = some v → ∃ d, ds[i]? = some d ∧ Dp K H v d
  | _, _, i, v, .nil, h => by simp at h
  | _, _, 0, v, .cons a _, h => by cases h; exact ⟨_, rfl, a⟩
  | _, _, i + 1, v, .cons _ r, h => DpAll.get r (i := i) h
theorem DpAll.get' : ∀ {vs : List V} {ds : List PyData} {i : Nat} {d : PyData}, DpAll K H vs ds → ds[i]? = some d → ∃ v, vs[i]? = some v ∧ Dp K H v d
  | _, _, i, v, .nil, h => by simp at h
  | _, _, 0, v, .cons a _, h => by cases h; exact ⟨_, rfl, a⟩
  | _, _, i + 1, v, .cons _ r, h => DpAll.get' r (i := i) h
theorem DpAll.app : ∀ {vs ws : List V} {ds es : List PyData}, DpAll K H vs ds → DpAll K H ws es → DpAll K H (vs ++ ws) (ds ++ es)
  | _, _, _, _, .nil, h => h
  | _, _, _, _, .cons a r, h => .cons a (DpAll.app r h)
theorem DpAll.snoc {vs : List V} {v : V} {ds : List PyData} {d : PyData} (a : DpAll K H vs ds) (h : Dp K H v d) : DpAll K H (vs ++ [v]) (ds ++ [d]) := DpAll.app a (.cons h .nil)
/-! ### kinds -/
def isSeq : PyData → Bool
  | .list _ => true
  | .tuple _ => true
  | _ => false
def tyD : PyData → Value
  | .none => .type "NoneType"
  | .bool _ => .type "bool"
  | .int _ => .type "int"
  | .str _ => .type "str"
  | .list _ => .type "list"
  | .tuple _ => .type "tuple"
  | .dict _ => .type "dict"
theorem tyx_of {v : V} {d : PyData} (h : Dp K H v d) : TyX K H v (tyD d) := by
  cases h with
  | non => exact .base .non
  | bl b => exact .base (.bl b)
  | int i => exact .base (.int i)
  | str x => exact .base (.str x)
  | lst hs _ =>
    rcases hs with (hs | ⟨o, hs⟩) | ⟨o, its, n, hk, hc, _⟩
    · exact .base (.lst hs)
    · exact .base (.frz hs)
    · exact .kList hk hc
  | tup hs _ =>
    rcases hs with (hs | ⟨o, hs⟩) | ⟨o, its, n, hk, hc, _⟩
    · exact .base (.tup hs)
    · exact .fTuple hs
    · exact .kTuple hk hc
theorem kit1 {t : String} {u : String} {b : Bool} (h : kitB t u = some b) : PySem.W.kitOne K (.type t) (.type u) = some b := kit_ty h
theorem kit2 {t u v : String} {a b : Bool} (h : kitB t u = some a) (h2 : kitB t v = some b) : PySem.W.kitAny K (.type t) [.type u, .type v] = some (a || b) := by
  refine kitAny_cons (kit_ty h) (fun e => ?_) (fun e => ?_)
  · subst e
    refine kitAny_cons (kit_ty h2) (fun e => ?_) (fun e => ?_)
    · subst e; rfl
    · subst e; rfl
  · subst e; rfl
theorem seq_kit (d : PyData) (h : ∀ kvs, d ≠ .dict kvs) : PySem.W.kitAny K (tyD d) [.type "list", .type "tuple"] = some (isSeq d) := by
  cases d with
  | none => exact kit2 (a := false) (b := false) (by decide +kernel) (by decide +kernel)
  | bool b => exact kit2 (a := false) (b := false) (by decide +kernel) (by decide +kernel)
  | int i => exact kit2 (a := false) (b := false) (by decide +kernel) (by decide +kernel)
  | str x => exact kit2 (a := false) (b := false) (by decide +kernel) (by decide +kernel)
  | list ds => exact kit2 (a := true) (b := false) (by decide +kernel) (by decide +kernel)
  | tuple ds => exact kit2 (a := false) (b := true) (by decide +kernel) (by decide +kernel)
  | dict kvs => exact absurd rfl (h kvs)
theorem Dp.nodict {v : V} {d : PyData} (h : Dp K H v d) : ∀ kvs, d ≠ .dict kvs := fun kvs e => by subst e; cases h
end
/-! ### data of bounded depth and width -/
def okD : Nat → PyData → Prop
  | 0, _ => False
  | n + 1, .list ds => ds.length ≤ 1000 ∧ ∀ d ∈ ds, okD n d
  | n + 1, .tuple ds => ds.length ≤ 1000 ∧ ∀ d ∈ ds, okD n d
  | _ + 1, _ => True
mutual
/-- lists as tuples -/
def tupD : PyData → PyData
  | .list ds => .tuple (tupDs ds)
  | .tuple ds => .tuple (tupDs ds)
  | .none => .none
  | .bool b => .bool b
  | .int i => .int i
  | .str x => .str x
  | .dict k => .dict k
def tupDs : List PyData → List PyData
  | [] => []
  | d :: ds => tupD d :: tupDs ds
end
mutual
/-- tuples as lists -/
def lstD : PyData → PyData
  | .list ds => .list (lstDs ds)
  | .tuple ds => .list (lstDs ds)
  | .none => .none
  | .bool b => .bool b
  | .int i => .int i
  | .str x => .str x
  | .dict k => .dict k
def lstDs : List PyData → List PyData
  | [] => []
  | d :: ds => lstD d :: lstDs ds
end
theorem tupDs_eq : ∀ ds : List PyData, tupDs ds = ds.map tupD
  | [] => rfl
  | d :: ds => by rw [tupDs, tupDs_eq ds]; rfl
theorem lstDs_eq : ∀ ds : List PyData, lstDs ds = ds.map lstD
  | [] => rfl
  | d :: ds => by rw [lstDs, lstDs_eq ds]; rfl
def itemsD : PyData → List PyData
  | .list ds => ds
  | .tuple ds => ds
  | _ => []
theorem seq_of {K : PySem.W.Frag} {H : Hp} {v : V} {d : PyData} (h : Dp K H v d) (hs : isSeq d = true) : ∃ a xs, v = .ref a ∧ Sq2 K H a xs ∧ DpAll K H xs (itemsD d) := by
  cases h with
  | lst h1 h2 => exact ⟨_, _, rfl, .inl h1, h2⟩
  | tup h1 h2 => exact ⟨_, _, rfl, .inr h1, h2⟩
  | _ => simp [isSeq] at hs
theorem okD_items {n : Nat} {d : PyData} (h : okD (n + 1) d) (hs : isSeq d = true) : (∀ e ∈ itemsD d, okD n e) ∧ (itemsD d).length ≤ 1000 := by
  cases d with
  | list ds => exact ⟨h.2, h.1⟩
  | tuple ds => exact ⟨h.2, h.1⟩
  | _ => simp [isSeq] at hs
theorem small {n : Nat} (h : n ≤ 1000) : n ≤ sizeLine := Nat.le_of_lt (small1000 h)
end XL
namespace XL
open PySem PySem.Spec PyProof.Rows L2
/-! ### a list that is hidden while an expression is evaluated -/
theorem same_delH {H : Hp} {D : Addr} {o : HO} : Same (delH H D) (upd H D o) := fun b x e => by
  by_cases hb : b = D
  · rw [hb, delH_same] at e; cases e
  · rw [delH_ne hb] at e; rw [upd_ne hb]; exact e
theorem delH_none {H : Hp} {D : Addr} (h : H D = none) : delH H D = H := by
  funext b
  by_cases hb : b = D
  · rw [hb, delH_same, h]
  · rw [delH_ne hb]
theorem delH_upd {H : Hp} {D : Addr} {o : HO} (h : H D = none) : delH (upd H D o) D = H := delH_new h
theorem upd_upd {H : Hp} {D : Addr} {o o' : HO} : upd (upd H D o) D o' = upd H D o' := by
  funext b
  by_cases hb : b = D
  · rw [hb, upd_same, upd_same]
  · rw [upd_ne hb, upd_ne hb, upd_ne hb]
theorem upd_comm {H : Hp} {D T : Addr} {o o' : HO} (h : T ≠ D) : upd (upd H D o) T o' = upd (upd H T o') D o := by
  funext b
  by_cases hb : b = D
  · rw [hb, upd_same, upd_ne (fun e => h e.symm), upd_same]
  · by_cases hT : b = T
    · rw [hT, upd_same, upd_ne h, upd_same]
    · rw [upd_ne hT, upd_ne hb, upd_ne hb, upd_ne hT]
section
variable {X : Cx} {pins : List (Addr × Obj)} {σ : L2.St} {H : Hp} {s s' : Shared} {D : Addr} {xs : List V}
theorem Inv.hide (I : Inv X pins σ H s) (hD : H D = some (.lst xs)) : ∃ (its : List Value) (n : Nat), Vals xs its ∧ xs.length ≤ sizeLine ∧
    Inv X ((D, { cls := .type "list", dict := none, data := .seq its.toArray n, slots := #[] }) :: pins) σ (delH H D) s := by
  obtain ⟨hz, its, n, rv, ho⟩ := (show ObjOk X.prog X.w H s.heap D (.lst xs) from I.hok D _ hD)
  have ne : ∀ {b : Addr}, H b = none → b ≠ D := fun {b} h e => by rw [e, hD] at h; cases h
  have hN : ∀ {b : Addr}, H b = none → delH H D b = none := fun {b} h => by rw [delH_ne (ne h)]; exact h
  refine ⟨its, n, rv, hz, ⟨I.ok, I.os, I.bare, ⟨I.base.keep, I.base.slot, fun b o e n hx => hN (I.base.free b o e n hx), I.base.there, fun b ys e => ?_, fun b o u e => ?_, fun b ps e => ?_⟩, I.loc, I.cell, hN I.free, fun x c e => hN (I.freeC x c e), fun p hp => ?_, fun b o e => ?_, I.len⟩⟩
  · have q := I.base.tups b ys e
    rw [delH_ne (fun z => by rw [z, hD] at q; cases q)]; exact q
  · have q := I.base.frzs b o u e
    rw [delH_ne (fun z => by rw [z, hD] at q; cases q)]; exact q
  · obtain ⟨m, q⟩ := I.base.tbls b ps e
    exact ⟨m, by rw [delH_ne (fun z => by rw [z, hD] at q; cases q)]; exact q⟩
  · rcases List.mem_append.mp hp with hp | hp
    · obtain ⟨a1, a2, a3⟩ := I.pin p (List.mem_append_left _ hp)
      exact ⟨a1, hN a2, a3⟩
    · rcases List.mem_cons.mp hp with e | hp
      · subst e
        refine ⟨ho, delH_same, fun e => ?_, fun hf => ?_, fun v e => nomatch e⟩
        · have := I.free; rw [show X.env.locals = D from e.symm, hD] at this; cases this
        · obtain ⟨_, o, q, _⟩ := I.ok.funs.mem hf
          have := I.base.free D o q (I.ok.frf D hf) fun z => I.ok.exfs D z hf
          rw [hD] at this; cases this
      · obtain ⟨a1, a2, a3⟩ := I.pin p (List.mem_append_right _ hp)
        exact ⟨a1, hN a2, a3⟩
  · have hb : b ≠ D := fun z => by rw [z, delH_same] at e; cases e
    rw [delH_ne hb] at e
    refine (I.hok b o e).stay (fun c v _ q => q) (fun c q => ?_) fun c ys q => ?_
    · rw [delH_ne (fun z => by rw [z, hD] at q; cases q)]; exact q
    · rw [delH_ne (fun z => by rw [z, hD] at q; cases q)]; exact q
theorem Inv.unhide {H' : Hp} {its : List Value} {n : Nat} (I : Inv X pins σ H s) (hD : H D = some (.lst xs)) (rv : Vals xs its) (hz : xs.length ≤ sizeLine)
    (J : Inv X ((D, { cls := .type "list", dict := none, data := .seq its.toArray n, slots := #[] }) :: pins) σ H' s') : H' D = none ∧ Inv X pins σ (upd H' D (.lst xs)) s' := by
  obtain ⟨ho, hn, _, _, _⟩ := J.pin (D, _) (List.mem_append_right _ (List.mem_cons_self ..))
  have hn' : H' D = none := hn
  have ne : ∀ {b : Addr}, H b = none → b ≠ D := fun {b} h e => by rw [e, hD] at h; cases h
  refine ⟨hn', ⟨J.ok, J.os, J.bare, ⟨J.base.keep, J.base.slot, fun b o e n hx => ?_, J.base.there, fun b ys e => ?_, fun b o u e => ?_, fun b ps e => ?_⟩, J.loc, J.cell, ?_, fun x c e => ?_, fun p hp => ?_, fun b o e => ?_, J.len⟩⟩
  · rw [upd_ne (ne (I.base.free b o e n hx))]; exact J.base.free b o e n hx
  · have q := J.base.tups b ys e
    rw [upd_ne (fun z => by rw [z, hn'] at q; cases q)]; exact q
  · have q := J.base.frzs b o u e
    rw [upd_ne (fun z => by rw [z, hn'] at q; cases q)]; exact q
  · obtain ⟨m, q⟩ := J.base.tbls b ps e
    exact ⟨m, by rw [upd_ne (fun z => by rw [z, hn'] at q; cases q)]; exact q⟩
  · rw [upd_ne (ne I.free)]; exact J.free
  · rw [upd_ne (ne (I.freeC x c e))]; exact J.freeC x c e
  · obtain ⟨_, a0, _⟩ := I.pin p hp
    have hp' : p ∈ X.pn ++ ((D, ({ cls := .type "list", dict := none, data := .seq its.toArray n, slots := #[] } : Obj)) :: pins) := by
      rcases List.mem_append.mp hp with h | h
      · exact List.mem_append_left _ h
      · exact List.mem_append_right _ (List.mem_cons_of_mem _ h)
    obtain ⟨a1, a2, a3⟩ := J.pin p hp'
    exact ⟨a1, by rw [upd_ne (ne a0)]; exact a2, a3⟩
  · by_cases hb : b = D
    · subst hb
      rw [upd_same] at e
      cases e
      exact ⟨hz, its, n, rv, ho⟩
    · rw [upd_ne hb] at e
      refine (J.hok b o e).stay (fun c v _ q => q) (fun c q => ?_) fun c ys q => ?_
      · rw [upd_ne (fun z => by rw [z, hn'] at q; cases q)]; exact q
      · rw [upd_ne (fun z => by rw [z, hn'] at q; cases q)]; exact q
end
/-- e, evaluated while the list at D is hidden -/
def tHide (t : TE) : TE := fun σ H Q => ∃ D xs, H D = some (.lst xs) ∧ t σ (delH H D) fun v H' => H' D = none → Q v (upd H' D (.lst xs))
theorem pe_hide {X : Cx} {e : Expr} {t : TE} (h : PE X e t) : PE X e (tHide t) := by
  refine ⟨fun pins s σ H Q I q => ?_⟩
  obtain ⟨D, xs, hD, q⟩ := q
  obtain ⟨its, n, rv, hz, J⟩ := Inv.hide I hD
  refine thn (h.run _ s σ _ _ J q) fun u s' hu => ?_
  obtain ⟨v, H', J', r, q'⟩ := hu
  obtain ⟨hn, I'⟩ := Inv.unhide I hD rv hz J'
  exact ⟨v, _, I', r, q' hn⟩
theorem wipe_none {σ : L2.St} {i : Nat} : ∀ {vs : List Nat}, i ∈ vs → (wipe σ vs).set i none = wipe σ vs
  | [], h => by simp at h
  | v :: vs, h => by
    show ((wipe σ vs).set v none).set i none = (wipe σ vs).set v none
    by_cases e : i = v
    · rw [e, List.set_set]
    · have h' : i ∈ vs := by rcases List.mem_cons.mp h with q | q; exact absurd q e; exact q
      rw [List.set_comm _ _ (fun q => e q.symm), wipe_none h']
theorem wipe_put {σ : L2.St} {i : Nat} {x : Option V} : ∀ {vs : List Nat}, i ∉ vs → wipe (σ.set i x) vs = (wipe σ vs).set i x
  | [], _ => rfl
  | v :: vs, h => by
    show (wipe (σ.set i x) vs).set v none = ((wipe σ vs).set v none).set i x
    rw [wipe_put (fun q => h (List.mem_cons_of_mem _ q)), List.set_comm _ _ (fun q => h (by rw [q]; exact List.mem_cons_self ..))]
theorem w1 {σ σ' : L2.St} {i : Nat} {x : Option V} {vs : List Nat} (h : i ∈ vs) (e : wipe σ' vs = wipe σ vs) : wipe (σ'.set i x) vs = wipe σ vs := by
  have key : ∀ {vs : List Nat}, i ∈ vs → wipe (σ'.set i x) vs = wipe σ' vs := by
    intro vs h
    induction vs with
    | nil => simp at h
    | cons v vs ih =>
      show (wipe (σ'.set i x) vs).set v none = (wipe σ' vs).set v none
      by_cases hm : i ∈ vs
      · rw [ih hm]
      · have ev : i = v := by rcases List.mem_cons.mp h with q | q; exact q; exact absurd q hm
        rw [wipe_put hm, ← ev, List.set_set]
  rw [key h, e]
theorem w0 {σ : L2.St} {vs : List Nat} : wipe (wipe σ vs) vs = wipe σ vs := by
  have key : ∀ ws : List Nat, (∀ i ∈ ws, i ∈ vs) → wipe (wipe σ vs) ws = wipe σ vs := by
    intro ws
    induction ws with
    | nil => intro _; rfl
    | cons w ws ih =>
      intro h
      show (wipe (wipe σ vs) ws).set w none = wipe σ vs
      rw [ih (fun i hi => h i (List.mem_cons_of_mem _ hi)), wipe_none (h w (List.mem_cons_self ..))]
  exact key vs fun i h => h
/-- a comprehension that makes one value a turn -/
theorem lc_map {J : It} {n : Nat} {G : Hp → Prop} {Y : Nat → Hp → V → Hp → Prop} (w : Walk J n G Y) (Rl : Hp → Hp → Prop) (tr : ∀ {A B C}, Rl A B → Rl B C → Rl A C)
    (R : Nat → V → Hp → Prop) (st : ∀ i y A B, Rl A B → R i y A → R i y B) {g : TG} {t : TE} {vs : List Nat} {σ : L2.St} {H1 : Hp} {Qd : Addr → Hp → Prop} (hz : n < sizeLine)
    (rf : Rl H1 H1) (hG : ∀ F D acc, Rl H1 F → F D = none → G (upd F D (.lst acc)))
    (hs : ∀ i x D acc F H', i < n → H1 D = none → Rl H1 F → F D = none → Y i (upd F D (.lst acc)) x H' → ∀ B : L2.St → Hp → Prop, (∀ σ2 Fm, wipe σ2 vs = wipe σ vs → Fm D = none →
      (∀ Qt : VK, (∀ y F', Rl F F' → R i y F' → Qt y F') → t σ2 Fm Qt) → B σ2 (upd Fm D (.lst acc))) → g x (wipe σ vs) H' B)
    (hd : ∀ D ys F, H1 D = none → Rl H1 F → F D = none → ys.length = n → (∀ (i : Nat) y, ys[i]? = some y → R i y F) → Qd D (upd F D (.lst ys))) :
    ∀ D, H1 D = none → ∃ W : Nat → Nat → Hp → Prop, (∃ m, W 0 m (upd H1 D (.lst []))) ∧ ∀ i m H, W i m H →
      (J.stop i H ∧ Qd D H) ∨ (J.go i H ∧ ∃ Nx : Hp → Prop, (∀ H', Nx H' → ∃ m', m' < m ∧ W (i + 1) m' H') ∧ ∀ x H', J.yld i H x H' → g x (wipe σ vs) H' fun σ2 H2 => wipe σ2 vs = wipe σ vs ∧ tYes σ2 H2 fun b H3 =>
        if b = true then tHide t σ2 H3 fun y H4 => ∃ acc, H4 D = some (.lst acc) ∧ acc.length < sizeLine ∧ Nx (upd H4 D (.lst (acc ++ [y]))) else Nx H3) := by
  intro D nD
  refine lc_it w (fun i H => ∃ ys F, H = upd F D (.lst ys) ∧ F D = none ∧ Rl H1 F ∧ ys.length = i ∧ ∀ (j : Nat) y, ys[j]? = some y → R j y F) ⟨[], H1, rfl, nD, rf, rfl, fun j y e => by simp at e⟩ ?_ ?_ ?_
  · rintro i H _ ⟨ys, F, rfl, nF, rl, _, _⟩
    exact hG F D ys rl nF
  · rintro i x H H' hi ⟨ys, F, rfl, nF, rl, hl, hR⟩ hy
    refine hs i x D ys F H' hi nD rl nF hy _ fun σ2 Fm hw nm ht => ⟨hw, ?_⟩
    unfold tYes; dsimp only
    rw [if_pos rfl]
    refine ⟨D, ys, upd_same, ?_⟩
    rw [delH_upd nm]
    refine ht _ fun y F' rl' r nF' => ⟨ys, upd_same, by omega, ys ++ [y], F', upd_upd, nF', tr rl rl', by rw [List.length_append, hl]; rfl, fun j z e => ?_⟩
    by_cases hj : j < ys.length
    · rw [List.getElem?_append_left hj] at e
      exact st j z F F' rl' (hR j z e)
    · rw [List.getElem?_append_right (by omega)] at e
      have hj0 : j - ys.length = 0 := by
        rcases Nat.eq_zero_or_pos (j - ys.length) with q | q
        · exact q
        · rw [List.getElem?_eq_none (by simp; omega)] at e; cases e
      rw [hj0] at e
      have e' : y = z := by simpa using e
      have ej : j = i := by omega
      rw [← e', ej]; exact r
  · rintro H ⟨ys, F, rfl, nF, rl, hl, hR⟩
    exact hd D ys F nD rl nF hl hR
/-! ### what is walked: a list or a tuple -/
def iSeq (K : PySem.W.Frag) (tl : TE) : TI := fun σ H R => tl σ H fun x H1 => ∃ a xs, x = .ref a ∧ Sq2 K H1 a xs ∧ ∀ J, Walk J xs.length (fun H => (¬ SqT K H1 a xs → SqL K H1 a xs → SqL K H a xs) ∧ (SqT K H1 a xs → SqT K H a xs)) (YAt xs) → R J H1
theorem pi_seq {X : Cx} {tg l : Expr} {tl : TE} (hl : PE X l tl) : PI X tg l (iSeq X.K tl) := by
  refine ⟨fun pins s σ H R I h => ?_⟩
  refine thn (hl.run pins s σ H _ I h) fun v s1 ⟨x, H1, I1, r1, q1⟩ => ?_
  obtain ⟨a, xs, e, hq, q⟩ := q1
  subst e
  cases r1
  have fp : ∀ b ∈ [s1.heap.objs.size], FpOk X pins H1 b := fun b hb => by
    have e : b = s1.heap.objs.size := by simpa using hb
    subst e
    exact I1.fpOk (Nat.le_refl _) (I1.hok.fresh (Nat.le_refl _))
  by_cases hT : SqT X.K H1 a xs
  rotate_left
  · have hq : SqL X.K H1 a xs := hq.resolve_right hT
    obtain ⟨its, rv, p, hz⟩ := I1.list hq
    refine wpAny_pyIter_list p.isList ⟨s1.heap.objs.size, [s1.heap.objs.size], _, _, H1, rfl, I1.kept (t' := s1.toks) fun b o e => Heap.get?_push_of_some _ e, turn_list a _, ⟨_, Heap.get?_push_size _ rfl, rfl, rfl⟩, fp, q (Itl X.K a) ?_⟩
    exact (walk_list (K := X.K) (a := a) (xs := xs)).mono (fun H g => g.1 hT hq) fun i H x H' _ _ y => y
  · obtain ⟨its, rv, p, hz⟩ := I1.tuple hT
    refine wpAny_pyIter_tuple (show s1.heap.IsTuple a its.toArray from p) ⟨s1.heap.objs.size, [s1.heap.objs.size], _, _, H1, rfl, I1.kept (t' := s1.toks) fun b o e => Heap.get?_push_of_some _ e, turn_tuple a _, ⟨_, Heap.get?_push_size _ rfl, rfl, rfl⟩, fp, q (Itt X.K a) ?_⟩
    exact (walk_tup (K := X.K) (a := a) (xs := xs)).mono (fun H g => g.2 hT) fun i H x H' _ _ y => y
/-- a, b, .. = a list or a tuple -/
def gAny (K : PySem.W.Frag) (n : Nat) (t : TGs) : TG := fun v σ H Q => ∃ a xs, v = .ref a ∧ Sq2 K H a xs ∧ xs.length = n ∧ t xs σ H Q
theorem pg_any {X : Cx} {es : List Expr} {k : Nat} {pos : Pos} {t : TGs} {n : Nat} (hc : X.calm = true) (h : PGs X es t)
    (hn : (assignEach es X.env).length = n := by rfl) (hst : (assignEach es X.env).findIdx? (·.1) = none := by rfl) : PG X (.Tuple es k pos) (gAny X.K n t) := by
  refine ⟨fun pins s σ H v u Q I r hw => ?_⟩
  obtain ⟨a, xs, e, hq, hl, hw⟩ := hw
  rcases hq with hq | hq
  · exact (pg_unl hc h hn hst).run pins s σ H v u Q I r ⟨a, xs, e, hq, hl, hw⟩
  · exact (pg_tup hc h hn hst).run pins s σ H v u Q I r ⟨a, xs, e, hq, hl, hw⟩
end XL
namespace XL
open PySem PySem.Spec PyProof.Rows L2
/-! ### data without lists: it stands while tuples stand -/
structure Tp (H H' : Hp) : Prop where
  t : ∀ a xs, H a = some (.tup xs) → H' a = some (.tup xs)
  f : ∀ a o xs, H a = some (.frz o (.tup xs)) → H' a = some (.frz o (.tup xs))
theorem Tp.of {H H' : Hp} (s : Same H H') : Tp H H' := ⟨fun a xs e => s _ _ e, fun a o xs e => s _ _ e⟩
theorem Tp.trans {A B C : Hp} (p : Tp A B) (q : Tp B C) : Tp A C := ⟨fun a xs e => q.t _ _ (p.t _ _ e), fun a o xs e => q.f _ _ _ (p.f _ _ _ e)⟩
theorem Tp.upd {H : Hp} {a : Addr} {xs : List V} {o : HO} (h : H a = some (.lst xs)) : Tp H (upd H a o) :=
  ⟨fun b ys e => by rw [upd_ne (fun z => by rw [z, h] at e; cases e)]; exact e, fun b o' ys e => by rw [upd_ne (fun z => by rw [z, h] at e; cases e)]; exact e⟩
theorem Tp.sqT {K : PySem.W.Frag} {H H' : Hp} {a : Addr} {xs : List V} (p : Tp H H') (h : SqT K H a xs) : SqT K H' a xs := by
  rcases h with (h | ⟨o, h⟩) | h
  · exact .inl (.inl (p.t _ _ h))
  · exact .inl (.inr ⟨o, p.f _ _ _ h⟩)
  · exact .inr h
mutual
def noL : PyData → Bool
  | .list _ => false
  | .tuple ds => noLs ds
  | _ => true
def noLs : List PyData → Bool
  | [] => true
  | d :: ds => noL d && noLs ds
end
section
variable {K : PySem.W.Frag} {H H' : Hp}
mutual
theorem Dp.tp (p : Tp H H') : ∀ {v : V} (d : PyData), noL d = true → Dp K H v d → Dp K H' v d
  | _, .none, _, h => by cases h; exact .non
  | _, .bool b, _, h => by cases h; exact .bl b
  | _, .int i, _, h => by cases h; exact .int i
  | _, .str x, _, h => by cases h; exact .str x
  | _, .list ds, n, h => by simp [noL] at n
  | _, .tuple ds, n, h => by
    cases h with
    | tup hs ha => exact .tup (p.sqT hs) (DpAll.tp p ds (by simpa [noL] using n) ha)
  | _, .dict _, _, h => by cases h
theorem DpAll.tp (p : Tp H H') : ∀ {vs : List V} (ds : List PyData), noLs ds = true → DpAll K H vs ds → DpAll K H' vs ds
  | _, [], _, h => by cases h; exact .nil
  | _, d :: ds, n, h => by
    cases h with
    | cons h1 h2 =>
      rw [noLs, Bool.and_eq_true] at n
      exact .cons (Dp.tp p d n.1 h1) (DpAll.tp p ds n.2 h2)
end
end
/-! ### canals as data -/
abbrev Lk := Int × Int × Int × Int
def lkD (l : Lk) : PyData := .tuple [.int l.1, .int l.2.1, .int l.2.2.1, .int l.2.2.2]
structure Cn where
  r : Int
  b : Int
  ls : List Lk
def cnD (c : Cn) : PyData := .tuple [.int c.r, .int c.b, .tuple (c.ls.map lkD)]
structure okLk (r b : Int) (l : Lk) : Prop where
  a0 : 0 ≤ l.1
  a1 : l.1 < r
  c0 : 0 ≤ l.2.1
  c1 : l.2.1 < r
  x0 : 0 ≤ l.2.2.1
  x1 : l.2.2.1 < b
  y0 : 0 ≤ l.2.2.2
  y1 : l.2.2.2 < b
structure okCn (wide utmost : Nat) (c : Cn) : Prop where
  r1 : 1 ≤ c.r
  r2 : c.r ≤ wide
  b1 : 1 ≤ c.b
  b2 : c.b ≤ wide
  n : c.ls.length ≤ utmost
  l : ∀ l ∈ c.ls, okLk c.r c.b l
theorem noLs_lk : ∀ ls : List Lk, noLs (ls.map lkD) = true
  | [] => rfl
  | l :: ls => by rw [List.map_cons, noLs, noLs_lk ls]; rfl
theorem noL_cn (c : Cn) : noL (cnD c) = true := by
  show noLs [.int c.r, .int c.b, .tuple (c.ls.map lkD)] = true
  simp [noLs, noL, noLs_lk]
theorem lk_lay (l : Lk) : (lkD l).canLay0 = true := by simp [lkD, PyData.canLay0, PyData.canLayAll0]
theorem lk_depth (l : Lk) : (lkD l).depth = 1 := by simp [lkD, PyData.depth, PyData.depthAll]
theorem lks_lay : ∀ ls : List Lk, PyData.canLayAll0 (ls.map lkD) = true
  | [] => by simp [PyData.canLayAll0]
  | l :: ls => by simp [PyData.canLayAll0, lk_lay l, lks_lay ls]
theorem lks_depth : ∀ ls : List Lk, PyData.depthAll (ls.map lkD) ≤ 1
  | [] => by simp [PyData.depthAll]
  | l :: ls => by
    have h1 := lks_depth ls; have h2 := lk_depth l
    simp only [List.map_cons, PyData.depthAll]; omega
theorem lks_shaped (ls : List Lk) : SeqAt.shaped (.list (ls.map lkD)) = true := by
  have h1 := lks_depth ls
  have h2 : PyData.depth (.list (ls.map lkD)) ≤ 64 := by simp only [PyData.depth]; omega
  show (PyData.canLay0 (.list (ls.map lkD)) && decide (PyData.depth (.list (ls.map lkD)) ≤ 64)) = true
  rw [Bool.and_eq_true]; exact ⟨by simp only [PyData.canLay0]; exact lks_lay ls, decide_eq_true h2⟩
theorem nil_shaped : SeqAt.shaped (.list []) = true := lks_shaped []
theorem eqv_nil (ls : List Lk) : PyData.eqv (.list (ls.map lkD)) (.list []) = ls.isEmpty := by
  cases ls with
  | nil => simp [PyData.eqv, PyData.eqvAll]
  | cons l ls => simp [PyData.eqv, PyData.eqvAll]
end XL
namespace XL
open PySem PySem.Spec PyProof.Rows L2
/-! ### what repr may be asked of -/
structure Shw (x : PyData) (n w : Nat) : Prop where
  s : x.showable = true
  h : x.hasDict = false
  d : x.depth ≤ n
  l : x.leavesShort 13 = true
  g : x.weight ≤ w
structure ShwA (ds : List PyData) (n w : Nat) : Prop where
  s : PyData.showableAll ds = true
  h : PyData.hasDictAll ds = false
  d : PyData.depthAll ds ≤ n
  l : PyData.leavesShortAll 13 ds = true
  g : PyData.weightAll ds ≤ w
theorem shw_int {i : Int} (h : i.natAbs < 10 ^ 12) (n : Nat) : Shw (.int i) n 41 := by
  have hl : i.natAbs ≠ 0 → i.natAbs.log2 < 40 := fun h0 => (Nat.log2_lt h0).mpr (by omega)
  refine ⟨?_, rfl, Nat.zero_le _, ?_, ?_⟩
  · show decide (i.natAbs.log2 < 1920) = true
    refine decide_eq_true ?_
    by_cases h0 : i.natAbs = 0
    · rw [h0]; decide
    · have := hl h0; omega
  · show decide ((PyData.shown (.int i)).length ≤ 13) = true
    exact decide_eq_true (PyData.shown_int_le h)
  · show (if i == 0 then 0 else i.natAbs.log2 + 1) ≤ 41
    split
    · omega
    · rename_i h0
      have : i.natAbs ≠ 0 := fun e => h0 (by rw [Int.natAbs_eq_zero.mp e]; rfl)
      have := hl this; omega
theorem ShwA.nil {n w : Nat} : ShwA [] n w := ⟨rfl, rfl, Nat.zero_le _, rfl, Nat.zero_le _⟩
theorem ShwA.cons {d : PyData} {ds : List PyData} {n w w' : Nat} (a : Shw d n w) (b : ShwA ds n w') : ShwA (d :: ds) n (w + 1 + w') := by
  refine ⟨?_, ?_, ?_, ?_, ?_⟩
  · show (d.showable && PyData.showableAll ds) = true
    rw [a.s, b.s]; rfl
  · show (d.hasDict || PyData.hasDictAll ds) = false
    rw [a.h, b.h]; rfl
  · show max d.depth (PyData.depthAll ds) ≤ n
    exact Nat.max_le.mpr ⟨a.d, b.d⟩
  · show (d.leavesShort 13 && PyData.leavesShortAll 13 ds) = true
    rw [a.l, b.l]; rfl
  · show d.weight + 1 + PyData.weightAll ds ≤ _
    have h1 := a.g; have h2 := b.g; omega
theorem ShwA.of {n w : Nat} : ∀ {ds : List PyData}, (∀ d ∈ ds, Shw d n w) → ShwA ds n (ds.length * (w + 1))
  | [], _ => .nil
  | d :: ds, h => by
    have q := ShwA.cons (h d (List.mem_cons_self ..)) (ShwA.of fun e he => h e (List.mem_cons_of_mem _ he))
    rw [List.length_cons, Nat.succ_mul, Nat.add_comm]; exact q
theorem ShwA.mono {ds : List PyData} {n n' w w' : Nat} (a : ShwA ds n w) (hn : n ≤ n') (hw : w ≤ w') : ShwA ds n' w' := ⟨a.s, a.h, Nat.le_trans a.d hn, a.l, Nat.le_trans a.g hw⟩
theorem Shw.mono {d : PyData} {n n' w w' : Nat} (a : Shw d n w) (hn : n ≤ n') (hw : w ≤ w') : Shw d n' w' := ⟨a.s, a.h, Nat.le_trans a.d hn, a.l, Nat.le_trans a.g hw⟩
theorem ShwA.tup {ds : List PyData} {n w : Nat} (a : ShwA ds n w) : Shw (.tuple ds) (n + 1) w := ⟨a.s, a.h, Nat.succ_le_succ a.d, a.l, a.g⟩
theorem ShwA.lst {ds : List PyData} {n w : Nat} (a : ShwA ds n w) : Shw (.list ds) (n + 1) w := ⟨a.s, a.h, Nat.succ_le_succ a.d, a.l, a.g⟩
theorem Shw.fits {d : PyData} {n w : Nat} (a : Shw d n w) (hw : w ≤ 1048576) : d.shown.length ≤ sizeLine := PyData.shown_fits (B := 13) (by decide) (by decide) a.l (Nat.le_trans a.g (by omega))
theorem shw_lk {r b : Int} {l : Lk} (hr : r ≤ 100) (hb : b ≤ 100) (ok : okLk r b l) : Shw (lkD l) 1 168 := by
  have := ok.a0; have := ok.a1; have := ok.c0; have := ok.c1; have := ok.x0; have := ok.x1; have := ok.y0; have := ok.y1
  exact ((ShwA.cons (shw_int (by omega) 0) (.cons (shw_int (by omega) 0) (.cons (shw_int (by omega) 0) (.cons (shw_int (by omega) 0) (ShwA.nil (w := 0)))))).mono (Nat.le_refl _) (by omega)).tup
theorem shw_cn {c : Cn} (ok : okCn 100 100 c) : Shw (cnD c) 3 17100 := by
  have h1 := ok.r1; have h2 := ok.r2; have h3 := ok.b1; have h4 := ok.b2; have h5 := ok.n
  have hl : ShwA (c.ls.map lkD) 1 16900 := (ShwA.of (n := 1) (w := 168) fun d hd => by
    obtain ⟨l, hm, rfl⟩ := List.mem_map.mp hd
    exact shw_lk (by omega) (by omega) (ok.l l hm)).mono (Nat.le_refl _) (by rw [List.length_map]; omega)
  exact ((ShwA.cons (shw_int (by omega) 2) (.cons (shw_int (by omega) 2) (.cons hl.tup (ShwA.nil (w := 0))))).mono (Nat.le_refl _) (by omega)).tup
theorem shw_ints {zs : List Int} {m : Nat} (h : ∀ z ∈ zs, z.natAbs < 10 ^ 12) (hm : zs.length ≤ m) : Shw (.tuple (zs.map PyData.int)) 1 (m * 42) :=
  ((ShwA.of (n := 0) (w := 41) fun d hd => by
    obtain ⟨z, hz, rfl⟩ := List.mem_map.mp hd
    exact shw_int (h z hz) 0).mono (Nat.le_refl _) (by rw [List.length_map]; exact Nat.mul_le_mul_right _ hm)).tup
end XL
namespace XL
open PySem PySem.Spec PyProof.Rows L2
def topS (i : Nat) : Stmt := PySem.Challenge.pw_crosslocks_k03_canals_exchanged_and_toge.main.body.getD i (.Pass ⟨0, 0, 0, 0⟩)
abbrev sTake : Stmt := topS 7
abbrev sOf : Stmt := topS 8
theorem atI_int {α : Type} {xs : List α} {i : Int} {v : α} (h0 : 0 ≤ i) (h : xs[i.toNat]? = some v) : atI xs i = some v := by
  have q := atI_nat h
  rwa [show ((i.toNat : Nat) : Int) = i by omega] at q
/-! ### the box: a list of three numbers -/
def Bx (H : Hp) (b : Addr) : Prop := ∃ x y z : Int, H b = some (.lst [.int x, .int y, .int z])
/-- all that was tracked but the box is as it was, the box is a box -/
structure Dr (b : Addr) (H H' : Hp) : Prop where
  box : Bx H' b
  same : ∀ a o, a ≠ b → H a = some o → H' a = some o
theorem Dr.refl {b : Addr} {H : Hp} (h : Bx H b) : Dr b H H := ⟨h, fun _ _ _ e => e⟩
theorem Dr.trans {b : Addr} {H H1 H2 : Hp} (p : Dr b H H1) (q : Dr b H1 H2) : Dr b H H2 := ⟨q.box, fun a o n e => q.same a o n (p.same a o n e)⟩
theorem Dr.new {b p : Addr} {H : Hp} {o : HO} (h : Bx H b) (n : H p = none) : Dr b H (upd H p o) := by
  obtain ⟨x, y, z, e⟩ := h
  exact ⟨⟨x, y, z, same_new n b _ e⟩, fun a o _ e => same_new n a o e⟩
theorem Dr.put {b : Addr} {H : Hp} {x y z : Int} : Dr b H (upd H b (.lst [.int x, .int y, .int z])) := ⟨⟨x, y, z, upd_same⟩, fun a o n e => by rw [upd_ne n]; exact e⟩
theorem Dr.of {b : Addr} {H H' : Hp} (h : Bx H b) (s : Same H H') : Dr b H H' := by
  obtain ⟨x, y, z, e⟩ := h
  exact ⟨⟨x, y, z, s _ _ e⟩, fun a o _ e => s a o e⟩
section
variable {P : Program} {w : World} {K : PySem.W.Frag} {mg : Str → Option Value} {base : Heap}
/-! ### _law_take -/
theorem scTake : FnScope ["_law_box_here", "_law_size", "_law_found", "_law_blend"] ["_law_box_here", "_law_size"] (defScope sTake) := ⟨rfl, rfl, rfl, by decide +kernel, rfl, by decide +kernel, by decide +kernel⟩
def spTake : Sp := fun vs H Q _ => ∃ (b : Addr) (n : Int), vs = [.ref b, .int n] ∧ Bx H b ∧ 0 < n ∧ n < 1073741824 ∧ ∀ (v : Int) (H' : Hp), 0 ≤ v → v < n → Dr b H H' → Q (.int v) H'
theorem fmod_lt {a n : Int} (h : 0 < n) : 0 ≤ a.fmod n ∧ a.fmod n < n := by
  rw [Int.fmod_eq_emod_of_nonneg _ (Int.le_of_lt h)]
  exact ⟨Int.emod_nonneg _ (by omega), Int.emod_lt_of_pos _ h⟩
theorem ok_take {f : Addr} {fd : FuncData} {k : Nat} (F : Fun K "_law_take" "_law_take" sTake f fd) : FnOk P w K mg base CX0 (k + 1) f fd ["_law_box_here", "_law_size"] spTake := by
  refine F.ok scTake (fun vs H Q E h => ?_) (fun cdv A outer s H vs Q E hr h => ?_)
  · obtain ⟨b, n, rfl, _⟩ := h
    rfl
  obtain ⟨b, n, rfl, ⟨x, y, z, eb⟩, h0, h1, q⟩ := h
  refine ⟨_, pss_cons (ps_if (pt_cmpR op_gt (pe_ix ix_list (pv 0) pe_int (fun _ _ => rfl)) pe_int (nomark _))
      (pss_cons (ps_set (i := 2) scTake.nd rfl (.inl rfl) (pe_op op_modN (pe_ix ix_list (pv 0) pe_int (fun _ _ => rfl)) (pv 1)))
      (pss_cons (ps_asg (pe_op op_fdivN (pe_ix ix_list (pv 0) pe_int (fun _ _ => rfl)) (pv 1)) (pg_sub (pv 0) pe_int set_list))
      (pss_one (ps_ret (pv 2))))) pss_nil)
    (pss_cons (ps_asg (pe_op op_add (pe_ix ix_list (pv 0) pe_int (fun _ _ => rfl)) pe_int) (pg_sub (pv 0) pe_int set_list))
    (pss_cons (ps_set (i := 3) scTake.nd rfl (.inl rfl) (pe_op op_modN (pe_op op_add (pe_ix ix_list (pv 0) pe_int (fun _ _ => rfl)) (pe_op op_mul pe_int (pe_ix ix_list (pv 0) pe_int (fun _ _ => rfl)))) pe_int))
    (pss_cons (ps_set (i := 3) scTake.nd rfl (.inl rfl) (pe_op op_modN (pe_op op_add (pe_op op_add (pe_op op_mul (pv 3) (pv 3)) (pe_op op_mul pe_int (pe_ix ix_list (pv 0) pe_int (fun _ _ => rfl)))) pe_int) pe_int))
    (pss_cons (ps_set (i := 3) scTake.nd rfl (.inl rfl) (pe_op op_modN (pe_op op_add (pe_op op_mul (pv 3) (pe_op op_add (pe_op op_fdivN (pv 3) pe_int) pe_int)) (pe_ix ix_list (pv 0) pe_int (fun _ _ => rfl))) pe_int))
    (pss_one (ps_ret (pe_op op_modN (pe_op op_fdivN (pv 3) pe_int) (pv 1)))))))), ?_⟩
  have sq : SqL K H b [.int x, .int y, .int z] := SqL.of eb
  -- box[0] > 0
  refine ⟨_, rfl, b, _, _, _, rfl, rfl, sq, rfl, _, _, rfl, rfl, _, rfl, ite2 (fun c => ?_) (fun c => ?_)⟩
  · refine ⟨_, rfl, b, _, _, _, rfl, rfl, sq, rfl, _, rfl, _, _, rfl, rfl, by omega, ?_⟩
    refine ⟨_, rfl, b, _, _, _, rfl, rfl, sq, rfl, _, rfl, _, _, rfl, rfl, ⟨by omega, by omega⟩, ?_⟩
    refine ⟨_, rfl, b, _, _, 0, rfl, rfl, eb, rfl, ?_⟩
    refine ⟨_, rfl, ?_⟩
    exact q _ _ (fmod_lt h0).1 (fmod_lt h0).2 Dr.put
  · refine ⟨_, rfl, b, _, _, _, rfl, rfl, sq, rfl, _, _, rfl, rfl, ?_⟩
    refine ⟨_, rfl, b, _, _, 2, rfl, rfl, eb, rfl, ?_⟩
    have sq2 : SqL K (upd H b (.lst [.int x, .int y, .int (z + 1)])) b [.int x, .int y, .int (z + 1)] := SqL.of upd_same
    refine ⟨_, rfl, b, _, _, _, rfl, rfl, sq2, rfl, _, rfl, b, _, _, _, rfl, rfl, sq2, rfl, _, _, rfl, rfl, .inl ⟨by decide, by decide⟩, _, _, rfl, rfl, _, _, rfl, rfl, (by show (2305843009213693951 : Int) ≠ 0; decide), ?_⟩
    have m1 := fmod_lt (a := y + 1442695040888963407 * (z + 1)) (n := 2305843009213693951) (by decide)
    refine ⟨_, rfl, _, rfl, _, _, rfl, rfl, .inl ⟨by omega, by omega⟩, _, rfl, b, _, _, _, rfl, rfl, sq2, rfl, _, _, rfl, rfl, .inl ⟨by decide, by decide⟩, _, _, rfl, rfl, _, _, rfl, rfl, _, _, rfl, rfl, (by show (2305843009213693921 : Int) ≠ 0; decide), ?_⟩
    have m2 := fmod_lt (a := (y + 1442695040888963407 * (z + 1)).fmod 2305843009213693951 * (y + 1442695040888963407 * (z + 1)).fmod 2305843009213693951 + 39373 * (z + 1) + 7) (n := 2305843009213693921) (by decide)
    refine ⟨_, rfl, _, rfl, _, _, rfl, rfl, ⟨by decide, by decide⟩, _, _, rfl, rfl, _, _, rfl, rfl, .inl ⟨by omega, by omega⟩, _, rfl, b, _, _, _, rfl, rfl, sq2, rfl, _, _, rfl, rfl, _, _, rfl, rfl, (by show (2305843009213693907 : Int) ≠ 0; decide), ?_⟩
    refine ⟨_, rfl, _, _, rfl, rfl, ⟨by decide, by decide⟩, _, rfl, _, _, rfl, rfl, by omega, ?_⟩
    exact q _ _ (fmod_lt h0).1 (fmod_lt h0).2 Dr.put
/-! ### _law_of -/
theorem scOf : FnScope ["_law_box_here", "_law_some"] ["_law_box_here", "_law_some"] (defScope sOf) := ⟨rfl, rfl, rfl, by decide +kernel, rfl, by decide +kernel, by decide +kernel⟩
def spOf (K : PySem.W.Frag) : Sp := fun vs H Q _ => ∃ (b l : Addr) (xs : List V), vs = [.ref b, .ref l] ∧ Bx H b ∧ l ≠ b ∧ SqL K H l xs ∧ xs ≠ [] ∧ xs.length < 1000 ∧ ∀ (j : Nat) (v : V) (H' : Hp), xs[j]? = some v → Dr b H H' → Q v H'
theorem Dr.sqL {b a : Addr} {H H' : Hp} {xs : List V} (d : Dr b H H') (n : a ≠ b) (h : SqL K H a xs) : SqL K H' a xs := by
  rcases h with (h | ⟨o, h⟩) | h
  · exact .inl (.inl (d.same _ _ n h))
  · exact .inl (.inr ⟨o, d.same _ _ n h⟩)
  · exact .inr h
theorem Dr.sqT {b a : Addr} {H H' : Hp} {xs : List V} (d : Dr b H H') (n : a ≠ b) (h : SqT K H a xs) : SqT K H' a xs := by
  rcases h with (h | ⟨o, h⟩) | h
  · exact .inl (.inl (d.same _ _ n h))
  · exact .inl (.inr ⟨o, d.same _ _ n h⟩)
  · exact .inr h
theorem ok_of {f ft : Addr} {fd fdt : FuncData} {k : Nat} (F : Fun K "_law_of" "_law_of" sOf f fd) (FT : Fun K "_law_take" "_law_take" sTake ft fdt) (bT : Binds K fdt ["_law_box_here", "_law_size"] []) (gT : mg "_law_take" = some (.ref ft)) (ml : mg "len" = none) :
    FnOk P w K mg base CX0 (k + 1 + 1) f fd ["_law_box_here", "_law_some"] (spOf K) := by
  refine F.ok scOf (fun vs H Q E h => ?_) (fun cdv A outer s H vs Q E hr h => ?_)
  · obtain ⟨b, l, xs, rfl, _⟩ := h
    rfl
  obtain ⟨b, l, xs, rfl, hb, hlb, hl, hne, hz, q⟩ := h
  refine ⟨_, pss_one (ps_ret (pe_ix ix_list (pv 1) (pe_call (ok_take (k := k) FT) hr rfl gT FT.kp bT .nil pass0 (pa_cons (pv 0) (pa_cons (pe_callB call_len_seq rfl ml PySem.boot_len (pa_cons (pv 1) pa_nil)) pa_nil))) (fun _ _ => rfl))), ?_⟩
  have hpos : 0 < xs.length := List.length_pos_iff.mpr hne
  refine ⟨_, rfl, _, rfl, _, rfl, l, xs, rfl, .inl hl, b, _, rfl, hb, by omega, by omega, fun v H' v0 v1 d => ?_⟩
  have hj : v.toNat < xs.length := by omega
  have ha : atI xs v = some xs[v.toNat] := atI_int v0 (List.getElem?_eq_getElem hj)
  refine ⟨l, xs, v, _, rfl, rfl, d.sqL hlb hl, ha, ?_⟩
  exact q v.toNat _ _ (List.getElem?_eq_getElem hj) d
end
end XL
namespace XL
open PySem PySem.Spec PyProof.Rows L2
abbrev sTupled : Stmt := topS 1
abbrev sLists : Stmt := topS 11
theorem boot_isinstance : bootBuiltins "isinstance" = some (.builtin "isinstance") := by decide +kernel
section
variable {P : Program} {w : World} {K : PySem.W.Frag} {mg : Str → Option Value} {base : Heap}
theorem no_fn {f : Addr} {fd : FuncData} {ps : List Str} {sp : Sp} (no : ∀ vs H Q E, ¬ sp vs H Q E) : FnOk P w K mg base CX0 0 f fd ps sp :=
  ⟨fun vs H Q E h => absurd h (no vs H Q E), fun A outer s H args us vs Q E _ _ _ _ h => absurd h (no vs H Q E)⟩
/-- the values of a list of data, mapped -/
theorem dpall_of {F : Hp} {f : PyData → PyData} : ∀ {ys : List V} {ds : List PyData}, ys.length = ds.length → (∀ (i : Nat) y, ys[i]? = some y → ∃ d, ds[i]? = some d ∧ Dp K F y (f d)) → DpAll K F ys (ds.map f)
  | [], [], _, _ => .nil
  | [], _ :: _, h, _ => by simp at h
  | _ :: _, [], h, _ => by simp at h
  | y :: ys, d :: ds, h, hi => by
    obtain ⟨d', e, p⟩ := hi 0 y rfl
    have e' : d = d' := by simpa using e
    subst e'
    exact .cons p (dpall_of (by simpa using h) fun i z q => by
      have := hi (i + 1) z (by simpa using q)
      simpa using this)
/-! ### tupled -/
theorem scTupled : FnScope ["thing", "part"] ["thing"] (defScope sTupled) := ⟨rfl, rfl, rfl, by decide +kernel, rfl, by decide +kernel, by decide +kernel⟩
def spTupled (K : PySem.W.Frag) (n : Nat) : Sp := fun vs H Q _ => ∃ (v : V) (d : PyData), vs = [v] ∧ Dp K H v d ∧ okD n d ∧ ∀ (v' : V) (H' : Hp), Same H H' → Dp K H' v' (tupD d) → Q v' H'
theorem ok_tupled {f : Addr} {fd : FuncData} (F : Fun K "tupled" "tupled" sTupled f fd) (b : Binds K fd ["thing"] []) (gF : mg "tupled" = some (.ref f)) (mi : mg "isinstance" = none) (ml : mg "list" = none) (mt : mg "tuple" = none) :
    ∀ n : Nat, FnOk P w K mg base CX0 n f fd ["thing"] (spTupled K n)
  | 0 => no_fn fun vs H Q E ⟨v, d, _, _, h, _⟩ => h
  | n + 1 => by
    have G := ok_tupled F b gF mi ml mt n
    refine F.ok scTupled (fun vs H Q E h => ?_) (fun cdv A outer s H vs Q E hr h => ?_)
    · obtain ⟨v, d, rfl, _⟩ := h
      rfl
    obtain ⟨v, d, rfl, hd, ok, q⟩ := h
    refine ⟨_, pss_cons (ps_if (pt_val (pe_callB call_isiT rfl mi boot_isinstance (pa_cons (pv 0) (pa_cons (pe_tup (pa_cons (pe_bltn (v := .ty "list") rfl ml boot_list rfl) (pa_cons (pe_bltn (v := .ty "tuple") rfl mt boot_tuple rfl) pa_nil))) pa_nil))))
        (pss_one (ps_ret (pe_callTy call_tuple_of rfl mt boot_tuple (pa_cons (pe_lc (own := [("part", 1)]) (g := gName 1) (tt := tYes) rfl scTupled.nd (pi_seq (pv 0)) (blkOk_by (own := [("part", 1)]) (N := ["thing", "part"]) (sc := defScope sTupled) (by decide +kernel))
          (fun _ _ _ _ _ => pg_name (i := 1) scTupled.nd rfl (Or.inl rfl)) (fun _ _ _ _ _ => pts_nil) (fun _ _ _ _ _ => pe_hide (pe_call G hr rfl gF F.kp b .nil pass0 (pa_cons (pv 1) pa_nil)))) pa_nil)))) pss_nil)
      (pss_one (ps_ret (pv 0))), ?_⟩
    refine ⟨_, rfl, (by show 2 ≤ sizeLine; decide), fun tp np => ?_⟩
    have s1 : Same H (upd H tp (.tup [.ty "list", .ty "tuple"])) := same_new np
    refine ⟨v, tp, _, tyD d, _, isSeq d, rfl, upd_same, .cons (.ty _) (.cons (.ty _) .nil), tyx_of (Dp.same s1 d hd), seq_kit d (Dp.nodict hd), isSeq d, rfl, ?_⟩
    cases hsq : isSeq d with
    | false =>
      refine iteF ⟨_, rfl, ?_⟩
      have e : tupD d = d := by cases d <;> first | rfl | (simp [isSeq] at hsq)
      exact q _ _ s1 (by rw [e]; exact Dp.same s1 d hd)
    | true =>
      obtain ⟨a, xs, ds, rfl, hs, hall, het, hok, hlen⟩ : ∃ a xs ds, v = .ref a ∧ Sq2 K H a xs ∧ DpAll K H xs ds ∧ tupD d = .tuple (ds.map tupD) ∧ (∀ e ∈ ds, okD n e) ∧ ds.length ≤ 1000 := by
        cases hd with
        | lst h1 h2 => exact ⟨_, _, _, rfl, .inl h1, h2, by rw [tupD, tupDs_eq], ok.2, ok.1⟩
        | tup h1 h2 => exact ⟨_, _, _, rfl, .inr h1, h2, by rw [tupD, tupDs_eq], ok.2, ok.1⟩
        | _ => simp [isSeq] at hsq
      have hxl : xs.length = ds.length := DpAll.length hall
      refine iteT ⟨_, rfl, a, xs, rfl, Same.sq2 s1 hs, fun J wk => lc_map wk Same (fun a b => a.trans b) (fun i y F => ∃ d, ds[i]? = some d ∧ Dp K F y (tupD d)) (fun i y A B s ⟨d, e, p⟩ => ⟨d, e, Dp.same s _ p⟩) (by rw [hxl]; exact small1000 hlen) (Same.refl _) (fun F D acc sF nF => ?_) (fun i x D acc F H' hi nD sF nF hy B hB => ?_) (fun D ys F nD sF nF hl hR => ?_)⟩
      · have sD : Same _ (upd F D (.lst acc)) := sF.trans (same_new nF)
        exact ⟨fun _ z => sD.seq z, fun z => Same.tup sD z⟩
      · obtain ⟨rfl, hx⟩ := hy
        obtain ⟨e, he, hp⟩ := DpAll.get hall hx
        refine hB _ F rfl nF fun Qt hq => ?_
        refine ⟨x, rfl, x, e, rfl, Dp.same (s1.trans sF) e hp, hok e (List.mem_of_getElem? he), fun v' H' s' p' => hq _ _ s' ⟨e, he, p'⟩⟩
      · refine ⟨D, ys, rfl, .inl ⟨SqL.of upd_same, fun l nl => ?_⟩⟩
        have sD : Same F (upd F D (.lst ys)) := same_new nF
        have s3 : Same F (upd (upd F D (.lst ys)) l (.tup ys)) := sD.trans (same_new nl)
        refine q _ _ (s1.trans (sF.trans s3)) ?_
        rw [het]
        exact .tup (.inl (.inl upd_same)) (DpAll.same s3 _ (dpall_of (by rw [hl, hxl]) hR))
/-! ### _law_lists -/
theorem scLists : FnScope ["_law_what", "_law_part"] ["_law_what"] (defScope sLists) := ⟨rfl, rfl, rfl, by decide +kernel, rfl, by decide +kernel, by decide +kernel⟩
def spLists (K : PySem.W.Frag) (n : Nat) : Sp := fun vs H Q _ => ∃ (v : V) (d : PyData), vs = [v] ∧ Dp K H v d ∧ okD n d ∧ ∀ (v' : V) (H' : Hp), Same H H' → Dp K H' v' (lstD d) → Q v' H'
theorem ok_lists {f : Addr} {fd : FuncData} (F : Fun K "_law_lists" "_law_lists" sLists f fd) (b : Binds K fd ["_law_what"] []) (gF : mg "_law_lists" = some (.ref f)) (mi : mg "isinstance" = none) (ml : mg "list" = none) (mt : mg "tuple" = none) :
    ∀ n : Nat, FnOk P w K mg base CX0 n f fd ["_law_what"] (spLists K n)
  | 0 => no_fn fun vs H Q E ⟨v, d, _, _, h, _⟩ => h
  | n + 1 => by
    have G := ok_lists F b gF mi ml mt n
    refine F.ok scLists (fun vs H Q E h => ?_) (fun cdv A outer s H vs Q E hr h => ?_)
    · obtain ⟨v, d, rfl, _⟩ := h
      rfl
    obtain ⟨v, d, rfl, hd, ok, q⟩ := h
    refine ⟨_, pss_one (ps_ret (pe_ifExp (pt_val (pe_callB call_isiT rfl mi boot_isinstance (pa_cons (pv 0) (pa_cons (pe_tup (pa_cons (pe_bltn (v := .ty "list") rfl ml boot_list rfl) (pa_cons (pe_bltn (v := .ty "tuple") rfl mt boot_tuple rfl) pa_nil))) pa_nil))))
        (pe_lc (own := [("_law_part", 1)]) (g := gName 1) (tt := tYes) rfl scLists.nd (pi_seq (pv 0)) (blkOk_by (own := [("_law_part", 1)]) (N := ["_law_what", "_law_part"]) (sc := defScope sLists) (by decide +kernel))
          (fun _ _ _ _ _ => pg_name (i := 1) scLists.nd rfl (Or.inl rfl)) (fun _ _ _ _ _ => pts_nil) (fun _ _ _ _ _ => pe_hide (pe_call G hr rfl gF F.kp b .nil pass0 (pa_cons (pv 1) pa_nil)))) (pv 0))), ?_⟩
    refine ⟨_, rfl, (by show 2 ≤ sizeLine; decide), fun tp np => ?_⟩
    have s1 : Same H (upd H tp (.tup [.ty "list", .ty "tuple"])) := same_new np
    refine ⟨v, tp, _, tyD d, _, isSeq d, rfl, upd_same, .cons (.ty _) (.cons (.ty _) .nil), tyx_of (Dp.same s1 d hd), seq_kit d (Dp.nodict hd), isSeq d, rfl, ?_⟩
    cases hsq : isSeq d with
    | false =>
      refine iteF ⟨_, rfl, ?_⟩
      have e : lstD d = d := by cases d <;> first | rfl | (simp [isSeq] at hsq)
      exact q _ _ s1 (by rw [e]; exact Dp.same s1 d hd)
    | true =>
      obtain ⟨a, xs, ds, rfl, hs, hall, het, hok, hlen⟩ : ∃ a xs ds, v = .ref a ∧ Sq2 K H a xs ∧ DpAll K H xs ds ∧ lstD d = .list (ds.map lstD) ∧ (∀ e ∈ ds, okD n e) ∧ ds.length ≤ 1000 := by
        cases hd with
        | lst h1 h2 => exact ⟨_, _, _, rfl, .inl h1, h2, by rw [lstD, lstDs_eq], ok.2, ok.1⟩
        | tup h1 h2 => exact ⟨_, _, _, rfl, .inr h1, h2, by rw [lstD, lstDs_eq], ok.2, ok.1⟩
        | _ => simp [isSeq] at hsq
      have hxl : xs.length = ds.length := DpAll.length hall
      refine iteT ⟨_, rfl, a, xs, rfl, Same.sq2 s1 hs, fun J wk => lc_map wk Same (fun a b => a.trans b) (fun i y F => ∃ d, ds[i]? = some d ∧ Dp K F y (lstD d)) (fun i y A B s ⟨d, e, p⟩ => ⟨d, e, Dp.same s _ p⟩) (by rw [hxl]; exact small1000 hlen) (Same.refl _) (fun F D acc sF nF => ?_) (fun i x D acc F H' hi nD sF nF hy B hB => ?_) (fun D ys F nD sF nF hl hR => ?_)⟩
      · have sD : Same _ (upd F D (.lst acc)) := sF.trans (same_new nF)
        exact ⟨fun _ z => sD.seq z, fun z => Same.tup sD z⟩
      · obtain ⟨rfl, hx⟩ := hy
        obtain ⟨e, he, hp⟩ := DpAll.get hall hx
        refine hB _ F rfl nF fun Qt hq => ?_
        refine ⟨x, rfl, x, e, rfl, Dp.same (s1.trans sF) e hp, hok e (List.mem_of_getElem? he), fun v' H' s' p' => hq _ _ s' ⟨e, he, p'⟩⟩
      · have sD : Same F (upd F D (.lst ys)) := same_new nF
        refine q _ _ (s1.trans (sF.trans sD)) ?_
        rw [het]
        exact .lst (SqL.of upd_same) (DpAll.same sD _ (dpall_of (by rw [hl, hxl]) hR))
end
end XL
namespace XL
open PySem PySem.Spec PyProof.Rows L2
abbrev sSame : Stmt := topS 12
theorem boot_all : bootBuiltins "all" = some (.builtin "all") := by decide +kernel
theorem boot_bool' : bootBuiltins "bool" = some (.type "bool") := by decide +kernel
theorem boot_str' : bootBuiltins "str" = some (.type "str") := by decide +kernel
theorem boot_int' : bootBuiltins "int" = some (.type "int") := by decide +kernel
section
variable {P : Program} {w : World} {K : PySem.W.Frag} {mg : Str → Option Value} {base : Heap}
def isBS : PyData → Bool
  | .bool _ => true
  | .str _ => true
  | _ => false
def isB : PyData → Bool
  | .bool _ => true
  | _ => false
theorem kitf {a b : String} (h : kitB a b = some false) : PySem.W.kitOne K (.type a) (.type b) = some false := kit_ty h
theorem kitt {a b : String} (h : kitB a b = some true) : PySem.W.kitOne K (.type a) (.type b) = some true := kit_ty h
theorem kit_list (d : PyData) : ∃ b, PySem.W.kitOne K (tyD d) (.type "list") = some b := by cases d <;> first | exact ⟨false, kitf (by decide +kernel)⟩ | exact ⟨true, kitt (by decide +kernel)⟩
theorem kit_tuple (d : PyData) : ∃ b, PySem.W.kitOne K (tyD d) (.type "tuple") = some b := by cases d <;> first | exact ⟨false, kitf (by decide +kernel)⟩ | exact ⟨true, kitt (by decide +kernel)⟩
theorem kit_bool (d : PyData) : PySem.W.kitOne K (tyD d) (.type "bool") = some (isB d) := by cases d <;> first | exact kitf (by decide +kernel) | exact kitt (by decide +kernel)
theorem kit_int (i : Int) : PySem.W.kitOne K (tyD (.int i)) (.type "int") = some true := kitt (by decide +kernel)
theorem bs_kit (d : PyData) : PySem.W.kitAny K (tyD d) [.type "bool", .type "str"] = some (isBS d) := by
  cases d with
  | none => exact kit2 (a := false) (b := false) (by decide +kernel) (by decide +kernel)
  | bool b => exact kit2 (a := true) (b := false) (by decide +kernel) (by decide +kernel)
  | int i => exact kit2 (a := false) (b := false) (by decide +kernel) (by decide +kernel)
  | str x => exact kit2 (a := false) (b := true) (by decide +kernel) (by decide +kernel)
  | list ds => exact kit2 (a := false) (b := false) (by decide +kernel) (by decide +kernel)
  | tuple ds => exact kit2 (a := false) (b := false) (by decide +kernel) (by decide +kernel)
  | dict kvs => exact kit2 (a := false) (b := false) (by decide +kernel) (by decide +kernel)
theorem all_true : ∀ n : Nat, (List.replicate n true).all id = true
  | 0 => rfl
  | n + 1 => by rw [List.replicate_succ, List.all_cons, all_true n]; rfl
theorem eq_true_map : ∀ (ys : List V), (∀ (i : Nat) y, ys[i]? = some y → y = .bl true) → ys = (List.replicate ys.length true).map V.bl
  | [], _ => rfl
  | y :: ys, h => by
    have h0 := h 0 y rfl
    have r := eq_true_map ys fun i z e => h (i + 1) z (by simpa using e)
    rw [List.length_cons, List.replicate_succ, List.map_cons, ← r, h0]
theorem scSame : FnScope ["_law_found", "_law_due", "_law_both", "_law_mine", "_law_yours"] ["_law_found", "_law_due"] (defScope sSame) := ⟨rfl, rfl, rfl, by decide +kernel, rfl, by decide +kernel, by decide +kernel⟩
def spSame (K : PySem.W.Frag) (n : Nat) : Sp := fun vs H Q _ => ∃ (v u : V) (d : PyData), vs = [v, u] ∧ Dp K H v d ∧ Dp K H u d ∧ okD n d ∧ ∀ H' : Hp, Same H H' → Q (.bl true) H'
theorem ok_same {f : Addr} {fd : FuncData} (F : Fun K "_law_same" "_law_same" sSame f fd) (b : Binds K fd ["_law_found", "_law_due"] []) (gF : mg "_law_same" = some (.ref f)) (mi : mg "isinstance" = none) (ml : mg "list" = none) (mt : mg "tuple" = none)
    (mz : mg "zip" = none) (me : mg "len" = none) (ma : mg "all" = none) (mb : mg "bool" = none) (ms : mg "str" = none) (mn : mg "int" = none) :
    ∀ n : Nat, FnOk P w K mg base CX0 n f fd ["_law_found", "_law_due"] (spSame K n)
  | 0 => no_fn fun vs H Q E ⟨v, u, d, _, _, _, h, _⟩ => h
  | n + 1 => by
    have G := ok_same F b gF mi ml mt mz me ma mb ms mn n
    refine F.ok scSame (fun vs H Q E h => ?_) (fun cdv A outer s H vs Q E hr h => ?_)
    · obtain ⟨v, u, d, rfl, _⟩ := h
      rfl
    obtain ⟨v, u, d, rfl, hv, hu, ok, q⟩ := h
    refine ⟨_, pss_cons (ps_if (pt_val (pe_callB call_isiT rfl mi boot_isinstance (pa_cons (pv 1) (pa_cons (pe_tup (pa_cons (pe_bltn (v := .ty "list") rfl ml boot_list rfl) (pa_cons (pe_bltn (v := .ty "tuple") rfl mt boot_tuple rfl) pa_nil))) pa_nil))))
        (pss_cons (ps_if (PW.pt (pw_or (pt_cmpR op_ne (pe_callB call_isi rfl mi boot_isinstance (pa_cons (pv 0) (pa_cons (pe_bltn (v := .ty "list") rfl ml boot_list rfl) pa_nil))) (pe_callB call_isi rfl mi boot_isinstance (pa_cons (pv 1) (pa_cons (pe_bltn (v := .ty "list") rfl ml boot_list rfl) pa_nil))) (nomark _))
              (pw_or1 (pt_cmpR op_ne (pe_callB call_isi rfl mi boot_isinstance (pa_cons (pv 0) (pa_cons (pe_bltn (v := .ty "tuple") rfl mt boot_tuple rfl) pa_nil))) (pe_callB call_isi rfl mi boot_isinstance (pa_cons (pv 1) (pa_cons (pe_bltn (v := .ty "tuple") rfl mt boot_tuple rfl) pa_nil))) (nomark _)))))
            (pss_one (ps_ret pe_bl)) pss_nil)
        (pss_cons (ps_set (i := 2) scSame.nd rfl (.inl rfl) (pe_listZip rfl rfl ml rfl mz (pa_cons (pv 0) (pa_cons (pv 1) pa_nil))))
        (pss_one (ps_ret (pe_and (pe_cmpR op_eq (pe_callB call_len_seq rfl me PySem.boot_len (pa_cons (pv 0) pa_nil)) (pe_callB call_len_seq rfl me PySem.boot_len (pa_cons (pv 1) pa_nil)) (nomark _))
          (pe_one (pe_callB (cr_all rfl) rfl ma boot_all (pa_cons (pe_lc (own := [("_law_mine", 3), ("_law_yours", 4)]) (g := gAny K 2 (gCons (gName 3) (gCons (gName 4) gNil))) (tt := tYes) rfl scSame.nd (pi_seq (pv 2))
            (blkOk_by (own := [("_law_mine", 3), ("_law_yours", 4)]) (N := ["_law_found", "_law_due", "_law_both", "_law_mine", "_law_yours"]) (sc := defScope sSame) (by decide +kernel))
            (fun _ _ _ _ _ => pg_any rfl (pgs_cons (pg_name (i := 3) scSame.nd rfl (Or.inl rfl)) (pgs_cons (pg_name (i := 4) scSame.nd rfl (Or.inl rfl)) pgs_nil))) (fun _ _ _ _ _ => pts_nil)
            (fun _ _ _ _ _ => pe_hide (pe_call G hr rfl gF F.kp b .nil pass0 (pa_cons (pv 3) (pa_cons (pv 4) pa_nil))))) pa_nil)))))))) pss_nil)
      (pss_cons (ps_if (PW.pt (pw_or (pt_cmpR op_isN (pv 1) pe_non (nomark _)) (pw_or1 (pt_val (pe_callB call_isiT rfl mi boot_isinstance (pa_cons (pv 1) (pa_cons (pe_tup (pa_cons (pe_bltn (v := .ty "bool") rfl mb boot_bool' rfl) (pa_cons (pe_bltn (v := .ty "str") rfl ms boot_str' rfl) pa_nil))) pa_nil)))))))
          (pss_one (ps_ret (pe_and (pe_cmpR op_eq (pe_callB call_isi rfl mi boot_isinstance (pa_cons (pv 0) (pa_cons (pe_bltn (v := .ty "bool") rfl mb boot_bool' rfl) pa_nil))) (pe_callB call_isi rfl mi boot_isinstance (pa_cons (pv 1) (pa_cons (pe_bltn (v := .ty "bool") rfl mb boot_bool' rfl) pa_nil))) (nomark _))
            (pe_and (pe_cmpR op_eq (pe_cmpR op_isN (pv 0) pe_non (nomark _)) (pe_cmpR op_isN (pv 1) pe_non (nomark _)) (nomark _)) (pe_one (pe_cmpR op_eq (pv 0) (pv 1) (nomark _))))))) pss_nil)
      (pss_one (ps_ret (pe_and (pe_callB call_isi rfl mi boot_isinstance (pa_cons (pv 0) (pa_cons (pe_bltn (v := .ty "int") rfl mn boot_int' rfl) pa_nil)))
        (pe_and (pe_not (pe_callB call_isi rfl mi boot_isinstance (pa_cons (pv 0) (pa_cons (pe_bltn (v := .ty "bool") rfl mb boot_bool' rfl) pa_nil)))) (pe_one (pe_cmpR op_eq (pv 0) (pv 1) (nomark _)))))))), ?_⟩
    refine ⟨_, rfl, (by show 2 ≤ sizeLine; decide), fun tp np => ?_⟩
    have s1 : Same H (upd H tp (.tup [.ty "list", .ty "tuple"])) := same_new np
    have hv1 := Dp.same s1 d hv
    have hu1 := Dp.same s1 d hu
    refine ⟨u, tp, _, tyD d, _, isSeq d, rfl, upd_same, .cons (.ty _) (.cons (.ty _) .nil), tyx_of hu1, seq_kit d (Dp.nodict hu), isSeq d, rfl, ?_⟩
    obtain ⟨kl, ekl⟩ := kit_list (K := K) d
    obtain ⟨kt, ekt⟩ := kit_tuple (K := K) d
    cases hsq : isSeq d with
    | true =>
      refine iteT ?_
      obtain ⟨a, xs, rfl, hs, hall⟩ := seq_of hv hsq
      obtain ⟨a2, xs2, rfl, hs2, hall2⟩ := seq_of hu hsq
      obtain ⟨hok, hlen⟩ := okD_items ok hsq
      have hx1 : xs.length = (itemsD d).length := DpAll.length hall
      have hx2 : xs2.length = (itemsD d).length := DpAll.length hall2
      -- the kinds are alike
      refine ⟨_, rfl, _, _, _, _, kl, rfl, .ty _, tyx_of hv1, ekl, _, rfl, _, _, _, _, kl, rfl, .ty _, tyx_of hu1, ekl, rfl, _, rfl, iteNS rfl ?_⟩
      refine ⟨_, rfl, _, _, _, _, kt, rfl, .ty _, tyx_of hv1, ekt, _, rfl, _, _, _, _, kt, rfl, .ty _, tyx_of hu1, ekt, rfl, _, rfl, iteNS rfl ?_⟩
      -- the pairs
      refine ⟨_, rfl, _, rfl, a, a2, xs, xs2, rfl, Same.sq2 s1 hs, Same.sq2 s1 hs2, fun L Ts H2 s2 nL eL hTl hT => ?_⟩
      have s12 := s1.trans s2
      refine ⟨_, rfl, a, xs, rfl, Same.sq2 s12 hs, _, rfl, a2, xs2, rfl, Same.sq2 s12 hs2, rfl, _, rfl, ?_⟩
      rw [decide_eq_true (show V.int ((xs.length : Nat) : Int) = V.int ((xs2.length : Nat) : Int) by rw [hx1, hx2])]
      have hn : (Ts.map V.ref).length = (itemsD d).length := by rw [List.length_map, hTl, hx1, hx2, Nat.min_self]
      refine iteT ⟨_, rfl, L, Ts.map V.ref, rfl, .inl (SqL.of eL), fun J wk => lc_map wk Same (fun a b => a.trans b) (fun i y F => y = .bl true) (fun i y A B s p => p) (by rw [hn]; exact small1000 hlen) (Same.refl _) (fun F D acc sF nF => ?_) (fun i x D acc F H' hi nD sF nF hy B hB => ?_) (fun D ys F nD sF nF hl hR => ?_)⟩
      · have sD : Same _ (upd F D (.lst acc)) := sF.trans (same_new nF)
        exact ⟨fun _ z => sD.seq z, fun z => Same.tup sD z⟩
      · obtain ⟨rfl, hx⟩ := hy
        have hx' : ∃ T, Ts[i]? = some T ∧ x = .ref T := by
          rw [List.getElem?_map] at hx
          cases e : Ts[i]? with
          | none => rw [e] at hx; cases hx
          | some T => rw [e] at hx; exact ⟨T, rfl, (Option.some.inj hx).symm⟩
        obtain ⟨T, hTi, rfl⟩ := hx'
        obtain ⟨x1, y1, e1, e2, eT⟩ := hT i T hTi
        obtain ⟨d1, ed1, p1⟩ := DpAll.get hall e1
        obtain ⟨d2, ed2, p2⟩ := DpAll.get hall2 e2
        rw [ed1] at ed2
        cases ed2
        refine ⟨T, [x1, y1], rfl, .inr (.inl (.inl (same_new nF _ _ (sF _ _ eT)))), rfl, x1, [y1], rfl, y1, [], rfl, rfl, ?_⟩
        refine hB _ F rfl nF fun Qt hq => ?_
        exact ⟨x1, rfl, y1, rfl, x1, y1, d1, rfl, Dp.same (s12.trans sF) _ p1, Dp.same (s12.trans sF) _ p2, hok _ (List.mem_of_getElem? ed1), fun H' s' => hq _ _ s' rfl⟩
      · refine ⟨D, List.replicate ys.length true, rfl, ?_, ?_⟩
        · rw [← eq_true_map ys hR]; exact SqL.of upd_same
        · rw [all_true]
          exact q _ (s12.trans (sF.trans (same_new nF)))
    | false =>
      refine iteF ?_
      have fin : ∀ H', Same H H' → Q (.bl true) H' := q
      cases d with
      | list ds => simp [isSeq] at hsq
      | tuple ds => simp [isSeq] at hsq
      | dict kvs => cases hv
      | none =>
        cases hv; cases hu
        refine ⟨_, rfl, rfl, _, rfl, iteT (iteT ?_)⟩
        refine ⟨_, rfl, _, _, _, _, _, rfl, .ty _, tyx_of hv1, kit_bool .none, _, rfl, _, _, _, _, _, rfl, .ty _, tyx_of hu1, kit_bool .none, rfl, _, rfl, iteT ?_⟩
        refine ⟨_, rfl, rfl, _, rfl, rfl, rfl, _, rfl, iteT ?_⟩
        refine ⟨_, rfl, _, rfl, rfl, ?_⟩
        exact fin _ s1
      | bool b0 =>
        cases hv; cases hu
        refine ⟨_, rfl, rfl, _, rfl, iteF ?_⟩
        refine ⟨_, rfl, (by show 2 ≤ sizeLine; decide), fun tq nq => ?_⟩
        have s2 : Same H (upd (upd H tp (.tup [.ty "list", .ty "tuple"])) tq (.tup [.ty "bool", .ty "str"])) := s1.trans (same_new nq)
        refine ⟨_, tq, _, _, _, _, rfl, upd_same, .cons (.ty _) (.cons (.ty _) .nil), tyx_of (Dp.bl b0), bs_kit (.bool b0), _, rfl, iteT ?_⟩
        refine ⟨_, rfl, _, _, _, _, _, rfl, .ty _, tyx_of (Dp.bl b0), kit_bool (.bool b0), _, rfl, _, _, _, _, _, rfl, .ty _, tyx_of (Dp.bl b0), kit_bool (.bool b0), rfl, _, rfl, iteT ?_⟩
        refine ⟨_, rfl, rfl, _, rfl, rfl, rfl, _, rfl, iteT ?_⟩
        refine ⟨_, rfl, _, rfl, rfl, ?_⟩
        have e : decide (V.bl b0 = V.bl b0) = true := decide_eq_true rfl
        have e2 := fin _ s2
        rw [← e] at e2
        exact e2
      | str x0 =>
        cases hv; cases hu
        refine ⟨_, rfl, rfl, _, rfl, iteF ?_⟩
        refine ⟨_, rfl, (by show 2 ≤ sizeLine; decide), fun tq nq => ?_⟩
        have s2 : Same H (upd (upd H tp (.tup [.ty "list", .ty "tuple"])) tq (.tup [.ty "bool", .ty "str"])) := s1.trans (same_new nq)
        refine ⟨_, tq, _, _, _, _, rfl, upd_same, .cons (.ty _) (.cons (.ty _) .nil), tyx_of (Dp.str x0), bs_kit (.str x0), _, rfl, iteT ?_⟩
        refine ⟨_, rfl, _, _, _, _, _, rfl, .ty _, tyx_of (Dp.str x0), kit_bool (.str x0), _, rfl, _, _, _, _, _, rfl, .ty _, tyx_of (Dp.str x0), kit_bool (.str x0), rfl, _, rfl, iteT ?_⟩
        refine ⟨_, rfl, rfl, _, rfl, rfl, rfl, _, rfl, iteT ?_⟩
        refine ⟨_, rfl, _, rfl, rfl, ?_⟩
        have e : decide (V.str x0 = V.str x0) = true := decide_eq_true rfl
        have e2 := fin _ s2
        rw [← e] at e2
        exact e2
      | int i0 =>
        cases hv; cases hu
        refine ⟨_, rfl, rfl, _, rfl, iteF ?_⟩
        refine ⟨_, rfl, (by show 2 ≤ sizeLine; decide), fun tq nq => ?_⟩
        have s2 : Same H (upd (upd H tp (.tup [.ty "list", .ty "tuple"])) tq (.tup [.ty "bool", .ty "str"])) := s1.trans (same_new nq)
        refine ⟨_, tq, _, _, _, _, rfl, upd_same, .cons (.ty _) (.cons (.ty _) .nil), tyx_of (Dp.int i0), bs_kit (.int i0), _, rfl, iteF ?_⟩
        refine ⟨_, rfl, _, _, _, _, _, rfl, .ty _, tyx_of (Dp.int i0), kit_int i0, _, rfl, iteT ?_⟩
        refine ⟨_, rfl, _, _, _, _, _, rfl, .ty _, tyx_of (Dp.int i0), kit_bool (.int i0), _, rfl, _, rfl, iteT ?_⟩
        refine ⟨_, rfl, _, rfl, rfl, ?_⟩
        have e : decide (V.int i0 = V.int i0) = true := decide_eq_true rfl
        have e2 := fin _ s2
        rw [← e] at e2
        exact e2
end
end XL
namespace XL
open PySem PySem.Spec PyProof.Rows L2
abbrev sCells : Stmt := topS 13
abbrev sBox : Stmt := topS 14
theorem boot_enumerate' : bootBuiltins "enumerate" = some (.type "enumerate") := by decide +kernel
theorem boot_abs' : bootBuiltins "abs" = some (.builtin "abs") := by decide +kernel
section
variable {P : Program} {w : World} {K : PySem.W.Frag} {mg : Str → Option Value} {base : Heap}
theorem cut_ints (ns : List Int) (lo hi : Option Int) : cutV (ns.map V.int) lo hi = ((ns.drop (HT.sIx ns.length 0 lo)).take (HT.sIx ns.length ns.length hi - HT.sIx ns.length 0 lo)).map V.int := by
  unfold cutV
  rw [List.length_map, List.map_take, List.map_drop]
theorem set_ints : ∀ (zs : List Int) (j : Nat) (v : Int), (zs.map V.int).set j (.int v) = (zs.set j v).map V.int
  | [], _, _ => rfl
  | z :: zs, 0, v => rfl
  | z :: zs, j + 1, v => by
    show .int z :: (zs.map V.int).set j (.int v) = .int z :: (zs.set j v).map V.int
    rw [set_ints zs j v]
/-! ### _law_cells -/
theorem scCells : FnScope ["_law_script", "_law_utmost", "_law_cells_here", "_law_k", "_law_cell"] ["_law_script", "_law_utmost"] (defScope sCells) := ⟨rfl, rfl, rfl, by decide +kernel, rfl, by decide +kernel, by decide +kernel⟩
def spCells (K : PySem.W.Frag) : Sp := fun vs H Q _ => ∃ (a : Addr) (ns : List Int) (m : Nat), vs = [.ref a, .int m] ∧ SqL K H a (ns.map V.int) ∧ ns.length ≤ 63 ∧ 1 ≤ m ∧ m ≤ 5 ∧
  ∀ (p : Addr) (zs : List Int) (H' : Hp), Same H H' → H p = none → H' p = some (.lst (zs.map V.int)) → 1 ≤ zs.length → zs.length ≤ m → Q (.ref p) H'
theorem ok_cells {f : Addr} {fd : FuncData} {k : Nat} (F : Fun K "_law_cells" "_law_cells" sCells f fd) (ml : mg "list" = none) (me : mg "enumerate" = none) : FnOk P w K mg base CX0 (k + 1) f fd ["_law_script", "_law_utmost"] (spCells K) := by
  refine F.ok scCells (fun vs H Q E h => ?_) (fun cdv A outer s H vs Q E hr h => ?_)
  · obtain ⟨a, ns, m, rfl, _⟩ := h
    rfl
  obtain ⟨a, ns, m, rfl, ha, hn, m1, m2, q⟩ := h
  have tail : ∃ t, PSs (cxOf CX0 P w K mg base ["_law_script", "_law_utmost", "_law_cells_here", "_law_k", "_law_cell"] "_law_cells" (defScope sCells) f cdv A outer s H E).nox ((defBody sCells).drop 1) t ∧
      ∀ (c : Addr) (zs : List Int) (H2 : Hp), Same H H2 → H c = none → H2 c = some (.lst (zs.map V.int)) → 1 ≤ zs.length → zs.length ≤ m → (m < ns.length → zs.length = m) →
        t { nx := fun _ H' => Q .non H', rt := Q } [some (.ref a), some (.int m), some (.ref c), none, none] H2 := by
    refine ⟨_, pss_cons (ps_for PassesOwn.never rfl (pi_enum (by rfl) me (pa_cons (pe_slice sl_list (pv 0) (po_some (pv 1)) (po_some pe_int)) pa_nil)) (pg_tup rfl (pgs_cons (pg_name (i := 3) scCells.nd rfl (.inl rfl)) (pgs_cons (pg_name (i := 4) scCells.nd rfl (.inl rfl)) pgs_nil)))
        (pss_one (ps_asg (pe_op op_add (pe_ix ix_list (pv 2) (pe_op op_modN (pv 3) (pv 1)) (fun _ _ => rfl)) (pe_op op_mul (pv 4) (pe_op op_add (pv 3) pe_int))) (pg_sub (pv 2) (pe_op op_modN (pv 3) (pv 1)) set_list))))
      (pss_one (ps_ret (pv 2))), fun c zs H2 s2 nc ec z1 z2 z3 => ?_⟩
    refine ⟨_, rfl, _, rfl, (m : Int), rfl, 63, rfl, a, _, rfl, s2.seq ha, fun p np => ?_⟩
    rw [cut_ints]
    generalize hes : ((ns.drop (HT.sIx ns.length 0 (some (m : Int)))).take (HT.sIx ns.length ns.length (some 63) - HT.sIx ns.length 0 (some (m : Int)))) = es
    have hel : 0 < es.length → m < ns.length := fun h => by
      rw [← hes, List.length_take, List.length_drop, HT.sIx_nat] at h
      omega
    have hel2 : es.length ≤ 63 := by
      rw [← hes, List.length_take, List.length_drop]
      omega
    have s3 : Same H (upd H2 p (.lst (es.map V.int))) := s2.trans (same_new np)
    have cp : c ≠ p := ne_of_none ec np
    refine ⟨p, es.map V.int, rfl, SqL.of upd_same, for_it (walk_enum (xs := es.map V.int)) (fun i σ H3 => ∃ (ws : List Int) (y3 y4 : Option V), σ = [some (.ref a), some (.int m), some (.ref c), y3, y4] ∧ Same H H3 ∧ H3 p = some (.lst (es.map V.int)) ∧ H3 c = some (.lst (ws.map V.int)) ∧ ws.length = zs.length)
      ⟨zs, none, none, rfl, s3, upd_same, by rw [upd_ne cp]; exact ec, rfl⟩ (fun i σ H3 _ h => ?_) (fun i x σ H3 H4 hi h hy => ?_) (fun σ H3 h => ?_)⟩
    · obtain ⟨_, _, _, _, _, e, _⟩ := h
      exact SqL.of e
    · obtain ⟨ws, y3, y4, rfl, sm, ep, ew, wl⟩ := h
      obtain ⟨T, x1, x2, rfl, nT, rfl, e1, e2⟩ := hy
      have hi' : i < es.length := by rw [List.length_map] at hi; exact hi
      have e1' : x1 = .int (i : Nat) := (Option.some.inj e1).symm
      have e2' : x2 = .int es[i] := by
        have e3 : (es.map V.int)[i]? = some x2 := e2
        rw [List.getElem?_map, List.getElem?_eq_getElem hi'] at e3
        exact (Option.some.inj e3).symm
      subst e1' e2'
      have sT : Same H3 (upd H3 T (.tup [.int (i : Nat), .int es[i]])) := same_new nT
      have wm : ws.length = m := by rw [wl]; exact z3 (hel (by omega))
      have fm := fmod_lt (a := (i : Int)) (n := (m : Int)) (by omega)
      have hj : ((i : Int).fmod (m : Int)).toNat < ws.length := by omega
      refine ⟨T, _, rfl, .inl (.inl upd_same), rfl, _, _, rfl, _, _, rfl, rfl, ?_⟩
      have ewT := sT _ _ ew
      have aw : atI (ws.map V.int) ((i : Int).fmod (m : Int)) = some (.int ws[((i : Int).fmod (m : Int)).toNat]) := atI_int fm.1 (by rw [List.getElem?_map, List.getElem?_eq_getElem hj]; rfl)
      refine ⟨_, rfl, _, rfl, _, rfl, _, _, rfl, rfl, by omega, c, _, _, _, rfl, rfl, SqL.of ewT, aw, _, rfl, _, rfl, _, _, rfl, rfl, _, _, rfl, rfl, .inr ⟨by omega, by omega⟩, _, _, rfl, rfl, ?_⟩
      refine ⟨_, rfl, _, rfl, _, rfl, _, _, rfl, rfl, by omega, c, _, _, ((i : Int).fmod (m : Int)).toNat, rfl, rfl, ewT, ?_, ?_⟩
      · unfold ixN
        rw [if_pos fm.1, if_pos (by rw [List.length_map]; omega)]
      · refine ⟨_, _, _, rfl, fun b o e => ?_, ?_, by rw [set_ints, upd_same], by rw [List.length_set]; exact wl⟩
        · rw [upd_ne (ne_of_none e nc)]; exact sT _ _ (sm _ _ e)
        · rw [upd_ne cp.symm]; exact sT _ _ ep
    · obtain ⟨ws, y3, y4, rfl, sm, ep, ew, wl⟩ := h
      exact ⟨_, rfl, q c ws H3 sm nc ew (by omega) (by omega)⟩
  obtain ⟨t, ht, hgo⟩ := tail
  refine ⟨_, pss_cons (ps_set (i := 2) scCells.nd rfl (.inl rfl) (pe_orT (pe_callTy call_list_of rfl ml boot_list (pa_cons (pe_slice sl_list (pv 0) po_none (po_some (pv 1))) pa_nil)) (pe_one (pe_lst (pa_cons pe_int pa_nil))))) ht, ?_⟩
  -- list(script[:utmost])
  refine ⟨_, rfl, _, rfl, (m : Int), rfl, a, _, rfl, ha, fun p np => ?_⟩
  have s1 : Same H (upd H p (.lst (cutV (ns.map V.int) none (some (m : Int))))) := same_new np
  refine ⟨p, _, rfl, .inl (SqL.of upd_same), fun c nc => ?_⟩
  have e0 : cutV (ns.map V.int) none (some (m : Int)) = (ns.take m).map V.int := by
    rw [cut_ints, HT.sIx_none, HT.sIx_nat, List.drop_zero, Nat.sub_zero]
    congr 1
    rcases Nat.le_total m ns.length with h | h
    · rw [Nat.min_eq_left h]
    · rw [Nat.min_eq_right h, List.take_of_length_le (Nat.le_refl _), List.take_of_length_le h]
  rw [e0] at nc s1 ⊢
  have s2 := s1.trans (same_new nc (o := .lst ((ns.take m).map V.int)))
  refine ⟨!((ns.take m).map V.int).isEmpty, .inl ⟨_, SqL.of upd_same, rfl⟩, ?_⟩
  cases hns : ns with
  | nil =>
    have em : ((([] : List Int).take m).map V.int) = [] := by rw [List.take_nil]; rfl
    rw [em]
    refine iteF ⟨(by show 1 ≤ sizeLine; decide), fun c2 nc2 => ?_⟩
    subst hns
    rw [em] at s2
    exact hgo c2 [0] _ (s2.trans (same_new nc2)) (s2.free nc2) upd_same (Nat.le_refl _) m1 (fun h => by simp at h)
  | cons n0 r =>
    obtain ⟨m', rfl⟩ : ∃ m', m = m' + 1 := ⟨m - 1, by omega⟩
    rw [← hns]
    have e1 : (ns.take (m' + 1)).map V.int ≠ [] := by rw [hns]; simp
    have e2 : (!((ns.take (m' + 1)).map V.int).isEmpty) = true := by
      cases h : (ns.take (m' + 1)).map V.int with
      | nil => exact absurd h e1
      | cons _ _ => rfl
    rw [e2]
    have hl : (ns.take (m' + 1)).length = min (m' + 1) ns.length := List.length_take
    have hn1 : 1 ≤ ns.length := by rw [hns]; simp
    exact iteT (hgo c (ns.take (m' + 1)) _ s2 (s1.free nc) upd_same (by omega) (by omega) (fun h => by omega))
/-! ### _law_box -/
theorem b01 (b : Bool) : -2 ^ 64 < (if b = true then (1 : Int) else 0) ∧ (if b = true then (1 : Int) else 0) < 2 ^ 64 := by cases b <;> decide
theorem scBox : FnScope ["_law_cells_here", "_law_k", "_law_cell"] ["_law_cells_here", "_law_k"] (defScope sBox) := ⟨rfl, rfl, rfl, by decide +kernel, rfl, by decide +kernel, by decide +kernel⟩
def spBox (K : PySem.W.Frag) : Sp := fun vs H Q _ => ∃ (a : Addr) (zs : List Int) (k : Nat), vs = [.ref a, .int k] ∧ SqL K H a (zs.map V.int) ∧ k < zs.length ∧
  ∀ (b : Addr) (x y : Int), H b = none → Q (.ref b) (upd H b (.lst [.int x, .int y, .int 0]))
theorem ok_box {f : Addr} {fd : FuncData} {k : Nat} (F : Fun K "_law_box" "_law_box" sBox f fd) (ma : mg "abs" = none) (mi : mg "int" = none) : FnOk P w K mg base CX0 (k + 1) f fd ["_law_cells_here", "_law_k"] (spBox K) := by
  refine F.ok scBox (fun vs H Q E h => ?_) (fun cdv A outer s H vs Q E hr h => ?_)
  · obtain ⟨a, zs, k, rfl, _⟩ := h
    rfl
  obtain ⟨a, zs, k, rfl, ha, hk, q⟩ := h
  refine ⟨_, pss_cons (ps_set (i := 2) scBox.nd rfl (.inl rfl) (pe_ix ix_list (pv 0) (pv 1) (fun _ _ => rfl)))
    (pss_one (ps_ret (pe_lst (pa_cons (pe_op op_mul (pe_callB call_abs rfl ma boot_abs' (pa_cons (pv 2) pa_nil)) (pe_callTy call_int1 rfl mi boot_int' (pa_cons (pe_cmpR op_ge (pe_callB call_abs rfl ma boot_abs' (pa_cons (pv 2) pa_nil)) (pe_op op_pow pe_int pe_int) (nomark _)) pa_nil)))
      (pa_cons (pe_op op_add (pe_op op_add (pe_op op_modN (pv 2) pe_int) (pe_op op_mul pe_int (pv 1))) pe_int) (pa_cons pe_int pa_nil)))))), ?_⟩
  have hx : atI (zs.map V.int) ((k : Nat) : Int) = some (.int zs[k]) := atI_nat (by rw [List.getElem?_map, List.getElem?_eq_getElem hk]; rfl)
  refine ⟨_, rfl, _, rfl, a, _, _, _, rfl, rfl, ha, hx, ?_⟩
  refine ⟨_, rfl, _, rfl, _, rfl, _, rfl, _, _, rfl, rfl, ⟨by decide, by decide, by decide⟩, _, _, rfl, rfl, .inr ⟨_, rfl, _, _, rfl, rfl, .inr ?_, ?_⟩⟩
  · exact b01 _
  · refine ⟨_, rfl, _, _, rfl, rfl, (by show (2305843009213693951 : Int) ≠ 0; decide), _, rfl, _, _, rfl, rfl, .inl ⟨by decide, by decide⟩, _, _, rfl, rfl, _, _, rfl, rfl, (by show 3 ≤ sizeLine; decide), fun b nb => ?_⟩
    exact q b _ _ nb
end
end XL
namespace XL
open PySem PySem.Spec PyProof.Rows L2
abbrev sCanal : Stmt := topS 9
theorem boot_range' : bootBuiltins "range" = some (.type "range") := by decide +kernel
section
variable {P : Program} {w : World} {K : PySem.W.Frag} {mg : Str → Option Value} {base : Heap}
theorem Dr.tp {b : Addr} {H H' : Hp} (h : Bx H b) (d : Dr b H H') : Tp H H' := by
  obtain ⟨x, y, z, e⟩ := h
  exact ⟨fun a xs q => d.same a _ (fun c => by rw [c, e] at q; cases q) q, fun a o xs q => d.same a _ (fun c => by rw [c, e] at q; cases q) q⟩
theorem Bx.ne {b p : Addr} {H : Hp} (h : Bx H b) (n : H p = none) : p ≠ b := fun e => by
  obtain ⟨x, y, z, q⟩ := h
  rw [e, q] at n; cases n
/-- a step besides the box: a new object, or one of ours written -/
theorem Dr.wr {b p : Addr} {H : Hp} {o : HO} (h : Bx H b) (n : p ≠ b) (hs : H p = none) : Dr b H (upd H p o) := Dr.new h hs
abbrev nCanal : List Str := ["_law_box_here", "_law_wide", "_law_utmost", "_law_sizes", "_law_kind", "_law_gates", "_law_k", "_law_ends", "_law_tide", "_law_size"]
theorem scCanal : FnScope nCanal ["_law_box_here", "_law_wide", "_law_utmost"] (defScope sCanal) := ⟨rfl, rfl, rfl, by decide +kernel, rfl, by decide +kernel, by decide +kernel⟩
def spCanal (K : PySem.W.Frag) : Sp := fun vs H Q _ => ∃ (b : Addr) (wide utmost : Nat), vs = [.ref b, .int wide, .int utmost] ∧ Bx H b ∧ 1 ≤ wide ∧ wide ≤ 100 ∧ utmost ≤ 100 ∧
  ∀ (c : Cn) (v : V) (H' : Hp), okCn wide utmost c → Dr b H H' → Dp K H' v (cnD c) → Q v H'
/-- the four ends of a gate -/
def endsV (l : Lk) : List V := [.int l.1, .int l.2.1, .int l.2.2.1, .int l.2.2.2]
theorem dp_lk {H : Hp} {a : Addr} {l : Lk} (h : SqT K H a (endsV l)) : Dp K H (.ref a) (lkD l) := .tup h (.cons (.int _) (.cons (.int _) (.cons (.int _) (.cons (.int _) .nil))))
/-- between two turns: b the box, z the sizes, g the gates -/
structure Gt (K : PySem.W.Frag) (b z g : Addr) (s0 s1 : Int) (n : Nat) (H0 H : Hp) (vs : List V) (ls : List Lk) : Prop where
  box : Bx H b
  old : ∀ a o, a ≠ b → H0 a = some o → H a = some o
  ez : H z = some (.lst [.int s0, .int s1])
  eg : H g = some (.lst vs)
  dp : DpAll K H vs (ls.map lkD)
  len : ls.length = n
  ok : ∀ l ∈ ls, okLk s0 s1 l
theorem Gt.draw {b z g : Addr} {s0 s1 : Int} {n : Nat} {H0 H H' : Hp} {vs : List V} {ls : List Lk} (q : Gt K b z g s0 s1 n H0 H vs ls) (hz : z ≠ b) (hg : g ≠ b) (d : Dr b H H') : Gt K b z g s0 s1 n H0 H' vs ls :=
  ⟨d.box, fun a o na e => d.same a o na (q.old a o na e), d.same _ _ hz q.ez, d.same _ _ hg q.eg, DpAll.tp (d.tp q.box) _ (noLs_lk ls) q.dp, q.len, q.ok⟩
theorem Gt.new {b z g p : Addr} {s0 s1 : Int} {n : Nat} {H0 H : Hp} {vs : List V} {ls : List Lk} {o : HO} (q : Gt K b z g s0 s1 n H0 H vs ls) (hz : z ≠ b) (hg : g ≠ b) (np : H p = none) : Gt K b z g s0 s1 n H0 (upd H p o) vs ls := q.draw hz hg (Dr.new q.box np)
def fbody : Stmt → List Stmt
  | .For _ _ b _ _ => b
  | _ => []
abbrev slC (b : Addr) (wide utmost : Nat) (z : Addr) (kind : Int) (g : Addr) (y6 y7 y8 y9 : Option V) : L2.St := [some (.ref b), some (.int wide), some (.int utmost), some (.ref z), some (.int kind), some (.ref g), y6, y7, y8, y9]
theorem ok_canal {f ft fo : Addr} {fd fdt fdo : FuncData} {k : Nat} (F : Fun K "_law_canal" "_law_canal" sCanal f fd) (FT : Fun K "_law_take" "_law_take" sTake ft fdt) (bT : Binds K fdt ["_law_box_here", "_law_size"] []) (gT : mg "_law_take" = some (.ref ft))
    (FO : Fun K "_law_of" "_law_of" sOf fo fdo) (bO : Binds K fdo ["_law_box_here", "_law_some"] []) (gO : mg "_law_of" = some (.ref fo)) (me : mg "len" = none) (ml : mg "list" = none) (mt : mg "tuple" = none) (mr : mg "range" = none) :
    FnOk P w K mg base CX0 (k + 1 + 1 + 1) f fd ["_law_box_here", "_law_wide", "_law_utmost"] (spCanal K) := by
  have GT : FnOk P w K mg base CX0 (k + 1) ft fdt ["_law_box_here", "_law_size"] spTake := ok_take FT
  have GO : FnOk P w K mg base CX0 (k + 1 + 1) fo fdo ["_law_box_here", "_law_some"] (spOf K) := ok_of FO FT bT gT me
  refine F.ok scCanal (fun vs H Q E h => ?_) (fun cdv A outer s H vs Q E hr h => ?_)
  · obtain ⟨b, wide, utmost, rfl, _⟩ := h
    rfl
  obtain ⟨b, wide, utmost, rfl, hb, w1, w2, u2, q⟩ := h
  have hr1 : Room (k + 1) _ := hr.mono (Nat.le_succ _)
  -- one turn behind the choice of the ends
  have tail : ∃ t, PSs (cxOf CX0 P w K mg base nCanal "_law_canal" (defScope sCanal) f cdv A outer s H E).nox ((fbody ((defBody sCanal).getD 2 (.Pass ⟨0, 0, 0, 0⟩))).drop 1) t ∧
      ∀ (D : Ends) (z g e : Addr) (kind s0 s1 : Int) (i : Nat) (y6 y8 y9 : Option V) (l : Lk) (vs : List V) (ls : List Lk) (H3 : Hp), z ≠ b → g ≠ b → z ≠ g → e ≠ g → H z = none → H g = none → Gt K b z g s0 s1 i H H3 vs ls → i ≤ 200 → H3 e = some (.lst (endsV l)) → okLk s0 s1 l →
        (∀ vs' H4, Gt K b z g s0 s1 (i + 1) H H4 vs' (ls ++ [l]) → D.nx (slC b wide utmost z kind g y6 (some (.ref e)) y8 y9) H4) → t D (slC b wide utmost z kind g y6 (some (.ref e)) y8 y9) H3 := by
    refine ⟨_, pss_one (ps_expr (pe_bm PySem.F.plainAttrs_list PySem.F.slot_list_append PySem.F.type_list_append mt_append (pv 5) (pa_cons (pe_callTy call_tuple_of rfl mt boot_tuple (pa_cons (pv 7) pa_nil)) pa_nil))), ?_⟩
    intro D z g e kind s0 s1 i y6 y8 y9 l vs ls H3 hzb hgb hzg heg nz ng hG hi he hl hnx
    refine ⟨_, rfl, .inl ⟨rfl, _, SqL.of hG.eg⟩, _, rfl, e, _, rfl, .inl ⟨SqL.of he, fun t nt => ?_⟩⟩
    have G1 := hG.new hzb hgb (o := .tup (endsV l)) nt
    have lv : vs.length = i := by rw [DpAll.length hG.dp, List.length_map, hG.len]
    refine ⟨g, _, _, rfl, rfl, G1.eg, ?_, hnx _ _ ⟨?_, ?_, ?_, upd_same, ?_, ?_, ?_⟩⟩
    · rw [lv]; exact small1000 (by omega)
    · obtain ⟨x, y, w, e⟩ := G1.box
      exact ⟨x, y, w, by rw [upd_ne (fun q => hgb q.symm)]; exact e⟩
    · intro a o na e
      rw [upd_ne (ne_of_none e ng)]; exact G1.old a o na e
    · rw [upd_ne hzg]; exact G1.ez
    · rw [List.map_append]
      have tp : Tp _ (upd (upd H3 t (.tup (endsV l))) g (.lst (vs ++ [.ref t]))) := Tp.upd G1.eg
      exact DpAll.app (DpAll.tp tp _ (noLs_lk ls) G1.dp) (.cons (dp_lk (.inl (.inl (tp.t _ _ upd_same)))) .nil)
    · rw [List.length_append, hG.len]; rfl
    · intro l' h
      rcases List.mem_append.mp h with h | h
      · exact hG.ok l' h
      · rw [List.mem_singleton.mp h]; exact hl
  obtain ⟨t, ht, hgo⟩ := tail
  refine ⟨_, pss_cons (ps_par rfl scCanal.nd (i := 3) (j := 4) rfl rfl (by decide) rfl rfl
      (pa_cons (pe_lc (own := [("_law_tide", 8)]) (g := gName 8) (tt := tYes) rfl scCanal.nd (pi_range1 rfl mr (pa_cons pe_int pa_nil)) (blkOk_by (own := [("_law_tide", 8)]) (N := nCanal) (sc := defScope sCanal) (by decide +kernel))
          (fun _ _ _ _ _ => pg_name (i := 8) scCanal.nd rfl (Or.inl rfl)) (fun _ _ _ _ _ => pts_nil) (fun _ _ _ _ _ => pe_hide (pe_op op_add pe_int (pe_call GT hr1 rfl gT FT.kp bT .nil pass0 (pa_cons (pv 0) (pa_cons (pv 1) pa_nil))))))
        (pa_cons (pe_call GT hr1 rfl gT FT.kp bT .nil pass0 (pa_cons (pv 0) (pa_cons pe_int pa_nil))) pa_nil)) rfl)
    (pss_cons (ps_set (i := 5) scCanal.nd rfl (.inl rfl) (pe_lst pa_nil))
    (pss_cons (ps_for PassesOwn.never rfl (pi_range1 rfl mr (pa_cons (pe_call GT hr1 rfl gT FT.kp bT .nil pass0 (pa_cons (pv 0) (pa_cons (pe_op op_add (pv 2) pe_int) pa_nil))) pa_nil)) (pg_name (i := 6) scCanal.nd rfl (.inl rfl))
      (pss_cons (ps_if (PW.pt (pw_and (pt_cmpR op_eq (pv 4) pe_int (nomark _)) (pw_and1 (pt_cmpR (op_neD hr.units) (pv 5) (pe_lst pa_nil) (nomark _)))))
          (pss_one (ps_set (i := 7) scCanal.nd rfl (.inl rfl) (pe_op op_cat (pe_slice sl_list (pe_callTy call_list_of rfl ml boot_list (pa_cons (pe_ix ix_list (pv 5) (pe_un un_neg pe_int) (fun _ _ => rfl)) pa_nil)) po_none (po_some pe_int))
            (pe_lst (pa_cons (pe_call GT hr1 rfl gT FT.kp bT .nil pass0 (pa_cons (pv 0) (pa_cons (pe_ix ix_list (pv 3) pe_int (fun _ _ => rfl)) pa_nil))) (pa_cons (pe_call GT hr1 rfl gT FT.kp bT .nil pass0 (pa_cons (pv 0) (pa_cons (pe_ix ix_list (pv 3) pe_int (fun _ _ => rfl)) pa_nil))) pa_nil))))))
          (pss_one (ps_if (pt_cmpR op_eq (pv 4) pe_int (nomark _))
            (pss_one (ps_set (i := 7) scCanal.nd rfl (.inl rfl) (pe_lst (pa_cons (pe_op op_modN (pv 6) (pe_ix ix_list (pv 3) pe_int (fun _ _ => rfl))) (pa_cons (pe_op op_modN (pe_op op_add (pv 6) pe_int) (pe_ix ix_list (pv 3) pe_int (fun _ _ => rfl)))
              (pa_cons (pe_call GT hr1 rfl gT FT.kp bT .nil pass0 (pa_cons (pv 0) (pa_cons (pe_ix ix_list (pv 3) pe_int (fun _ _ => rfl)) pa_nil))) (pa_cons (pe_call GT hr1 rfl gT FT.kp bT .nil pass0 (pa_cons (pv 0) (pa_cons (pe_ix ix_list (pv 3) pe_int (fun _ _ => rfl)) pa_nil))) pa_nil)))))))
            (pss_one (ps_if (PW.pt (pw_and (pt_cmpR op_eq (pv 4) pe_int (nomark _)) (pw_and1 (pt_cmpR (op_neD hr.units) (pv 5) (pe_lst pa_nil) (nomark _)))))
              (pss_cons (ps_set (i := 7) scCanal.nd rfl (.inl rfl) (pe_callTy call_list_of rfl ml boot_list (pa_cons (pe_call GO hr rfl gO FO.kp bO .nil pass0 (pa_cons (pv 0) (pa_cons (pv 5) pa_nil))) pa_nil)))
                (pss_one (ps_asg pe_int (pg_sub (pv 7) (pe_call GT hr1 rfl gT FT.kp bT .nil pass0 (pa_cons (pv 0) (pa_cons pe_int pa_nil))) set_list))))
              (pss_one (ps_setLc (i := 7) (own := [("_law_size", 9)]) (g := gName 9) (tt := tYes) rfl scCanal.nd rfl rfl (sw_true rfl rfl rfl (by decide +kernel)) (pi_seq (pe_tup (pa_cons (pe_ix ix_list (pv 3) pe_int (fun _ _ => rfl)) (pa_cons (pe_ix ix_list (pv 3) pe_int (fun _ _ => rfl)) (pa_cons (pe_ix ix_list (pv 3) pe_int (fun _ _ => rfl)) (pa_cons (pe_ix ix_list (pv 3) pe_int (fun _ _ => rfl)) pa_nil))))))
                (blkOk_by (own := [("_law_size", 9)]) (N := nCanal) (sc := defScope sCanal) (by decide +kernel)) (fun _ _ _ _ _ => pg_name (i := 9) scCanal.nd rfl (Or.inl rfl)) (fun _ _ _ _ _ => pts_nil)
                (fun _ _ _ _ _ => pe_hide (pe_call GT hr1 rfl gT FT.kp bT .nil pass0 (pa_cons (pv 0) (pa_cons (pv 9) pa_nil)))))))))))
        ht))
    (pss_one (ps_ret (pe_tup (pa_cons (pe_ix ix_list (pv 3) pe_int (fun _ _ => rfl)) (pa_cons (pe_ix ix_list (pv 3) pe_int (fun _ _ => rfl)) (pa_cons (pe_callTy call_tuple_of rfl mt boot_tuple (pa_cons (pv 5) pa_nil)) pa_nil)))))))), ?_⟩
  refine ⟨2, rfl, by decide, by decide, lc_map walk_range (Dr b) (fun a b => a.trans b) (fun i y F => ∃ x : Int, y = .int x ∧ 1 ≤ x ∧ x ≤ wide) (fun i y A B _ p => p) (by decide) (Dr.refl hb) (fun _ _ _ _ _ => trivial) (fun i x D acc F H' hi nD dF nF hy B hB => ?_) (fun z ys F nz dF nF hl hR => ?_)⟩
  · obtain ⟨rfl, rfl⟩ := hy
    refine hB _ F rfl nF fun Qt hq => ?_
    refine ⟨_, rfl, _, rfl, b, _, rfl, dF.box, by omega, by omega, fun v F' v0 v1 d => ⟨_, _, rfl, rfl, hq _ _ d ⟨_, rfl, by omega, by omega⟩⟩⟩
  have hys : ∃ s0 s1 : Int, ys = [.int s0, .int s1] ∧ 1 ≤ s0 ∧ s0 ≤ wide ∧ 1 ≤ s1 ∧ s1 ≤ wide := by
    match ys, hl with
    | [y0, y1], _ =>
      obtain ⟨s0, rfl, a1, a2⟩ := hR 0 y0 rfl
      obtain ⟨s1, rfl, c1, c2⟩ := hR 1 y1 rfl
      exact ⟨s0, s1, rfl, a1, a2, c1, c2⟩
  obtain ⟨s0, s1, rfl, a1, a2, c1, c2⟩ := hys
  have hzb : z ≠ b := hb.ne nz
  have d1 : Dr b H (upd F z (.lst [.int s0, .int s1])) := dF.trans (Dr.new dF.box nF)
  refine ⟨_, rfl, b, 5, rfl, d1.box, by decide, by decide, fun kind H2 k0 k1 d2 => ?_⟩
  refine ⟨_, _, rfl, ?_⟩
  -- gates = []
  refine ⟨(by show 0 ≤ sizeLine; decide), fun g ng => ?_⟩
  have d12 := d1.trans d2
  have ez2 : H2 z = some (.lst [.int s0, .int s1]) := d2.same z _ hzb upd_same
  have hgb : g ≠ b := d2.box.ne ng
  have hzg : z ≠ g := ne_of_none ez2 ng
  have ngH : H g = none := by
    cases e : H g with
    | none => rfl
    | some o => rw [d12.same g o hgb e] at ng; cases ng
  have d3 : Dr b H (upd H2 g (.lst [])) := d12.trans (Dr.new d2.box ng)
  -- the number of gates
  refine ⟨_, rfl, _, rfl, _, _, rfl, rfl, b, _, rfl, d3.box, by omega, by omega, fun n H3 n0 n1 d4 => ?_⟩
  have d34 := d3.trans d4
  have G0 : Gt K b z g s0 s1 0 H H3 [] [] := ⟨d34.box, fun a o na e => d34.same a o na e, d4.same z _ hzb (by rw [upd_ne hzg]; exact ez2), d4.same g _ hgb upd_same, .nil, rfl, fun l h => by simp at h⟩
  refine ⟨n, rfl, by omega, by omega, for_it walk_range (fun i σ H4 => ∃ y6 y7 y8 y9 vs ls, σ = slC b wide utmost z kind g y6 y7 y8 y9 ∧ Gt K b z g s0 s1 i H H4 vs ls) ⟨none, none, none, none, [], [], rfl, G0⟩ (fun _ _ _ _ _ => trivial) (fun i x σ H4 H5 hi h hy => ?_) (fun σ H4 h => ?_)⟩
  · obtain ⟨y6, y7, y8, y9, vs, ls, rfl, hG⟩ := h
    obtain ⟨rfl, rfl⟩ := hy
    have hi2 : i ≤ 200 := by omega
    -- what is left, by the ends that were chosen
    have fin : ∀ (D : Ends) (e : Addr) (l : Lk) (y8 y9 : Option V) (H6 : Hp) (vs : List V) (ls : List Lk), D.nx = (fun σ H4 => ∃ y6 y7 y8 y9 vs ls, σ = slC b wide utmost z kind g y6 y7 y8 y9 ∧ Gt K b z g s0 s1 (i + 1) H H4 vs ls) →
        Gt K b z g s0 s1 i H H6 vs ls → e ≠ g → H6 e = some (.lst (endsV l)) → okLk s0 s1 l → t D (slC b wide utmost z kind g (some (.int (0 + i))) (some (.ref e)) y8 y9) H6 := by
      intro D e l y8 y9 H6 vs ls hD hG heg he hl
      refine hgo D z g e kind s0 s1 i _ y8 y9 l vs ls H6 hzb hgb hzg heg nz ngH hG hi2 he hl fun vs' H7 hG7 => ?_
      rw [hD]
      exact ⟨_, _, _, _, vs', _, rfl, hG7⟩
    -- two draws by the blues' size
    have draw1 : ∀ (H6 : Hp) (vs : List V) (ls : List Lk) (Q' : V → Hp → Prop), Gt K b z g s0 s1 i H H6 vs ls → (∀ (x : Int) (H7 : Hp), 0 ≤ x → x < s1 → Gt K b z g s0 s1 i H H7 vs ls → Dr b H6 H7 → Q' (.int x) H7) →
        spTake ([.ref b, .int s1] ++ []) H6 Q' E0 := by
      intro H6 vs ls Q' hG h
      exact ⟨b, s1, rfl, hG.box, by omega, by omega, fun v H7 v0 v1 d => h v H7 v0 v1 (hG.draw hzb hgb d) d⟩
    -- kind == 1 and gates != []
    have neq : ∀ (H6 : Hp) (vs : List V) (ls : List Lk) (p : Addr) (Q' : Bool → Hp → Prop), Gt K b z g s0 s1 i H H6 vs ls → H6 p = none → (∀ H7, Gt K b z g s0 s1 i H H7 vs ls → Q' (!ls.isEmpty) H7) →
        rNeD K (.ref g) (.ref p) (upd H6 p (.lst [])) (fun v H7 => ∃ k, v = .bl k ∧ Q' k H7) := by
      intro H6 vs ls p Q' hG np h
      have G7 := hG.new hzb hgb (o := .lst []) np
      refine ⟨.list (ls.map lkD), .list [], .lst (SqL.of G7.eg) G7.dp, .lst (SqL.of upd_same) .nil, lks_shaped ls, nil_shaped, _, rfl, ?_⟩
      rw [eqv_nil]
      exact h _ G7
    have fst : ∀ {xs : List V} {l : Lk} {a : Addr} {H6 : Hp}, Dp K H6 (.ref a) (lkD l) → SqT K H6 a (endsV l) := by
      intro xs l a H6 h
      cases h with
      | tup hs ha =>
        cases ha with
        | cons p1 ha => cases p1; cases ha with
          | cons p2 ha => cases p2; cases ha with
            | cons p3 ha => cases p3; cases ha with
              | cons p4 ha => cases p4; cases ha; exact hs
    have lkref : ∀ {v : V} {l : Lk} {H6 : Hp}, Dp K H6 v (lkD l) → ∃ a, v = .ref a ∧ SqT K H6 a (endsV l) := by
      intro v l H6 h
      have h' := h
      cases h with
      | tup hs ha => exact ⟨_, rfl, fst (xs := []) h'⟩
    refine ⟨_, rfl, rfl, _, rfl, ?_⟩
    by_cases hk1 : kind = 1
    · subst hk1
      refine iteT ⟨_, rfl, (by show 0 ≤ sizeLine; decide), fun p np => neq _ vs ls p _ hG np fun H6 G6 => ?_⟩
      cases ls with
      | nil =>
        refine iteF ⟨_, rfl, rfl, _, rfl, iteF ⟨_, rfl, rfl, _, rfl, iteF ?_⟩⟩
        refine ⟨_, rfl, z, _, _, _, rfl, rfl, SqL.of G6.ez, rfl, _, rfl, z, _, _, _, rfl, rfl, SqL.of G6.ez, rfl, _, rfl, z, _, _, _, rfl, rfl, SqL.of G6.ez, rfl, _, rfl, z, _, _, _, rfl, rfl, SqL.of G6.ez, rfl, (by show 4 ≤ sizeLine; decide), fun p np => ?_⟩
        have G8 := G6.new hzb hgb (o := .tup [.int s0, .int s0, .int s1, .int s1]) np
        have hpb : p ≠ b := G6.box.ne np
        refine ⟨p, [.int s0, .int s0, .int s1, .int s1], rfl, .inr (.inl (.inl upd_same)), fun J wk => lc_map wk (Dr b) (fun a b => a.trans b) (fun j y F => ∃ x : Int, y = .int x ∧ 0 ≤ x ∧ ∀ sz : Int, [s0, s0, s1, s1][j]? = some sz → x < sz) (fun j y A B _ p => p) (by show 4 < sizeLine; decide) (Dr.refl G8.box) (fun F D acc dF nF => ?_) (fun j x D acc F H' hj nD dF nF hy B hB => ?_) (fun D ys F nD dF nF hl hR => ?_)⟩
        · exact ⟨fun _ h => (same_new nF).seq (dF.sqL hpb h), fun h => Same.tup (same_new nF) (dF.sqT hpb h)⟩
        · obtain ⟨rfl, hx⟩ := hy
          have hx' : ∃ sz : Int, x = .int sz ∧ [s0, s0, s1, s1][j]? = some sz ∧ 1 ≤ sz ∧ sz ≤ wide := by
            match j, hj, hx with
            | 0, _, hx => exact ⟨s0, (Option.some.inj hx).symm, rfl, a1, a2⟩
            | 1, _, hx => exact ⟨s0, (Option.some.inj hx).symm, rfl, a1, a2⟩
            | 2, _, hx => exact ⟨s1, (Option.some.inj hx).symm, rfl, c1, c2⟩
            | 3, _, hx => exact ⟨s1, (Option.some.inj hx).symm, rfl, c1, c2⟩
          obtain ⟨sz, rfl, hsz, z1, z2⟩ := hx'
          refine hB _ F rfl nF fun Qt hq => ?_
          exact ⟨_, rfl, _, rfl, b, sz, rfl, dF.box, by omega, by omega, fun v F' v0 v1 d => hq _ _ d ⟨v, rfl, v0, fun sz' e => by rw [hsz] at e; cases e; exact v1⟩⟩
        · have hys : ∃ l : Lk, ys = endsV l ∧ okLk s0 s1 l := by
            match ys, hl with
            | [y0, y1, y2, y3], _ =>
              obtain ⟨x0, rfl, p0, q0⟩ := hR 0 _ rfl
              obtain ⟨x1, rfl, p1, q1⟩ := hR 1 _ rfl
              obtain ⟨x2, rfl, p2, q2⟩ := hR 2 _ rfl
              obtain ⟨x3, rfl, p3, q3⟩ := hR 3 _ rfl
              exact ⟨(x0, x1, x2, x3), rfl, ⟨p0, q0 _ rfl, p1, q1 _ rfl, p2, q2 _ rfl, p3, q3 _ rfl⟩⟩
          obtain ⟨l, rfl, okl⟩ := hys
          have G9 := (G8.draw hzb hgb dF).new hzb hgb (o := .lst (endsV l)) nF
          exact fin _ D l _ _ _ _ _ rfl G9 (fun e => by rw [e, G8.eg] at nD; cases nD) upd_same okl
      | cons l0 lr =>
        refine iteT ?_
        obtain ⟨vs', v', rfl⟩ : ∃ vs' v', vs = vs' ++ [v'] := by
          have hv : vs ≠ [] := fun e => by have := DpAll.length G6.dp; rw [e] at this; simp at this
          exact ⟨vs.dropLast, vs.getLast hv, (List.dropLast_concat_getLast hv).symm⟩
        have hvl : (vs' ++ [v']).length = (l0 :: lr).length := by rw [DpAll.length G6.dp, List.length_map]
        obtain ⟨d, ed, pd⟩ := DpAll.get G6.dp (i := vs'.length) (v := v') (by rw [List.getElem?_append_right (Nat.le_refl _), Nat.sub_self]; rfl)
        rw [List.getElem?_map] at ed
        cases el : (l0 :: lr)[vs'.length]? with
        | none => rw [el] at ed; cases ed
        | some l =>
          rw [el] at ed
          cases ed
          have okl := G6.ok l (List.mem_of_getElem? el)
          obtain ⟨a, rfl, ha⟩ := lkref pd
          refine ⟨_, rfl, 1, rfl, g, _, _, _, rfl, rfl, SqL.of G6.eg, atI_last _ _, a, _, rfl, .inr ha, fun c nc => ?_⟩
          have G7 := G6.new hzb hgb (o := .lst (endsV l)) nc
          refine ⟨2, rfl, c, _, rfl, SqL.of upd_same, fun c2 nc2 => ?_⟩
          have G8 := G7.new hzb hgb (o := .lst [.int l.1, .int l.2.1]) nc2
          have hc2b : c2 ≠ b := G7.box.ne nc2
          refine ⟨_, rfl, _, rfl, z, _, _, _, rfl, rfl, SqL.of G8.ez, rfl, b, s1, rfl, G8.box, by omega, by omega, fun x H7 x0 x1 dd1 => ?_⟩
          have G9 := G8.draw hzb hgb dd1
          refine ⟨_, rfl, _, rfl, z, _, _, _, rfl, rfl, SqL.of G9.ez, rfl, b, s1, rfl, G9.box, by omega, by omega, fun y H8 y0 y1 dd2 => ?_⟩
          have G10 := G9.draw hzb hgb dd2
          refine ⟨(by show 2 ≤ sizeLine; decide), fun c3 nc3 => ?_⟩
          have G11 := G10.new hzb hgb (o := .lst [.int x, .int y]) nc3
          have ec2 : H8 c2 = some (.lst [.int l.1, .int l.2.1]) := dd2.same _ _ hc2b (dd1.same _ _ hc2b upd_same)
          refine ⟨c2, c3, [.int l.1, .int l.2.1], [.int x, .int y], rfl, rfl, by rw [upd_ne (ne_of_none ec2 nc3)]; exact ec2, upd_same, (by show 2 + 2 ≤ sizeLine; decide), fun c4 nc4 => ?_⟩
          have G12 := G11.new hzb hgb (o := .lst (endsV (l.1, l.2.1, x, y))) nc4
          exact fin _ c4 (l.1, l.2.1, x, y) _ _ _ _ _ rfl G12 (fun e => by rw [e, G11.eg] at nc4; cases nc4) upd_same ⟨okl.a0, okl.a1, okl.c0, okl.c1, x0, x1, y0, y1⟩
    · have e1 : decide (V.int kind = V.int 1) = false := decide_eq_false fun e => hk1 (V.int.inj e)
      rw [e1]
      refine iteF (iteF ⟨_, rfl, rfl, _, rfl, ?_⟩)
      by_cases hk2 : kind = 2
      · subst hk2
        have f1 := fmod_lt (a := 0 + (i : Int)) (n := s0) (by omega)
        have f2 := fmod_lt (a := 0 + (i : Int) + 1) (n := s0) (by omega)
        refine iteT ⟨_, rfl, _, rfl, z, _, _, _, rfl, rfl, SqL.of hG.ez, rfl, _, _, rfl, rfl, by omega, _, rfl, _, _, rfl, rfl, _, rfl, z, _, _, _, rfl, rfl, SqL.of hG.ez, rfl, _, _, rfl, rfl, by omega, ?_⟩
        refine ⟨_, rfl, _, rfl, z, _, _, _, rfl, rfl, SqL.of hG.ez, rfl, b, s1, rfl, hG.box, by omega, by omega, fun x H7 x0 x1 dd1 => ?_⟩
        have G9 := hG.draw hzb hgb dd1
        refine ⟨_, rfl, _, rfl, z, _, _, _, rfl, rfl, SqL.of G9.ez, rfl, b, s1, rfl, G9.box, by omega, by omega, fun y H8 y0 y1 dd2 => ?_⟩
        have G10 := G9.draw hzb hgb dd2
        refine ⟨(by show 4 ≤ sizeLine; decide), fun c3 nc3 => ?_⟩
        have G11 := G10.new hzb hgb (o := .lst (endsV ((0 + (i : Int)).fmod s0, (0 + (i : Int) + 1).fmod s0, x, y))) nc3
        exact fin _ c3 ((0 + (i : Int)).fmod s0, (0 + (i : Int) + 1).fmod s0, x, y) _ _ _ _ _ rfl G11 (fun e => by rw [e, G10.eg] at nc3; cases nc3) upd_same ⟨f1.1, f1.2, f2.1, f2.2, x0, x1, y0, y1⟩
      · have e2 : decide (V.int kind = V.int 2) = false := decide_eq_false fun e => hk2 (V.int.inj e)
        rw [e2]
        refine iteF ⟨_, rfl, rfl, _, rfl, ?_⟩
        by_cases hk3 : kind = 3
        · subst hk3
          refine iteT ⟨_, rfl, (by show 0 ≤ sizeLine; decide), fun p np => neq _ vs ls p _ hG np fun H6 G6 => ?_⟩
          cases ls with
          | nil =>
            refine iteF ?_
            refine ⟨_, rfl, z, _, _, _, rfl, rfl, SqL.of G6.ez, rfl, _, rfl, z, _, _, _, rfl, rfl, SqL.of G6.ez, rfl, _, rfl, z, _, _, _, rfl, rfl, SqL.of G6.ez, rfl, _, rfl, z, _, _, _, rfl, rfl, SqL.of G6.ez, rfl, (by show 4 ≤ sizeLine; decide), fun p np => ?_⟩
            have G8 := G6.new hzb hgb (o := .tup [.int s0, .int s0, .int s1, .int s1]) np
            have hpb : p ≠ b := G6.box.ne np
            refine ⟨p, [.int s0, .int s0, .int s1, .int s1], rfl, .inr (.inl (.inl upd_same)), fun J wk => lc_map wk (Dr b) (fun a b => a.trans b) (fun j y F => ∃ x : Int, y = .int x ∧ 0 ≤ x ∧ ∀ sz : Int, [s0, s0, s1, s1][j]? = some sz → x < sz) (fun j y A B _ p => p) (by show 4 < sizeLine; decide) (Dr.refl G8.box) (fun F D acc dF nF => ?_) (fun j x D acc F H' hj nD dF nF hy B hB => ?_) (fun D ys F nD dF nF hl hR => ?_)⟩
            · exact ⟨fun _ h => (same_new nF).seq (dF.sqL hpb h), fun h => Same.tup (same_new nF) (dF.sqT hpb h)⟩
            · obtain ⟨rfl, hx⟩ := hy
              have hx' : ∃ sz : Int, x = .int sz ∧ [s0, s0, s1, s1][j]? = some sz ∧ 1 ≤ sz ∧ sz ≤ wide := by
                match j, hj, hx with
                | 0, _, hx => exact ⟨s0, (Option.some.inj hx).symm, rfl, a1, a2⟩
                | 1, _, hx => exact ⟨s0, (Option.some.inj hx).symm, rfl, a1, a2⟩
                | 2, _, hx => exact ⟨s1, (Option.some.inj hx).symm, rfl, c1, c2⟩
                | 3, _, hx => exact ⟨s1, (Option.some.inj hx).symm, rfl, c1, c2⟩
              obtain ⟨sz, rfl, hsz, z1, z2⟩ := hx'
              refine hB _ F rfl nF fun Qt hq => ?_
              exact ⟨_, rfl, _, rfl, b, sz, rfl, dF.box, by omega, by omega, fun v F' v0 v1 d => hq _ _ d ⟨v, rfl, v0, fun sz' e => by rw [hsz] at e; cases e; exact v1⟩⟩
            · have hys : ∃ l : Lk, ys = endsV l ∧ okLk s0 s1 l := by
                match ys, hl with
                | [y0, y1, y2, y3], _ =>
                  obtain ⟨x0, rfl, p0, q0⟩ := hR 0 _ rfl
                  obtain ⟨x1, rfl, p1, q1⟩ := hR 1 _ rfl
                  obtain ⟨x2, rfl, p2, q2⟩ := hR 2 _ rfl
                  obtain ⟨x3, rfl, p3, q3⟩ := hR 3 _ rfl
                  exact ⟨(x0, x1, x2, x3), rfl, ⟨p0, q0 _ rfl, p1, q1 _ rfl, p2, q2 _ rfl, p3, q3 _ rfl⟩⟩
              obtain ⟨l, rfl, okl⟩ := hys
              have G9 := (G8.draw hzb hgb dF).new hzb hgb (o := .lst (endsV l)) nF
              exact fin _ D l _ _ _ _ _ rfl G9 (fun e => by rw [e, G8.eg] at nD; cases nD) upd_same okl
          | cons l0 lr =>
            refine iteT ?_
            have hv : vs ≠ [] := fun e => by have := DpAll.length G6.dp; rw [e] at this; simp at this
            have hvl : vs.length ≤ 200 := by rw [DpAll.length G6.dp, List.length_map, G6.len]; exact hi2
            refine ⟨_, rfl, _, rfl, b, g, vs, rfl, G6.box, hgb, SqL.of G6.eg, hv, by omega, fun j v H7 ej dd => ?_⟩
            have G7 := G6.draw hzb hgb dd
            obtain ⟨d, ed, pd⟩ := DpAll.get G7.dp ej
            rw [List.getElem?_map] at ed
            cases el : (l0 :: lr)[j]? with
            | none => rw [el] at ed; cases ed
            | some l =>
              rw [el] at ed
              cases ed
              have okl := G7.ok l (List.mem_of_getElem? el)
              obtain ⟨a, rfl, ha⟩ := lkref pd
              refine ⟨a, _, rfl, .inr ha, fun c nc => ?_⟩
              have G8 := G7.new hzb hgb (o := .lst (endsV l)) nc
              have hcb : c ≠ b := G7.box.ne nc
              have hcg : c ≠ g := fun e => by rw [e, G7.eg] at nc; cases nc
              have hcz : c ≠ z := fun e => by rw [e, G7.ez] at nc; cases nc
              refine ⟨_, rfl, _, rfl, b, 4, rfl, G8.box, by decide, by decide, fun j2 H9 j0 j1 dd2 => ?_⟩
              have G9 := G8.draw hzb hgb dd2
              have ec : H9 c = some (.lst (endsV l)) := dd2.same c _ hcb upd_same
              refine ⟨c, _, _, j2.toNat, rfl, rfl, ec, ?_, ?_⟩
              · unfold ixN
                rw [if_pos j0, if_pos (by show j2 < 4; exact j1)]
              · have G10 : Gt K b z g s0 s1 i H (upd H9 c (.lst ((endsV l).set j2.toNat (.int 0)))) vs (l0 :: lr) := by
                  refine ⟨?_, fun a o na e => ?_, ?_, ?_, DpAll.tp (Tp.upd ec) _ (noLs_lk _) G9.dp, G9.len, G9.ok⟩
                  · obtain ⟨x, y, w, e⟩ := G9.box
                    exact ⟨x, y, w, by rw [upd_ne (fun q => hcb q.symm)]; exact e⟩
                  · by_cases hac : a = c
                    · exfalso
                      rw [hac] at e
                      rw [G7.old c o hcb e] at nc; cases nc
                    · rw [upd_ne hac]; exact G9.old a o na e
                  · rw [upd_ne (fun q => hcz q.symm)]; exact G9.ez
                  · rw [upd_ne (fun q => hcg q.symm)]; exact G9.eg
                have hset : ∃ l2 : Lk, (endsV l).set j2.toNat (.int 0) = endsV l2 ∧ okLk s0 s1 l2 := by
                  have hj : j2.toNat = 0 ∨ j2.toNat = 1 ∨ j2.toNat = 2 ∨ j2.toNat = 3 := by omega
                  rcases hj with e | e | e | e <;> rw [e]
                  · exact ⟨(0, l.2.1, l.2.2.1, l.2.2.2), rfl, ⟨Int.le_refl 0, by show 0 < s0; omega, okl.c0, okl.c1, okl.x0, okl.x1, okl.y0, okl.y1⟩⟩
                  · exact ⟨(l.1, 0, l.2.2.1, l.2.2.2), rfl, ⟨okl.a0, okl.a1, Int.le_refl 0, by show 0 < s0; omega, okl.x0, okl.x1, okl.y0, okl.y1⟩⟩
                  · exact ⟨(l.1, l.2.1, 0, l.2.2.2), rfl, ⟨okl.a0, okl.a1, okl.c0, okl.c1, Int.le_refl 0, by show 0 < s1; omega, okl.y0, okl.y1⟩⟩
                  · exact ⟨(l.1, l.2.1, l.2.2.1, 0), rfl, ⟨okl.a0, okl.a1, okl.c0, okl.c1, okl.x0, okl.x1, Int.le_refl 0, by show 0 < s1; omega⟩⟩
                obtain ⟨l2, el2, ok2⟩ := hset
                rw [el2] at G10 ⊢
                exact fin _ c l2 _ _ _ _ _ rfl G10 hcg upd_same ok2
        · have e3 : decide (V.int kind = V.int 3) = false := decide_eq_false fun e => hk3 (V.int.inj e)
          rw [e3]
          refine iteF (iteF ?_)
          refine ⟨_, rfl, z, _, _, _, rfl, rfl, SqL.of hG.ez, rfl, _, rfl, z, _, _, _, rfl, rfl, SqL.of hG.ez, rfl, _, rfl, z, _, _, _, rfl, rfl, SqL.of hG.ez, rfl, _, rfl, z, _, _, _, rfl, rfl, SqL.of hG.ez, rfl, (by show 4 ≤ sizeLine; decide), fun p np => ?_⟩
          have G8 := hG.new hzb hgb (o := .tup [.int s0, .int s0, .int s1, .int s1]) np
          have hpb : p ≠ b := hG.box.ne np
          refine ⟨p, [.int s0, .int s0, .int s1, .int s1], rfl, .inr (.inl (.inl upd_same)), fun J wk => lc_map wk (Dr b) (fun a b => a.trans b) (fun j y F => ∃ x : Int, y = .int x ∧ 0 ≤ x ∧ ∀ sz : Int, [s0, s0, s1, s1][j]? = some sz → x < sz) (fun j y A B _ p => p) (by show 4 < sizeLine; decide) (Dr.refl G8.box) (fun F D acc dF nF => ?_) (fun j x D acc F H' hj nD dF nF hy B hB => ?_) (fun D ys F nD dF nF hl hR => ?_)⟩
          · exact ⟨fun _ h => (same_new nF).seq (dF.sqL hpb h), fun h => Same.tup (same_new nF) (dF.sqT hpb h)⟩
          · obtain ⟨rfl, hx⟩ := hy
            have hx' : ∃ sz : Int, x = .int sz ∧ [s0, s0, s1, s1][j]? = some sz ∧ 1 ≤ sz ∧ sz ≤ wide := by
              match j, hj, hx with
              | 0, _, hx => exact ⟨s0, (Option.some.inj hx).symm, rfl, a1, a2⟩
              | 1, _, hx => exact ⟨s0, (Option.some.inj hx).symm, rfl, a1, a2⟩
              | 2, _, hx => exact ⟨s1, (Option.some.inj hx).symm, rfl, c1, c2⟩
              | 3, _, hx => exact ⟨s1, (Option.some.inj hx).symm, rfl, c1, c2⟩
            obtain ⟨sz, rfl, hsz, z1, z2⟩ := hx'
            refine hB _ F rfl nF fun Qt hq => ?_
            exact ⟨_, rfl, _, rfl, b, sz, rfl, dF.box, by omega, by omega, fun v F' v0 v1 d => hq _ _ d ⟨v, rfl, v0, fun sz' e => by rw [hsz] at e; cases e; exact v1⟩⟩
          · have hys : ∃ l : Lk, ys = endsV l ∧ okLk s0 s1 l := by
              match ys, hl with
              | [y0, y1, y2, y3], _ =>
                obtain ⟨x0, rfl, p0, q0⟩ := hR 0 _ rfl
                obtain ⟨x1, rfl, p1, q1⟩ := hR 1 _ rfl
                obtain ⟨x2, rfl, p2, q2⟩ := hR 2 _ rfl
                obtain ⟨x3, rfl, p3, q3⟩ := hR 3 _ rfl
                exact ⟨(x0, x1, x2, x3), rfl, ⟨p0, q0 _ rfl, p1, q1 _ rfl, p2, q2 _ rfl, p3, q3 _ rfl⟩⟩
            obtain ⟨l, rfl, okl⟩ := hys
            have G9 := (G8.draw hzb hgb dF).new hzb hgb (o := .lst (endsV l)) nF
            exact fin _ D l _ _ _ _ _ rfl G9 (fun e => by rw [e, G8.eg] at nD; cases nD) upd_same okl
  · obtain ⟨y6, y7, y8, y9, vs, ls, rfl, hG⟩ := h
    refine ⟨_, rfl, z, _, _, _, rfl, rfl, SqL.of hG.ez, rfl, _, rfl, z, _, _, _, rfl, rfl, SqL.of hG.ez, rfl, _, rfl, g, _, rfl, .inl ⟨SqL.of hG.eg, fun t nt => ?_⟩⟩
    refine ⟨(by show 3 ≤ sizeLine; decide), fun r nr => ?_⟩
    have s1' : Same H4 (upd H4 t (.tup vs)) := same_new nt
    have s2' : Same _ (upd (upd H4 t (.tup vs)) r (.tup [.int s0, .int s1, .ref t])) := same_new nr
    refine q ⟨s0, s1, ls⟩ _ _ ⟨a1, a2, c1, c2, by rw [hG.len]; omega, hG.ok⟩ (Dr.trans (b := b) (H1 := H4) ⟨hG.box, hG.old⟩ (Dr.of hG.box (s1'.trans s2'))) ?_
    exact .tup (.inl (.inl upd_same)) (.cons (.int _) (.cons (.int _) (.cons (.tup (.inl (.inl (s2' _ _ upd_same))) (DpAll.same (s1'.trans s2') _ hG.dp)) .nil)))
end
end XL
namespace XL
open PySem PySem.Spec PyProof.Rows L2
abbrev sLying : Stmt := topS 10
/-! ### standings as data -/
structure Sn where
  rs : List Int
  bs : List Int
  ls : List Int
def intsD (zs : List Int) : List PyData := zs.map PyData.int
def snD (s : Sn) : PyData := .tuple [.tuple (intsD s.rs), .tuple (intsD s.bs), .tuple (intsD s.ls)]
structure okSn (c : Cn) (most : Int) (s : Sn) : Prop where
  r : (s.rs.length : Int) = c.r
  b : (s.bs.length : Int) = c.b
  n : s.ls.length = c.ls.length
  r0 : ∀ x ∈ s.rs, 0 ≤ x ∧ x ≤ most
  b0 : ∀ x ∈ s.bs, 0 ≤ x ∧ x ≤ most
  l0 : ∀ x ∈ s.ls, x = 0 ∨ x = 1
theorem noLs_ints : ∀ zs : List Int, noLs (intsD zs) = true
  | [] => rfl
  | z :: zs => by show noLs (.int z :: intsD zs) = true; rw [noLs, noLs_ints zs]; rfl
theorem noL_sn (s : Sn) : noL (snD s) = true := by
  show noLs [.tuple (intsD s.rs), .tuple (intsD s.bs), .tuple (intsD s.ls)] = true
  simp [noLs, noL, noLs_ints]
section
variable {P : Program} {w : World} {K : PySem.W.Frag} {mg : Str → Option Value} {base : Heap}
theorem dp_ints {H : Hp} : ∀ zs : List Int, DpAll K H (zs.map V.int) (intsD zs)
  | [] => .nil
  | z :: zs => .cons (.int z) (dp_ints zs)
theorem dp_tints {H : Hp} {a : Addr} {zs : List Int} (h : SqT K H a (zs.map V.int)) : Dp K H (.ref a) (.tuple (intsD zs)) := .tup h (dp_ints zs)
theorem ints_of : ∀ {ys : List V}, (∀ (i : Nat) y, ys[i]? = some y → ∃ x : Int, y = .int x) → ∃ zs : List Int, ys = zs.map V.int
  | [], _ => ⟨[], rfl⟩
  | y :: ys, h => by
    obtain ⟨x, rfl⟩ := h 0 y rfl
    obtain ⟨zs, rfl⟩ := ints_of (ys := ys) fun i z e => h (i + 1) z (by simpa using e)
    exact ⟨x :: zs, rfl⟩
theorem cn_of {H : Hp} {v : V} {c : Cn} (h : Dp K H v (cnD c)) : ∃ a g vs, v = .ref a ∧ SqT K H a [.int c.r, .int c.b, .ref g] ∧ SqT K H g vs ∧ DpAll K H vs (c.ls.map lkD) := by
  cases h with
  | tup hs ha =>
    cases ha with
    | cons p1 ha => cases p1; cases ha with
      | cons p2 ha => cases p2; cases ha with
        | cons p3 ha =>
          cases ha
          cases p3 with
          | tup hg hl => exact ⟨_, _, _, rfl, hs, hg, hl⟩
abbrev nLying : List Str := ["_law_box_here", "_law_ship_way", "_law_most", "_law_boats", "_law_size", "_law_basin", "_law_gate"]
theorem scLying : FnScope nLying ["_law_box_here", "_law_ship_way", "_law_most"] (defScope sLying) := ⟨rfl, rfl, rfl, by decide +kernel, rfl, by decide +kernel, by decide +kernel⟩
def spLying (K : PySem.W.Frag) : Sp := fun vs H Q _ => ∃ (b : Addr) (v : V) (c : Cn) (most : Int), vs = [.ref b, v, .int most] ∧ Bx H b ∧ Dp K H v (cnD c) ∧ okCn 100 100 c ∧ 1 ≤ most ∧ most < 1000000 ∧
  ∀ (s : Sn) (v' : V) (H' : Hp), okSn c most s → Dr b H H' → Dp K H' v' (snD s) → Q v' H'
theorem ok_lying {f ft fo : Addr} {fd fdt fdo : FuncData} {k : Nat} (F : Fun K "_law_lying" "_law_lying" sLying f fd) (FT : Fun K "_law_take" "_law_take" sTake ft fdt) (bT : Binds K fdt ["_law_box_here", "_law_size"] []) (gT : mg "_law_take" = some (.ref ft))
    (FO : Fun K "_law_of" "_law_of" sOf fo fdo) (bO : Binds K fdo ["_law_box_here", "_law_some"] []) (gO : mg "_law_of" = some (.ref fo)) (me : mg "len" = none) (mt : mg "tuple" = none) (mr : mg "range" = none) :
    FnOk P w K mg base CX0 (k + 1 + 1 + 1) f fd ["_law_box_here", "_law_ship_way", "_law_most"] (spLying K) := by
  have GT : FnOk P w K mg base CX0 (k + 1) ft fdt ["_law_box_here", "_law_size"] spTake := ok_take FT
  have GO : FnOk P w K mg base CX0 (k + 1 + 1) fo fdo ["_law_box_here", "_law_some"] (spOf K) := ok_of FO FT bT gT me
  refine F.ok scLying (fun vs H Q E h => ?_) (fun cdv A outer s H vs Q E hr h => ?_)
  · obtain ⟨b, v, c, most, rfl, _⟩ := h
    rfl
  obtain ⟨b, v, c, most, rfl, hb, hv, okc, m1, m2, q⟩ := h
  have hr1 : Room (k + 1) _ := hr.mono (Nat.le_succ _)
  refine ⟨_, pss_cons (ps_setLc (i := 3) (own := [("_law_size", 4)]) (g := gName 4) (tt := tYes) rfl scLying.nd rfl rfl (sw_true rfl rfl rfl (by decide +kernel)) (pi_seq (pe_slice sl_tupA (pv 1) po_none (po_some pe_int)))
      (blkOk_by (own := [("_law_size", 4)]) (N := nLying) (sc := defScope sLying) (by decide +kernel)) (fun _ _ _ _ _ => pg_name (i := 4) scLying.nd rfl (Or.inl rfl)) (fun _ _ _ _ _ => pts_nil)
      (fun _ _ _ _ _ => pe_hide (pe_lc (own := [("_law_basin", 5)]) (g := gName 5) (tt := tYes) rfl scLying.nd (pi_range1 rfl mr (pa_cons (pv 4) pa_nil)) (blkOk_by (own := [("_law_basin", 5)]) (N := nLying) rfl)
        (fun _ _ _ _ _ => pg_name (i := 5) scLying.nd rfl (Or.inl rfl)) (fun _ _ _ _ _ => pts_nil)
        (fun _ _ _ _ _ => pe_hide (pe_call GO hr rfl gO FO.kp bO .nil pass0 (pa_cons (pv 0) (pa_cons (pe_lst (pa_cons pe_int (pa_cons (pe_call GT hr1 rfl gT FT.kp bT .nil pass0 (pa_cons (pv 0) (pa_cons (pe_op op_add (pv 2) pe_int) pa_nil))) (pa_cons pe_int pa_nil)))) pa_nil)))))))
    (pss_one (ps_ret (pe_tup (pa_cons (pe_callTy call_tuple_of rfl mt boot_tuple (pa_cons (pe_ix ix_list (pv 3) pe_int (fun _ _ => rfl)) pa_nil)) (pa_cons (pe_callTy call_tuple_of rfl mt boot_tuple (pa_cons (pe_ix ix_list (pv 3) pe_int (fun _ _ => rfl)) pa_nil))
      (pa_cons (pe_callTy call_tuple_of rfl mt boot_tuple (pa_cons (pe_lc (own := [("_law_gate", 6)]) (g := gName 6) (tt := tYes) rfl scLying.nd (pi_seq (pe_ix ix_tup (pv 1) pe_int (fun _ _ => rfl))) (blkOk_by (own := [("_law_gate", 6)]) (N := nLying) (sc := defScope sLying) (by decide +kernel))
        (fun _ _ _ _ _ => pg_name (i := 6) scLying.nd rfl (Or.inl rfl)) (fun _ _ _ _ _ => pts_nil) (fun _ _ _ _ _ => pe_hide (pe_call GT hr1 rfl gT FT.kp bT .nil pass0 (pa_cons (pv 0) (pa_cons pe_int pa_nil))))) pa_nil)) pa_nil)))))), ?_⟩
  obtain ⟨a, g, gs, rfl, ha, hg, hgs⟩ := cn_of hv
  -- ship_way[:2]
  refine ⟨_, rfl, 2, rfl, a, _, rfl, ha, fun e => absurd e.2 (by show ¬ (2 = 3); decide), fun _ p np => ?_⟩
  have d1 : Dr b H (upd H p (.tup [.int c.r, .int c.b])) := Dr.new hb np
  have hpb : p ≠ b := hb.ne np
  have okr : 1 ≤ c.r ∧ c.r ≤ 100 := ⟨okc.r1, okc.r2⟩
  have okb : 1 ≤ c.b ∧ c.b ≤ 100 := ⟨okc.b1, okc.b2⟩
  refine ⟨p, [.int c.r, .int c.b], rfl, .inr (.inl (.inl upd_same)), fun J wk => lc_map wk (Dr b) (fun a b => a.trans b)
    (fun i y F => ∃ (l : Addr) (zs : List Int), y = .ref l ∧ l ≠ b ∧ F l = some (.lst (zs.map V.int)) ∧ (∀ n : Int, [c.r, c.b][i]? = some n → (zs.length : Int) = n) ∧ ∀ z ∈ zs, 0 ≤ z ∧ z ≤ most)
    (fun i y A B d ⟨l, zs, e, n, el, r⟩ => ⟨l, zs, e, n, d.same l _ n el, r⟩) (by show 2 < sizeLine; decide) (Dr.refl d1.box) (fun F D acc dF nF => ?_) (fun i x D acc F H' hi nD dF nF hy B hB => ?_) (fun D ys F nD dF nF hl hR => ?_)⟩
  · exact ⟨fun _ h => (same_new nF).seq (dF.sqL hpb h), fun h => Same.tup (same_new nF) (dF.sqT hpb h)⟩
  · obtain ⟨rfl, hx⟩ := hy
    have hx' : ∃ n : Int, x = .int n ∧ [c.r, c.b][i]? = some n ∧ 1 ≤ n ∧ n ≤ 100 := by
      match i, hi, hx with
      | 0, _, hx => exact ⟨c.r, (Option.some.inj hx).symm, rfl, okr⟩
      | 1, _, hx => exact ⟨c.b, (Option.some.inj hx).symm, rfl, okb⟩
    obtain ⟨n, rfl, hn, n1, n2⟩ := hx'
    refine hB _ F rfl nF fun Qt hq => ?_
    -- the inner row
    refine ⟨_, rfl, n, rfl, by omega, by omega, lc_map walk_range (Dr b) (fun a b => a.trans b) (fun j y F => ∃ z : Int, y = .int z ∧ 0 ≤ z ∧ z ≤ most) (fun j y A B _ p => p) (small1000 (by omega)) (Dr.refl dF.box) (fun _ _ _ _ _ => trivial) (fun j x D2 acc2 F2 H2 hj nD2 dF2 nF2 hy B hB => ?_) (fun D2 ys F2 nD2 dF2 nF2 hl hR => ?_)⟩
    · obtain ⟨rfl, rfl⟩ := hy
      refine hB _ F2 rfl nF2 fun Qt hq => ?_
      refine ⟨_, rfl, _, rfl, _, rfl, _, _, rfl, rfl, b, _, rfl, dF2.box, by omega, by omega, fun v F3 v0 v1 d3 => ?_⟩
      refine ⟨(by show 3 ≤ sizeLine; decide), fun l nl => ?_⟩
      have d4 : Dr b F3 (upd F3 l (.lst [.int 0, .int v, .int 1])) := Dr.new d3.box nl
      refine ⟨b, l, [.int 0, .int v, .int 1], rfl, d4.box, d3.box.ne nl, SqL.of upd_same, by simp, by show 3 < 1000; decide, fun j2 u F5 ej d5 => ?_⟩
      refine hq _ _ (d3.trans (d4.trans d5)) ?_
      match j2, ej with
      | 0, ej => exact ⟨0, (Option.some.inj ej).symm, by omega, by omega⟩
      | 1, ej => exact ⟨v, (Option.some.inj ej).symm, v0, by omega⟩
      | 2, ej => exact ⟨1, (Option.some.inj ej).symm, by omega, by omega⟩
    · obtain ⟨zs, rfl⟩ := ints_of fun j y e => let ⟨z, ez, _⟩ := hR j y e; ⟨z, ez⟩
      refine hq _ _ (dF2.trans (Dr.new dF2.box nF2)) ⟨D2, zs, rfl, dF.box.ne nD2, upd_same, fun n' e => ?_, fun z hz => ?_⟩
      · rw [hn] at e; cases e
        rw [List.length_map] at hl
        rw [hl]; omega
      · obtain ⟨j, ej⟩ := List.getElem?_of_mem hz
        obtain ⟨z', e', h1, h2⟩ := hR j (.int z) (by rw [List.getElem?_map, ej]; rfl)
        cases e'
        exact ⟨h1, h2⟩
  · -- boats
    have hys : ∃ (l0 l1 : Addr) (z0 z1 : List Int), ys = [.ref l0, .ref l1] ∧ l0 ≠ b ∧ l1 ≠ b ∧ F l0 = some (.lst (z0.map V.int)) ∧ F l1 = some (.lst (z1.map V.int)) ∧ (z0.length : Int) = c.r ∧ (z1.length : Int) = c.b ∧ (∀ z ∈ z0, 0 ≤ z ∧ z ≤ most) ∧ (∀ z ∈ z1, 0 ≤ z ∧ z ≤ most) := by
      match ys, hl with
      | [y0, y1], _ =>
        obtain ⟨l0, z0, rfl, n0, e0, r0, w0⟩ := hR 0 _ rfl
        obtain ⟨l1, z1, rfl, n1, e1, r1, w1⟩ := hR 1 _ rfl
        exact ⟨l0, l1, z0, z1, rfl, n0, n1, e0, e1, r0 _ rfl, r1 _ rfl, w0, w1⟩
    obtain ⟨l0, l1, z0, z1, rfl, n0, n1, e0, e1, r0, r1, w0, w1⟩ := hys
    have sD : Same F (upd F D (.lst [.ref l0, .ref l1])) := same_new nF
    have dD : Dr b H (upd F D (.lst [.ref l0, .ref l1])) := d1.trans (dF.trans (Dr.new dF.box nF))
    refine ⟨_, rfl, D, _, _, _, rfl, rfl, SqL.of upd_same, rfl, l0, _, rfl, .inl ⟨SqL.of (sD _ _ e0), fun t0 nt0 => ?_⟩⟩
    have s0 : Same _ (upd (upd F D (.lst [.ref l0, .ref l1])) t0 (.tup (z0.map V.int))) := same_new nt0
    refine ⟨_, rfl, D, _, _, _, rfl, rfl, SqL.of (s0 _ _ upd_same), rfl, l1, _, rfl, .inl ⟨SqL.of (s0 _ _ (sD _ _ e1)), fun t1 nt1 => ?_⟩⟩
    have s1 : Same _ (upd (upd (upd F D (.lst [.ref l0, .ref l1])) t0 (.tup (z0.map V.int))) t1 (.tup (z1.map V.int))) := same_new nt1
    have d2 : Dr b H (upd (upd (upd F D (.lst [.ref l0, .ref l1])) t0 (.tup (z0.map V.int))) t1 (.tup (z1.map V.int))) := dD.trans (Dr.of dD.box (s0.trans s1))
    have tpH := Dr.tp hb d2
    have hgb : SqT K _ g gs := tpH.sqT hg
    refine ⟨_, rfl, a, _, _, _, rfl, rfl, tpH.sqT ha, rfl, g, gs, rfl, .inr hgb, fun J wk => lc_map wk (Dr b) (fun a b => a.trans b) (fun j y F => ∃ z : Int, y = .int z ∧ (z = 0 ∨ z = 1)) (fun j y A B _ p => p) (by rw [DpAll.length hgs, List.length_map]; exact small1000 (by have := okc.n; omega)) (Dr.refl d2.box) (fun F2 D2 acc dF2 nF2 => ?_) (fun i x D2 acc F2 H' hi nD2 dF2 nF2 hy B hB => ?_) (fun D2 ys2 F2 nD2 dF2 nF2 hl2 hR2 => ?_)⟩
    · exact ⟨fun n _ => absurd hgb n, fun h => Same.tup (same_new nF2) ((Dr.tp d2.box dF2).sqT h)⟩
    · obtain ⟨rfl, hx⟩ := hy
      refine hB _ F2 rfl nF2 fun Qt hq => ?_
      exact ⟨_, rfl, b, 2, rfl, dF2.box, by decide, by decide, fun v F' v0 v1 d => hq _ _ d ⟨v, rfl, by omega⟩⟩
    · obtain ⟨zs, rfl⟩ := ints_of fun j y e => let ⟨z, ez, _⟩ := hR2 j y e; ⟨z, ez⟩
      refine ⟨D2, _, rfl, .inl ⟨SqL.of upd_same, fun t2 nt2 => ⟨(by show 3 ≤ sizeLine; decide), fun r nr => ?_⟩⟩⟩
      have sa : Same F2 (upd F2 D2 (.lst (zs.map V.int))) := same_new nF2
      have sb : Same _ (upd (upd F2 D2 (.lst (zs.map V.int))) t2 (.tup (zs.map V.int))) := same_new nt2
      have sc : Same _ (upd (upd (upd F2 D2 (.lst (zs.map V.int))) t2 (.tup (zs.map V.int))) r (.tup [.ref t0, .ref t1, .ref t2])) := same_new nr
      have tp3 := (Dr.tp d2.box dF2).trans (Tp.of (sa.trans (sb.trans sc)))
      refine q ⟨z0, z1, zs⟩ _ _ ⟨r0, r1, ?_, w0, w1, fun x hx => ?_⟩ (d2.trans (dF2.trans (Dr.of dF2.box (sa.trans (sb.trans sc))))) ?_
      · rw [List.length_map, DpAll.length hgs, List.length_map] at hl2; exact hl2
      · obtain ⟨j, ej⟩ := List.getElem?_of_mem hx
        obtain ⟨z', e', h1⟩ := hR2 j (.int x) (by rw [List.getElem?_map, ej]; rfl)
        cases e'
        exact h1
      · exact .tup (.inl (.inl upd_same)) (.cons (dp_tints (.inl (.inl (tp3.t _ _ (s1 _ _ upd_same))))) (.cons (dp_tints (.inl (.inl (tp3.t _ _ upd_same)))) (.cons (dp_tints (.inl (.inl (sc _ _ upd_same)))) .nil)))
end
end XL
namespace XL
open PySem PySem.Spec PyProof.Rows L2
abbrev sEx : Stmt := topS 3
abbrev sExS : Stmt := topS 4
abbrev sTog : Stmt := topS 5
abbrev sCross : Stmt := topS 15
abbrev sBeside : Stmt := topS 16
def exL (l : Lk) : Lk := (l.2.2.1, l.2.2.2, l.1, l.2.1)
def exC (c : Cn) : Cn := ⟨c.b, c.r, c.ls.map exL⟩
def exS (s : Sn) : Sn := ⟨s.bs, s.rs, s.ls⟩
def onL (c : Cn) (l : Lk) : Lk := (l.1 + c.r, l.2.1 + c.r, l.2.2.1 + c.b, l.2.2.2 + c.b)
def togC (c e : Cn) : Cn := ⟨c.r + e.r, c.b + e.b, c.ls ++ e.ls.map (onL c)⟩
section
variable {P : Program} {w : World} {K : PySem.W.Frag} {mg : Str → Option Value} {base : Heap}
/-- a canal of tuples or of lists -/
structure CnAny (K : PySem.W.Frag) (H : Hp) (v : V) (c : Cn) : Prop where
  ex : ∃ a g vs, v = .ref a ∧ Sq2 K H a [.int c.r, .int c.b, .ref g] ∧ Sq2 K H g vs ∧ vs.length = c.ls.length ∧ ∀ (i : Nat) u, vs[i]? = some u → ∃ l t, c.ls[i]? = some l ∧ u = .ref t ∧ Sq2 K H t (endsV l)
theorem ends_of {H : Hp} {v : V} {l : Lk} (h : Dp K H v (lkD l)) : ∃ a, v = .ref a ∧ SqT K H a (endsV l) := by
  cases h with
  | tup hs ha =>
    cases ha with
    | cons p1 ha => cases p1; cases ha with
      | cons p2 ha => cases p2; cases ha with
        | cons p3 ha => cases p3; cases ha with
          | cons p4 ha => cases p4; cases ha; exact ⟨_, rfl, hs⟩
theorem ends_of' {H : Hp} {v : V} {l : Lk} (h : Dp K H v (lstD (lkD l))) : ∃ a, v = .ref a ∧ SqL K H a (endsV l) := by
  have e : lstD (lkD l) = .list [.int l.1, .int l.2.1, .int l.2.2.1, .int l.2.2.2] := rfl
  rw [e] at h
  cases h with
  | lst hs ha =>
    cases ha with
    | cons p1 ha => cases p1; cases ha with
      | cons p2 ha => cases p2; cases ha with
        | cons p3 ha => cases p3; cases ha with
          | cons p4 ha => cases p4; cases ha; exact ⟨_, rfl, hs⟩
theorem cnAny_t {H : Hp} {v : V} {c : Cn} (h : Dp K H v (cnD c)) : CnAny K H v c := by
  obtain ⟨a, g, vs, e, ha, hg, hl⟩ := cn_of h
  refine ⟨a, g, vs, e, .inr ha, .inr hg, by rw [DpAll.length hl, List.length_map], fun i u hu => ?_⟩
  obtain ⟨d, ed, pd⟩ := DpAll.get hl hu
  rw [List.getElem?_map] at ed
  cases el : c.ls[i]? with
  | none => rw [el] at ed; cases ed
  | some l =>
    rw [el] at ed
    cases ed
    obtain ⟨t, et, ht⟩ := ends_of pd
    exact ⟨l, t, rfl, et, .inr ht⟩
theorem cnAny_l {H : Hp} {v : V} {c : Cn} (h : Dp K H v (lstD (cnD c))) : CnAny K H v c := by
  have e : lstD (cnD c) = .list [.int c.r, .int c.b, .list ((c.ls.map lkD).map lstD)] := by
    show PyData.list [.int c.r, .int c.b, .list (lstDs (c.ls.map lkD))] = _
    rw [lstDs_eq]
  rw [e] at h
  cases h with
  | lst hs ha =>
    cases ha with
    | cons p1 ha => cases p1; cases ha with
      | cons p2 ha => cases p2; cases ha with
        | cons p3 ha =>
          cases ha
          cases p3 with
          | lst hg hl =>
            refine ⟨_, _, _, rfl, .inl hs, .inl hg, by rw [DpAll.length hl, List.length_map, List.length_map], fun i u hu => ?_⟩
            obtain ⟨d, ed, pd⟩ := DpAll.get hl hu
            rw [List.map_map, List.getElem?_map] at ed
            cases el : c.ls[i]? with
            | none => rw [el] at ed; cases ed
            | some l =>
              rw [el] at ed
              cases ed
              obtain ⟨t, et, ht⟩ := ends_of' pd
              exact ⟨l, t, rfl, et, .inl ht⟩
theorem CnAny.same {H H' : Hp} {v : V} {c : Cn} (h : CnAny K H v c) (s : Same H H') : CnAny K H' v c := by
  obtain ⟨a, g, vs, e, ha, hg, hl, hv⟩ := h.ex
  refine ⟨a, g, vs, e, Same.sq2 s ha, Same.sq2 s hg, hl, fun i u hu => ?_⟩
  obtain ⟨l, t, h1, h2, h3⟩ := hv i u hu
  exact ⟨l, t, h1, h2, Same.sq2 s h3⟩
theorem dp_lks {F : Hp} {f : Lk → Lk} : ∀ {ys : List V} {ls : List Lk}, ys.length = ls.length → (∀ (i : Nat) y, ys[i]? = some y → ∃ l, ls[i]? = some l ∧ Dp K F y (lkD (f l))) → DpAll K F ys ((ls.map f).map lkD)
  | [], [], _, _ => .nil
  | [], _ :: _, h, _ => by simp at h
  | _ :: _, [], h, _ => by simp at h
  | y :: ys, l :: ls, h, hi => by
    obtain ⟨l', e, p⟩ := hi 0 y rfl
    have e' : l = l' := by simpa using e
    subst e'
    exact .cons p (dp_lks (by simpa using h) fun i z q => by
      have := hi (i + 1) z (by simpa using q)
      simpa using this)
/-! ### exchanged -/
abbrev nEx : List Str := ["canal", "reds", "blues", "locks", "a", "c", "x", "y"]
theorem scEx : FnScope nEx ["canal"] (defScope sEx) := ⟨rfl, rfl, rfl, by decide +kernel, rfl, by decide +kernel, by decide +kernel⟩
def spEx (K : PySem.W.Frag) : Sp := fun vs H Q _ => ∃ (v : V) (c : Cn), vs = [v] ∧ CnAny K H v c ∧ c.ls.length ≤ 1000 ∧ ∀ (v' : V) (H' : Hp), Same H H' → Dp K H' v' (cnD (exC c)) → Q v' H'
theorem ok_ex {f : Addr} {fd : FuncData} {k : Nat} (F : Fun K "exchanged" "exchanged" sEx f fd) (mt : mg "tuple" = none) : FnOk P w K mg base CX0 (k + 1) f fd ["canal"] (spEx K) := by
  refine F.ok scEx (fun vs H Q E h => ?_) (fun cdv A outer s H vs Q E hr h => ?_)
  · obtain ⟨v, c, rfl, _⟩ := h
    rfl
  obtain ⟨v, c, rfl, hc, hz, q⟩ := h
  obtain ⟨a, g, vs, rfl, ha, hg, hl, hv⟩ := hc.ex
  refine ⟨_, pss_cons (ps_asg (pv 0) (pg_any rfl (pgs_cons (pg_name (i := 1) scEx.nd rfl (.inl rfl)) (pgs_cons (pg_name (i := 2) scEx.nd rfl (.inl rfl)) (pgs_cons (pg_name (i := 3) scEx.nd rfl (.inl rfl)) pgs_nil)))))
    (pss_one (ps_ret (pe_tup (pa_cons (pv 2) (pa_cons (pv 1) (pa_cons (pe_callTy call_tuple_of rfl mt boot_tuple (pa_cons (pe_lc (own := [("a", 4), ("c", 5), ("x", 6), ("y", 7)]) (g := gAny K 4 (gCons (gName 4) (gCons (gName 5) (gCons (gName 6) (gCons (gName 7) gNil))))) (tt := tYes) rfl scEx.nd (pi_seq (pv 3))
      (blkOk_by (own := [("a", 4), ("c", 5), ("x", 6), ("y", 7)]) (N := nEx) (sc := defScope sEx) (by decide +kernel))
      (fun _ _ _ _ _ => pg_any rfl (pgs_cons (pg_name (i := 4) scEx.nd rfl (Or.inl rfl)) (pgs_cons (pg_name (i := 5) scEx.nd rfl (Or.inl rfl)) (pgs_cons (pg_name (i := 6) scEx.nd rfl (Or.inl rfl)) (pgs_cons (pg_name (i := 7) scEx.nd rfl (Or.inl rfl)) pgs_nil))))) (fun _ _ _ _ _ => pts_nil)
      (fun _ _ _ _ _ => pe_hide (pe_tup (pa_cons (pv 6) (pa_cons (pv 7) (pa_cons (pv 4) (pa_cons (pv 5) pa_nil))))))) pa_nil)) pa_nil)))))), ?_⟩
  refine ⟨_, rfl, a, _, rfl, ha, rfl, _, _, rfl, _, _, rfl, _, _, rfl, rfl, ?_⟩
  refine ⟨_, rfl, _, rfl, _, rfl, g, vs, rfl, hg, fun J wk => lc_map wk Same (fun a b => a.trans b) (fun i y F => ∃ l, c.ls[i]? = some l ∧ Dp K F y (lkD (exL l))) (fun i y A B s ⟨l, e, p⟩ => ⟨l, e, Dp.same s _ p⟩) (by rw [hl]; exact small1000 hz) (Same.refl _) (fun F D acc sF nF => ?_) (fun i x D acc F H' hi nD sF nF hy B hB => ?_) (fun D ys F nD sF nF hyl hR => ?_)⟩
  · have sD : Same _ (upd F D (.lst acc)) := sF.trans (same_new nF)
    exact ⟨fun _ z => sD.seq z, fun z => Same.tup sD z⟩
  · obtain ⟨rfl, hx⟩ := hy
    obtain ⟨l, t, el, rfl, ht⟩ := hv i x hx
    refine ⟨t, endsV l, rfl, Same.sq2 (sF.trans (same_new nF)) ht, rfl, _, _, rfl, _, _, rfl, _, _, rfl, _, _, rfl, rfl, ?_⟩
    refine hB _ F (w1 (by decide) (w1 (by decide) (w1 (by decide) (w1 (by decide) w0)))) nF fun Qt hq => ?_
    refine ⟨_, rfl, _, rfl, _, rfl, _, rfl, (by show 4 ≤ sizeLine; decide), fun p np => hq _ _ (same_new np) ⟨l, el, dp_lk (l := exL l) (.inl (.inl upd_same))⟩⟩
  · refine ⟨D, ys, rfl, .inl ⟨SqL.of upd_same, fun t nt => ⟨(by show 3 ≤ sizeLine; decide), fun r nr => ?_⟩⟩⟩
    have sa : Same F (upd F D (.lst ys)) := same_new nF
    have sb : Same _ (upd (upd F D (.lst ys)) t (.tup ys)) := same_new nt
    have sc : Same _ (upd (upd (upd F D (.lst ys)) t (.tup ys)) r (.tup [.int c.b, .int c.r, .ref t])) := same_new nr
    refine q _ _ (sF.trans (sa.trans (sb.trans sc))) (.tup (.inl (.inl upd_same)) (.cons (.int _) (.cons (.int _) (.cons (.tup (.inl (.inl (sc _ _ upd_same))) ?_) .nil))))
    exact DpAll.same (sa.trans (sb.trans sc)) _ (dp_lks (by rw [hyl, hl]) hR)
end
end XL
namespace XL
open PySem PySem.Spec PyProof.Rows L2
section
variable {P : Program} {w : World} {K : PySem.W.Frag} {mg : Str → Option Value} {base : Heap}
theorem at_s {T : L2.St → Hp → Prop} {σ σ' : L2.St} {H : Hp} (e : σ = σ') (h : T σ' H) : T σ H := e ▸ h
/-! ### exchanged_standing -/
theorem sn_of {H : Hp} {v : V} {s : Sn} (h : Dp K H v (snD s)) : ∃ a r b l, v = .ref a ∧ SqT K H a [r, b, l] ∧ Dp K H r (.tuple (intsD s.rs)) ∧ Dp K H b (.tuple (intsD s.bs)) ∧ Dp K H l (.tuple (intsD s.ls)) := by
  cases h with
  | tup hs ha =>
    cases ha with
    | cons p1 ha => cases ha with
      | cons p2 ha => cases ha with
        | cons p3 ha => cases ha; exact ⟨_, _, _, _, rfl, hs, p1, p2, p3⟩
abbrev nExS : List Str := ["standing", "reds", "blues", "locks"]
theorem scExS : FnScope nExS ["standing"] (defScope sExS) := ⟨rfl, rfl, rfl, by decide +kernel, rfl, by decide +kernel, by decide +kernel⟩
def spExS (K : PySem.W.Frag) : Sp := fun vs H Q _ => ∃ (v : V) (d : PyData) (s : Sn), vs = [v] ∧ Dp K H v d ∧ okD 6 d ∧ tupD d = snD s ∧ ∀ (v' : V) (H' : Hp), Same H H' → Dp K H' v' (snD (exS s)) → Q v' H'
theorem ok_exS {f ft : Addr} {fd fdt : FuncData} (F : Fun K "exchanged_standing" "exchanged_standing" sExS f fd) (FT : Fun K "tupled" "tupled" sTupled ft fdt) (bT : Binds K fdt ["thing"] []) (gT : mg "tupled" = some (.ref ft)) (mi : mg "isinstance" = none) (ml : mg "list" = none) (mt : mg "tuple" = none) :
    FnOk P w K mg base CX0 7 f fd ["standing"] (spExS K) := by
  have GT : FnOk P w K mg base CX0 6 ft fdt ["thing"] (spTupled K 6) := ok_tupled FT bT gT mi ml mt 6
  refine F.ok scExS (fun vs H Q E h => ?_) (fun cdv A outer s H vs Q E hr h => ?_)
  · obtain ⟨v, d, s, rfl, _⟩ := h
    rfl
  obtain ⟨v, d, sn, rfl, hd, ok, ed, q⟩ := h
  refine ⟨_, pss_cons (ps_asg (pe_call GT hr rfl gT FT.kp bT .nil pass0 (pa_cons (pv 0) pa_nil)) (pg_tup rfl (pgs_cons (pg_name (i := 1) scExS.nd rfl (.inl rfl)) (pgs_cons (pg_name (i := 2) scExS.nd rfl (.inl rfl)) (pgs_cons (pg_name (i := 3) scExS.nd rfl (.inl rfl)) pgs_nil)))))
    (pss_one (ps_ret (pe_tup (pa_cons (pv 2) (pa_cons (pv 1) (pa_cons (pv 3) pa_nil)))))), ?_⟩
  refine ⟨_, rfl, v, d, rfl, hd, ok, fun v' H' s1 hv' => ?_⟩
  rw [ed] at hv'
  obtain ⟨a, r, b, l, rfl, ha, p1, p2, p3⟩ := sn_of hv'
  refine ⟨a, _, rfl, ha, rfl, _, _, rfl, _, _, rfl, _, _, rfl, rfl, ?_⟩
  refine ⟨_, rfl, _, rfl, _, rfl, (by show 3 ≤ sizeLine; decide), fun t nt => ?_⟩
  have s2 : Same H' (upd H' t (.tup [b, r, l])) := same_new nt
  exact q _ _ (s1.trans s2) (.tup (.inl (.inl upd_same)) (.cons (Dp.same s2 _ p2) (.cons (Dp.same s2 _ p1) (.cons (Dp.same s2 _ p3) .nil))))
/-! ### together -/
abbrev nTog : List Str := ["one", "other", "reds", "blues", "locks", "more_reds", "more_blues", "more_locks", "moved", "a", "c", "x", "y"]
theorem scTog : FnScope nTog ["one", "other"] (defScope sTog) := ⟨rfl, rfl, rfl, by decide +kernel, rfl, by decide +kernel, by decide +kernel⟩
def spTog (K : PySem.W.Frag) : Sp := fun vs H Q _ => ∃ (v u : V) (d : PyData) (c e : Cn), vs = [v, u] ∧ Dp K H v d ∧ okD 6 d ∧ tupD d = cnD c ∧ CnAny K H u e ∧ c.ls.length ≤ 500 ∧ e.ls.length ≤ 500 ∧ ∀ (v' : V) (H' : Hp), Same H H' → Dp K H' v' (cnD (togC c e)) → Q v' H'
set_option maxHeartbeats 1000000 in
theorem ok_tog {f ft : Addr} {fd fdt : FuncData} (F : Fun K "together" "together" sTog f fd) (FT : Fun K "tupled" "tupled" sTupled ft fdt) (bT : Binds K fdt ["thing"] []) (gT : mg "tupled" = some (.ref ft)) (mi : mg "isinstance" = none) (ml : mg "list" = none) (mt : mg "tuple" = none) :
    FnOk P w K mg base CX0 7 f fd ["one", "other"] (spTog K) := by
  have GT : FnOk P w K mg base CX0 6 ft fdt ["thing"] (spTupled K 6) := ok_tupled FT bT gT mi ml mt 6
  refine F.ok scTog (fun vs H Q E h => ?_) (fun cdv A outer s H vs Q E hr h => ?_)
  · obtain ⟨v, u, d, c, e, rfl, _⟩ := h
    rfl
  obtain ⟨v, u, d, c, e, rfl, hd, ok, ed, hu, z1, z2, q⟩ := h
  refine ⟨_, pss_cons (ps_asg (pe_call GT hr rfl gT FT.kp bT .nil pass0 (pa_cons (pv 0) pa_nil)) (pg_tup rfl (pgs_cons (pg_name (i := 2) scTog.nd rfl (.inr rfl)) (pgs_cons (pg_name (i := 3) scTog.nd rfl (.inr rfl)) (pgs_cons (pg_name (i := 4) scTog.nd rfl (.inl rfl)) pgs_nil)))))
    (pss_cons (ps_asg (pv 1) (pg_any rfl (pgs_cons (pg_name (i := 5) scTog.nd rfl (.inl rfl)) (pgs_cons (pg_name (i := 6) scTog.nd rfl (.inl rfl)) (pgs_cons (pg_name (i := 7) scTog.nd rfl (.inl rfl)) pgs_nil)))))
    (pss_cons (ps_setLc (i := 8) (own := [("a", 9), ("c", 10), ("x", 11), ("y", 12)]) (g := gAny K 4 (gCons (gName 9) (gCons (gName 10) (gCons (gName 11) (gCons (gName 12) gNil))))) (tt := tYes) rfl scTog.nd rfl rfl (sw_true rfl rfl rfl (by decide +kernel)) (pi_seq (pv 7))
      (blkOk_by (own := [("a", 9), ("c", 10), ("x", 11), ("y", 12)]) (N := nTog) (sc := defScope sTog) (by decide +kernel))
      (fun _ _ _ _ _ => pg_any rfl (pgs_cons (pg_name (i := 9) scTog.nd rfl (Or.inl rfl)) (pgs_cons (pg_name (i := 10) scTog.nd rfl (Or.inl rfl)) (pgs_cons (pg_name (i := 11) scTog.nd rfl (Or.inl rfl)) (pgs_cons (pg_name (i := 12) scTog.nd rfl (Or.inl rfl)) pgs_nil))))) (fun _ _ _ _ _ => pts_nil)
      (fun _ _ _ _ _ => pe_hide (pe_tup (pa_cons (pe_op op_add (pv 9) (pv 2)) (pa_cons (pe_op op_add (pv 10) (pv 2)) (pa_cons (pe_op op_add (pv 11) (pv 3)) (pa_cons (pe_op op_add (pv 12) (pv 3)) pa_nil)))))))
    (pss_one (ps_ret (pe_tup (pa_cons (pe_op op_add (pv 2) (pv 5)) (pa_cons (pe_op op_add (pv 3) (pv 6)) (pa_cons (pe_op op_catA (pv 4) (pe_callTy call_tuple_of rfl mt boot_tuple (pa_cons (pv 8) pa_nil))) pa_nil)))))))), ?_⟩
  refine ⟨_, rfl, v, d, rfl, hd, ok, fun v' H1 s1 hv' => ?_⟩
  rw [ed] at hv'
  obtain ⟨a, g, gs, rfl, ha, hg, hgl⟩ := cn_of hv'
  refine ⟨a, _, rfl, ha, rfl, _, _, rfl, _, _, rfl, _, _, rfl, rfl, ?_⟩
  refine at_s (σ' := [some v, some u, some (.int c.r), some (.int c.b), some (.ref g), none, none, none, none, none, none, none, none]) rfl ?_
  obtain ⟨a2, g2, vs, rfl, ha2, hg2, hl, hv⟩ := (hu.same s1).ex
  refine ⟨_, rfl, a2, _, rfl, ha2, rfl, _, _, rfl, _, _, rfl, _, _, rfl, rfl, ?_⟩
  refine at_s (σ' := [some v, some (.ref a2), some (.int c.r), some (.int c.b), some (.ref g), some (.int e.r), some (.int e.b), some (.ref g2), none, none, none, none, none]) rfl ?_
  refine ⟨_, rfl, g2, vs, rfl, hg2, fun J wk => lc_map wk Same (fun a b => a.trans b) (fun i y F => ∃ l, e.ls[i]? = some l ∧ Dp K F y (lkD (onL c l))) (fun i y A B s ⟨l, e, p⟩ => ⟨l, e, Dp.same s _ p⟩) (by rw [hl]; exact small1000 (by omega)) (Same.refl _) (fun F D acc sF nF => ?_) (fun i x D acc F H' hi nD sF nF hy B hB => ?_) (fun D ys F nD sF nF hyl hR => ?_)⟩
  · have sD : Same _ (upd F D (.lst acc)) := sF.trans (same_new nF)
    exact ⟨fun _ z => sD.seq z, fun z => Same.tup sD z⟩
  · obtain ⟨rfl, hx⟩ := hy
    obtain ⟨l, t, el, rfl, ht⟩ := hv i x hx
    refine ⟨t, endsV l, rfl, Same.sq2 (sF.trans (same_new nF)) ht, rfl, _, _, rfl, _, _, rfl, _, _, rfl, _, _, rfl, rfl, ?_⟩
    refine at_s (σ' := [some v, some (.ref a2), some (.int c.r), some (.int c.b), some (.ref g), some (.int e.r), some (.int e.b), some (.ref g2), none, some (.int l.1), some (.int l.2.1), some (.int l.2.2.1), some (.int l.2.2.2)]) rfl ?_
    refine hB _ F rfl nF fun Qt hq => ?_
    refine ⟨_, rfl, _, rfl, _, _, rfl, rfl, _, rfl, _, rfl, _, _, rfl, rfl, _, rfl, _, rfl, _, _, rfl, rfl, _, rfl, _, rfl, _, _, rfl, rfl, (by show 4 ≤ sizeLine; decide), fun p np => hq _ _ (same_new np) ⟨l, el, dp_lk (l := onL c l) (.inl (.inl upd_same))⟩⟩
  · have sa : Same F (upd F D (.lst ys)) := same_new nF
    refine ⟨_, rfl, _, rfl, _, _, rfl, rfl, _, rfl, _, rfl, _, _, rfl, rfl, _, rfl, _, rfl, D, ys, rfl, .inl ⟨SqL.of upd_same, fun t nt => ?_⟩⟩
    have sb : Same _ (upd (upd F D (.lst ys)) t (.tup ys)) := same_new nt
    have sF2 := sF.trans (sa.trans sb)
    have hys : DpAll K (upd (upd F D (.lst ys)) t (.tup ys)) ys ((e.ls.map (onL c)).map lkD) := DpAll.same (sa.trans sb) _ (dp_lks (by rw [hyl, hl]) hR)
    have lgs : gs.length = c.ls.length := by rw [DpAll.length hgl, List.length_map]
    have fin : ∀ (o : Addr) (H3 : Hp), Same (upd (upd F D (.lst ys)) t (.tup ys)) H3 → SqT K H3 o (gs ++ ys) → ∀ r, H3 r = none → Q (.ref r) (upd H3 r (.tup [.int (c.r + e.r), .int (c.b + e.b), .ref o])) := by
      intro o H3 s3 ho r nr
      have s4 : Same H3 (upd H3 r (.tup [.int (c.r + e.r), .int (c.b + e.b), .ref o])) := same_new nr
      refine q _ _ (s1.trans (sF2.trans (s3.trans s4))) (.tup (.inl (.inl upd_same)) (.cons (.int _) (.cons (.int _) (.cons (.tup (Same.tup s4 ho) ?_) .nil))))
      rw [show (togC c e).ls.map lkD = c.ls.map lkD ++ (e.ls.map (onL c)).map lkD from List.map_append ..]
      exact DpAll.app (DpAll.same (sF2.trans (s3.trans s4)) _ hgl) (DpAll.same (s3.trans s4) _ hys)
    refine ⟨g, t, gs, ys, rfl, rfl, Same.tup sF2 hg, .inl (.inl upd_same), small (by omega), fun eg => ⟨(by show 3 ≤ sizeLine; decide), fun r nr => ?_⟩, fun _ ey => ⟨(by show 3 ≤ sizeLine; decide), fun r nr => ?_⟩, fun _ _ o no => ⟨(by show 3 ≤ sizeLine; decide), fun r nr => ?_⟩⟩
    · exact fin t _ (Same.refl _) (by rw [eg]; exact .inl (.inl upd_same)) r nr
    · exact fin g _ (Same.refl _) (by have h := Same.tup sF2 hg; rw [ey] at h ⊢; rw [List.append_nil]; exact h) r nr
    · exact fin o _ (same_new no) (.inl (.inl upd_same)) r nr
/-! ### _law_crossed -/
abbrev nCross : List Str := ["_law_ship_way", "_law_gate"]
theorem scCross : FnScope nCross ["_law_ship_way"] (defScope sCross) := ⟨rfl, rfl, rfl, by decide +kernel, rfl, by decide +kernel, by decide +kernel⟩
def spCross (K : PySem.W.Frag) : Sp := fun vs H Q _ => ∃ (v : V) (c : Cn), vs = [v] ∧ Dp K H v (cnD c) ∧ c.ls.length ≤ 1000 ∧ ∀ (v' : V) (H' : Hp), Same H H' → Dp K H' v' (cnD (exC c)) → Q v' H'
theorem ok_cross {f : Addr} {fd : FuncData} {k : Nat} (F : Fun K "_law_crossed" "_law_crossed" sCross f fd) (mt : mg "tuple" = none) : FnOk P w K mg base CX0 (k + 1) f fd ["_law_ship_way"] (spCross K) := by
  refine F.ok scCross (fun vs H Q E h => ?_) (fun cdv A outer s H vs Q E hr h => ?_)
  · obtain ⟨v, c, rfl, _⟩ := h
    rfl
  obtain ⟨v, c, rfl, hv, hz, q⟩ := h
  obtain ⟨a, g, gs, rfl, ha, hg, hgl⟩ := cn_of hv
  have lgs : gs.length = c.ls.length := by rw [DpAll.length hgl, List.length_map]
  refine ⟨_, pss_one (ps_ret (pe_tup (pa_cons (pe_ix ix_tup (pv 0) pe_int (fun _ _ => rfl)) (pa_cons (pe_ix ix_tup (pv 0) pe_int (fun _ _ => rfl)) (pa_cons (pe_callTy call_tuple_of rfl mt boot_tuple (pa_cons (pe_lc (own := [("_law_gate", 1)]) (g := gName 1) (tt := tYes) rfl scCross.nd (pi_seq (pe_ix ix_tup (pv 0) pe_int (fun _ _ => rfl)))
      (blkOk_by (own := [("_law_gate", 1)]) (N := nCross) (sc := defScope sCross) (by decide +kernel)) (fun _ _ _ _ _ => pg_name (i := 1) scCross.nd rfl (Or.inl rfl)) (fun _ _ _ _ _ => pts_nil)
      (fun _ _ _ _ _ => pe_hide (pe_op (r := rCatA K) op_catA (pe_slice (r := rSlA K) sl_tupA (pv 1) (po_some pe_int) po_none) (pe_slice (r := rSlA K) sl_tupA (pv 1) po_none (po_some pe_int))))) pa_nil)) pa_nil))))), ?_⟩
  refine ⟨_, rfl, a, _, _, _, rfl, rfl, ha, rfl, _, rfl, a, _, _, _, rfl, rfl, ha, rfl, _, rfl, a, _, _, _, rfl, rfl, ha, rfl, g, gs, rfl, .inr hg, fun J wk => lc_map wk Same (fun a b => a.trans b) (fun i y F => ∃ l, c.ls[i]? = some l ∧ Dp K F y (lkD (exL l))) (fun i y A B s ⟨l, e, p⟩ => ⟨l, e, Dp.same s _ p⟩) (by rw [lgs]; exact small1000 hz) (Same.refl _) (fun F D acc sF nF => ?_) (fun i x D acc F H' hi nD sF nF hy B hB => ?_) (fun D ys F nD sF nF hyl hR => ?_)⟩
  · have sD : Same _ (upd F D (.lst acc)) := sF.trans (same_new nF)
    exact ⟨fun _ z => sD.seq z, fun z => Same.tup sD z⟩
  · obtain ⟨rfl, hx⟩ := hy
    obtain ⟨d, ed, pd⟩ := DpAll.get hgl hx
    rw [List.getElem?_map] at ed
    cases el : c.ls[i]? with
    | none => rw [el] at ed; cases ed
    | some l =>
      rw [el] at ed
      cases ed
      obtain ⟨t, rfl, ht⟩ := ends_of pd
      have ht2 := Same.tup sF ht
      refine hB _ F rfl nF fun Qt hq => ?_
      refine ⟨_, rfl, 2, rfl, t, _, rfl, ht2, fun e => absurd e.1 (by show ¬ (2 = 0); decide), fun _ p1 np1 => ?_⟩
      have s1 : Same F (upd F p1 (.tup [.int l.2.2.1, .int l.2.2.2])) := same_new np1
      refine ⟨_, rfl, 2, rfl, t, _, rfl, Same.tup s1 ht2, fun e => absurd e.2 (by show ¬ (2 = 4); decide), fun _ p2 np2 => ?_⟩
      have s2 : Same _ (upd (upd F p1 (.tup [.int l.2.2.1, .int l.2.2.2])) p2 (.tup [.int l.1, .int l.2.1])) := same_new np2
      refine ⟨p1, p2, [.int l.2.2.1, .int l.2.2.2], [.int l.1, .int l.2.1], rfl, rfl, .inl (.inl (s2 _ _ upd_same)), .inl (.inl upd_same), (by show 2 + 2 ≤ sizeLine; decide), (fun e => nomatch e), (fun _ e => nomatch e), fun _ _ p3 np3 => ?_⟩
      exact hq _ _ (s1.trans (s2.trans (same_new np3))) ⟨l, el, dp_lk (l := exL l) (.inl (.inl upd_same))⟩
  · refine ⟨D, ys, rfl, .inl ⟨SqL.of upd_same, fun t nt => ⟨(by show 3 ≤ sizeLine; decide), fun r nr => ?_⟩⟩⟩
    have sa : Same F (upd F D (.lst ys)) := same_new nF
    have sb : Same _ (upd (upd F D (.lst ys)) t (.tup ys)) := same_new nt
    have sc : Same _ (upd (upd (upd F D (.lst ys)) t (.tup ys)) r (.tup [.int c.b, .int c.r, .ref t])) := same_new nr
    refine q _ _ (sF.trans (sa.trans (sb.trans sc))) (.tup (.inl (.inl upd_same)) (.cons (.int _) (.cons (.int _) (.cons (.tup (.inl (.inl (sc _ _ upd_same))) ?_) .nil))))
    exact DpAll.same (sa.trans (sb.trans sc)) _ (dp_lks (by rw [hyl, lgs]) hR)
end
end XL
namespace XL
open PySem PySem.Spec PyProof.Rows L2 RZ
section
variable {P : Program} {w : World} {K : PySem.W.Frag} {mg : Str → Option Value} {base : Heap}
theorem walk_zipT {a b : Addr} {xs ys : List V} {n : Nat} (hn : n = min xs.length ys.length) : Walk (ItzT K a b) n (fun H => SqT K H a xs ∧ SqT K H b ys) (YPair (fun i => xs[i]?) (fun i => ys[i]?)) := by
  subst hn
  refine ⟨fun i _ hi q => ?_, fun _ q => ⟨xs, ys, q.1, q.2, by omega⟩, fun i H v H' _ q y => ?_⟩
  · have h1 : i < xs.length := by omega
    have h2 : i < ys.length := by omega
    exact ⟨xs, ys, xs[i], ys[i], q.1, q.2, by simp [h1], by simp [h2]⟩
  · obtain ⟨T, x, z, h1, h2, h3, h4, h5⟩ := y
    exact ⟨T, x, z, h1, h2, h3, h4 xs q.1, h5 ys q.2⟩
/-! ### _law_beside -/
abbrev nBes : List Str := ["_law_mine", "_law_yours", "_law_on", "_law_more", "_law_gate", "_law_end", "_law_by"]
theorem scBes : FnScope nBes ["_law_mine", "_law_yours"] (defScope sBeside) := ⟨rfl, rfl, rfl, by decide +kernel, rfl, by decide +kernel, by decide +kernel⟩
def spBes (K : PySem.W.Frag) : Sp := fun vs H Q _ => ∃ (v u : V) (c e : Cn), vs = [v, u] ∧ Dp K H v (cnD c) ∧ Dp K H u (cnD e) ∧ c.ls.length ≤ 500 ∧ e.ls.length ≤ 500 ∧ ∀ (v' : V) (H' : Hp), Same H H' → Dp K H' v' (cnD (togC c e)) → Q v' H'
theorem ok_bes {f : Addr} {fd : FuncData} {k : Nat} (F : Fun K "_law_beside" "_law_beside" sBeside f fd) (mt : mg "tuple" = none) (mz : mg "zip" = none) : FnOk P w K mg base CX0 (k + 1) f fd ["_law_mine", "_law_yours"] (spBes K) := by
  refine F.ok scBes (fun vs H Q E h => ?_) (fun cdv A outer s H vs Q E hr h => ?_)
  · obtain ⟨v, u, c, e, rfl, _⟩ := h
    rfl
  obtain ⟨v, u, c, e, rfl, hv, hu, z1, z2, q⟩ := h
  obtain ⟨a, g, gs, rfl, ha, hg, hgl⟩ := cn_of hv
  obtain ⟨a2, g2, gs2, rfl, ha2, hg2, hgl2⟩ := cn_of hu
  have lgs : gs.length = c.ls.length := by rw [DpAll.length hgl, List.length_map]
  have lgs2 : gs2.length = e.ls.length := by rw [DpAll.length hgl2, List.length_map]
  refine ⟨_, pss_cons (ps_set (i := 2) scBes.nd rfl (.inr rfl) (pe_tup (pa_cons (pe_ix ix_tup (pv 0) pe_int (fun _ _ => rfl)) (pa_cons (pe_ix ix_tup (pv 0) pe_int (fun _ _ => rfl)) (pa_cons (pe_ix ix_tup (pv 0) pe_int (fun _ _ => rfl)) (pa_cons (pe_ix ix_tup (pv 0) pe_int (fun _ _ => rfl)) pa_nil))))))
    (pss_cons (ps_setLc (i := 3) (own := [("_law_gate", 4)]) (g := gName 4) (tt := tYes) rfl scBes.nd rfl rfl (sw_true rfl rfl rfl (by decide +kernel)) (pi_seq (pe_ix ix_tup (pv 1) pe_int (fun _ _ => rfl)))
      (blkOk_by (own := [("_law_gate", 4)]) (N := nBes) (sc := defScope sBeside) (by decide +kernel)) (fun _ _ _ _ _ => pg_name (i := 4) scBes.nd rfl (Or.inl rfl)) (fun _ _ _ _ _ => pts_nil)
      (fun _ _ _ _ _ => pe_hide (pe_callTy (r := fun xs H Q => ∃ p ys, xs = [.ref p] ∧ ((SqL K H p ys ∧ ∀ l, H l = none → Q (.ref l) (upd H l (.tup ys))) ∨ (SqT K H p ys ∧ Q (.ref p) H))) call_tuple_of rfl mt boot_tuple (pa_cons (pe_lc (wi := iZipA K (tCons (tVar 4) (tCons (tVar 2) tNil))) (own := [("_law_end", 5), ("_law_by", 6)]) (g := gAny K 2 (gCons (gName 5) (gCons (gName 6) gNil))) (tt := tYes) rfl scBes.nd (pi_zipA (by rfl) mz (pa_cons (pv 4) (pa_cons (pv 2) pa_nil)))
        (blkOk_by (own := [("_law_end", 5), ("_law_by", 6)]) (N := nBes) rfl) (fun _ _ _ _ _ => pg_any rfl (pgs_cons (pg_name (i := 5) scBes.nd rfl (Or.inl rfl)) (pgs_cons (pg_name (i := 6) scBes.nd rfl (Or.inl rfl)) pgs_nil))) (fun _ _ _ _ _ => pts_nil)
        (fun _ _ _ _ _ => pe_hide (pe_op op_add (pv 5) (pv 6)))) pa_nil))))
    (pss_one (ps_ret (pe_tup (pa_cons (pe_op op_add (pe_ix ix_tup (pv 0) pe_int (fun _ _ => rfl)) (pe_ix ix_tup (pv 1) pe_int (fun _ _ => rfl))) (pa_cons (pe_op op_add (pe_ix ix_tup (pv 0) pe_int (fun _ _ => rfl)) (pe_ix ix_tup (pv 1) pe_int (fun _ _ => rfl)))
      (pa_cons (pe_op op_catA (pe_ix ix_tup (pv 0) pe_int (fun _ _ => rfl)) (pe_callTy call_tuple_of rfl mt boot_tuple (pa_cons (pv 3) pa_nil))) pa_nil))))))), ?_⟩
  refine ⟨_, rfl, a, _, _, _, rfl, rfl, ha, rfl, _, rfl, a, _, _, _, rfl, rfl, ha, rfl, _, rfl, a, _, _, _, rfl, rfl, ha, rfl, _, rfl, a, _, _, _, rfl, rfl, ha, rfl, (by show 4 ≤ sizeLine; decide), fun on non => ?_⟩
  have s1 : Same H (upd H on (.tup [.int c.r, .int c.r, .int c.b, .int c.b])) := same_new non
  refine ⟨_, rfl, a2, _, _, _, rfl, rfl, Same.tup s1 ha2, rfl, g2, gs2, rfl, .inr (Same.tup s1 hg2), fun J wk => lc_map wk Same (fun a b => a.trans b) (fun i y F => ∃ l, e.ls[i]? = some l ∧ Dp K F y (lkD (onL c l))) (fun i y A B s ⟨l, e, p⟩ => ⟨l, e, Dp.same s _ p⟩) (by rw [lgs2]; exact small1000 (by omega)) (Same.refl _) (fun F D acc sF nF => ?_) (fun i x D acc F H' hi nD sF nF hy B hB => ?_) (fun D ys F nD sF nF hyl hR => ?_)⟩
  · have sD : Same _ (upd F D (.lst acc)) := sF.trans (same_new nF)
    exact ⟨fun _ z => sD.seq z, fun z => Same.tup sD z⟩
  · obtain ⟨rfl, hx⟩ := hy
    obtain ⟨d, ed, pd⟩ := DpAll.get hgl2 hx
    rw [List.getElem?_map] at ed
    cases el : e.ls[i]? with
    | none => rw [el] at ed; cases ed
    | some l =>
      rw [el] at ed
      cases ed
      obtain ⟨t, rfl, ht⟩ := ends_of pd
      have ht2 := Same.tup (s1.trans sF) ht
      have hon : SqT K F on [.int c.r, .int c.r, .int c.b, .int c.b] := .inl (.inl (sF _ _ upd_same))
      refine at_s (σ' := [some (.ref a), some (.ref a2), some (.ref on), none, some (.ref t), none, none]) rfl ?_
      refine hB _ F rfl nF fun Qt hq => ?_
      refine ⟨_, rfl, _, rfl, t, on, endsV l, _, rfl, .inr ⟨ht2, hon, lc_map (walk_zipT (K := K) (a := t) (b := on) (xs := endsV l) (ys := [.int c.r, .int c.r, .int c.b, .int c.b]) rfl) Same (fun a b => a.trans b) (fun j y F => ∃ x : Int, y = .int x ∧ [l.1 + c.r, l.2.1 + c.r, l.2.2.1 + c.b, l.2.2.2 + c.b][j]? = some x) (fun j y A B _ p => p) (by show 4 < sizeLine; decide) (Same.refl _) (fun F2 D2 acc2 sF2 nF2 => ?_) (fun j x D2 acc2 F2 H2 hj nD2 sF2 nF2 hy2 B2 hB2 => ?_) (fun D2 ys2 F2 nD2 sF2 nF2 hyl2 hR2 => ?_)⟩⟩
      · exact ⟨Same.tup (sF2.trans (same_new nF2)) ht2, Same.tup (sF2.trans (same_new nF2)) hon⟩
      · obtain ⟨T, x1, x2, rfl, nT, rfl, e1, e2⟩ := hy2
        have hTD : T ≠ D2 := fun q => by rw [q, upd_same] at nT; cases nT
        have nT2 : F2 T = none := by rw [upd_ne hTD] at nT; exact nT
        have hval : ∃ y1 y2 : Int, x1 = .int y1 ∧ x2 = .int y2 ∧ [l.1 + c.r, l.2.1 + c.r, l.2.2.1 + c.b, l.2.2.2 + c.b][j]? = some (y1 + y2) := by
          match j, hj, e1, e2 with
          | 0, _, e1, e2 => exact ⟨_, _, (Option.some.inj e1).symm, (Option.some.inj e2).symm, rfl⟩
          | 1, _, e1, e2 => exact ⟨_, _, (Option.some.inj e1).symm, (Option.some.inj e2).symm, rfl⟩
          | 2, _, e1, e2 => exact ⟨_, _, (Option.some.inj e1).symm, (Option.some.inj e2).symm, rfl⟩
          | 3, _, e1, e2 => exact ⟨_, _, (Option.some.inj e1).symm, (Option.some.inj e2).symm, rfl⟩
        obtain ⟨y1, y2, rfl, rfl, hj2⟩ := hval
        refine ⟨T, [.int y1, .int y2], rfl, .inr (.inl (.inl upd_same)), rfl, _, _, rfl, _, _, rfl, rfl, ?_⟩
        rw [upd_comm hTD]
        refine at_s (σ' := [some (.ref a), some (.ref a2), some (.ref on), none, some (.ref t), some (.int y1), some (.int y2)]) rfl ?_
        refine hB2 _ (upd F2 T (.tup [.int y1, .int y2])) rfl (by rw [upd_ne (fun q => hTD q.symm)]; exact nF2) fun Qt2 hq2 => ?_
        exact ⟨_, rfl, _, rfl, _, _, rfl, rfl, hq2 _ _ (same_new nT2) ⟨_, rfl, hj2⟩⟩
      · have hys : ys2 = endsV (onL c l) := by
          match ys2, hyl2 with
          | [y0, y1, y2, y3], _ =>
            obtain ⟨x0, rfl, p0⟩ := hR2 0 _ rfl
            obtain ⟨x1, rfl, p1⟩ := hR2 1 _ rfl
            obtain ⟨x2, rfl, p2⟩ := hR2 2 _ rfl
            obtain ⟨x3, rfl, p3⟩ := hR2 3 _ rfl
            cases p0; cases p1; cases p2; cases p3
            rfl
        subst hys
        refine ⟨D2, _, rfl, .inl ⟨SqL.of upd_same, fun t3 nt3 => ?_⟩⟩
        exact hq _ _ (sF2.trans ((same_new nF2).trans (same_new nt3))) ⟨l, el, dp_lk (l := onL c l) (.inl (.inl upd_same))⟩
  · have sa : Same F (upd F D (.lst ys)) := same_new nF
    have s2 := s1.trans (sF.trans sa)
    refine ⟨_, rfl, a, _, _, _, rfl, rfl, Same.tup s2 ha, rfl, _, rfl, a2, _, _, _, rfl, rfl, Same.tup s2 ha2, rfl, _, _, rfl, rfl, _, rfl, a, _, _, _, rfl, rfl, Same.tup s2 ha, rfl, _, rfl, a2, _, _, _, rfl, rfl, Same.tup s2 ha2, rfl, _, _, rfl, rfl, _, rfl, a, _, _, _, rfl, rfl, Same.tup s2 ha, rfl, _, rfl, D, ys, rfl, .inl ⟨SqL.of upd_same, fun t nt => ?_⟩⟩
    have sb : Same _ (upd (upd F D (.lst ys)) t (.tup ys)) := same_new nt
    have s3 := s2.trans sb
    have hys : DpAll K (upd (upd F D (.lst ys)) t (.tup ys)) ys ((e.ls.map (onL c)).map lkD) := DpAll.same (sa.trans sb) _ (dp_lks (by rw [hyl, lgs2]) hR)
    have fin : ∀ (o : Addr) (H3 : Hp), Same (upd (upd F D (.lst ys)) t (.tup ys)) H3 → SqT K H3 o (gs ++ ys) → ∀ r, H3 r = none → Q (.ref r) (upd H3 r (.tup [.int (c.r + e.r), .int (c.b + e.b), .ref o])) := by
      intro o H3 s4 ho r nr
      have s5 : Same H3 (upd H3 r (.tup [.int (c.r + e.r), .int (c.b + e.b), .ref o])) := same_new nr
      refine q _ _ (s3.trans (s4.trans s5)) (.tup (.inl (.inl upd_same)) (.cons (.int _) (.cons (.int _) (.cons (.tup (Same.tup s5 ho) ?_) .nil))))
      rw [show (togC c e).ls.map lkD = c.ls.map lkD ++ (e.ls.map (onL c)).map lkD from List.map_append ..]
      exact DpAll.app (DpAll.same (s3.trans (s4.trans s5)) _ hgl) (DpAll.same (s4.trans s5) _ hys)
    refine ⟨g, t, gs, ys, rfl, rfl, Same.tup s3 hg, .inl (.inl upd_same), small (by omega), fun eg => ⟨(by show 3 ≤ sizeLine; decide), fun r nr => ?_⟩, fun _ ey => ⟨(by show 3 ≤ sizeLine; decide), fun r nr => ?_⟩, fun _ _ o no => ⟨(by show 3 ≤ sizeLine; decide), fun r nr => ?_⟩⟩
    · exact fin t _ (Same.refl _) (by rw [eg]; exact .inl (.inl upd_same)) r nr
    · exact fin g _ (Same.refl _) (by have h := Same.tup s3 hg; rw [ey] at h ⊢; rw [List.append_nil]; exact h) r nr
    · exact fin o _ (same_new no) (.inl (.inl upd_same)) r nr
end
end XL
namespace XL
open PySem PySem.Spec PyProof.Rows L2
abbrev sRight : Stmt := topS 17
theorem boot_repr' : bootBuiltins "repr" = some (.builtin "repr") := by decide +kernel
theorem okD_lk (n : Nat) (l : Lk) : okD (n + 2) (lkD l) := ⟨by show 4 ≤ 1000; decide, fun d h => by
  simp only [List.mem_cons, List.not_mem_nil, or_false] at h
  rcases h with rfl | rfl | rfl | rfl <;> exact trivial⟩
theorem okD_cn (n : Nat) {c : Cn} (h : c.ls.length ≤ 1000) : okD (n + 4) (cnD c) := ⟨by show 3 ≤ 1000; decide, fun d hd => by
  simp only [List.mem_cons, List.not_mem_nil, or_false] at hd
  rcases hd with rfl | rfl | rfl
  · exact trivial
  · exact trivial
  · refine ⟨by rw [List.length_map]; exact h, fun e he => ?_⟩
    obtain ⟨l, _, rfl⟩ := List.mem_map.mp he
    exact okD_lk n l⟩
theorem okD_ints (n : Nat) {zs : List Int} (h : zs.length ≤ 1000) : okD (n + 2) (.tuple (intsD zs)) := ⟨by rw [intsD, List.length_map]; exact h, fun e he => by
  obtain ⟨z, _, rfl⟩ := List.mem_map.mp he
  exact trivial⟩
theorem okD_sn (n : Nat) {s : Sn} (h1 : s.rs.length ≤ 1000) (h2 : s.bs.length ≤ 1000) (h3 : s.ls.length ≤ 1000) : okD (n + 3) (snD s) := ⟨by show 3 ≤ 1000; decide, fun d hd => by
  simp only [List.mem_cons, List.not_mem_nil, or_false] at hd
  rcases hd with rfl | rfl | rfl
  · exact okD_ints n h1
  · exact okD_ints n h2
  · exact okD_ints n h3⟩
mutual
theorem okD_lst : ∀ (n : Nat) (d : PyData), okD n d → okD n (lstD d)
  | 0, _, h => h.elim
  | n + 1, .list ds, h => ⟨by rw [lstDs_eq, List.length_map]; exact h.1, by rw [lstDs_eq]; exact okDs_lst n ds h.2⟩
  | n + 1, .tuple ds, h => ⟨by rw [lstDs_eq, List.length_map]; exact h.1, by rw [lstDs_eq]; exact okDs_lst n ds h.2⟩
  | n + 1, .none, _ => trivial
  | n + 1, .bool _, _ => trivial
  | n + 1, .int _, _ => trivial
  | n + 1, .str _, _ => trivial
  | n + 1, .dict _, _ => trivial
theorem okDs_lst : ∀ (n : Nat) (ds : List PyData), (∀ d ∈ ds, okD n d) → ∀ e ∈ ds.map lstD, okD n e
  | _, [], _, e, he => by simp at he
  | n, d :: ds, h, e, he => by
    rcases List.mem_cons.mp he with q | q
    · rw [q]; exact okD_lst n d (h d (List.mem_cons_self ..))
    · exact okDs_lst n ds (fun x hx => h x (List.mem_cons_of_mem _ hx)) e q
end
theorem tup_lst_lk (l : Lk) : tupD (lstD (lkD l)) = lkD l := rfl
theorem map_tl : ∀ ls : List Lk, ((ls.map lkD).map lstD).map tupD = ls.map lkD
  | [] => rfl
  | l :: ls => by rw [List.map_cons, List.map_cons, List.map_cons, map_tl ls, tup_lst_lk]
theorem map_t : ∀ ls : List Lk, (ls.map lkD).map tupD = ls.map lkD
  | [] => rfl
  | l :: ls => by rw [List.map_cons, List.map_cons, map_t ls]; rfl
theorem tup_cn (c : Cn) : tupD (cnD c) = cnD c := by
  show PyData.tuple [.int c.r, .int c.b, .tuple (tupDs (c.ls.map lkD))] = _
  rw [tupDs_eq, map_t]; rfl
theorem tup_lst_cn (c : Cn) : tupD (lstD (cnD c)) = cnD c := by
  show PyData.tuple [.int c.r, .int c.b, .tuple (tupDs (lstDs (c.ls.map lkD)))] = _
  rw [tupDs_eq, lstDs_eq, map_tl]; rfl
theorem map_ti : ∀ zs : List Int, (intsD zs).map tupD = intsD zs
  | [] => rfl
  | z :: zs => by show tupD (.int z) :: (intsD zs).map tupD = _; rw [map_ti zs]; rfl
theorem map_li : ∀ zs : List Int, (intsD zs).map lstD = intsD zs
  | [] => rfl
  | z :: zs => by show lstD (.int z) :: (intsD zs).map lstD = _; rw [map_li zs]; rfl
theorem tup_sn (s : Sn) : tupD (snD s) = snD s := by
  show PyData.tuple [.tuple (tupDs (intsD s.rs)), .tuple (tupDs (intsD s.bs)), .tuple (tupDs (intsD s.ls))] = _
  rw [tupDs_eq, tupDs_eq, tupDs_eq, map_ti, map_ti, map_ti]; rfl
theorem tup_lst_sn (s : Sn) : tupD (lstD (snD s)) = snD s := by
  show PyData.tuple [.tuple (tupDs (lstDs (intsD s.rs))), .tuple (tupDs (lstDs (intsD s.bs))), .tuple (tupDs (lstDs (intsD s.ls)))] = _
  rw [tupDs_eq, tupDs_eq, tupDs_eq, lstDs_eq, lstDs_eq, lstDs_eq, map_li, map_li, map_li, map_ti, map_ti, map_ti]; rfl
theorem ex_ex (c : Cn) : exC (exC c) = c := by
  obtain ⟨r, b, ls⟩ := c
  show Cn.mk r b ((ls.map exL).map exL) = _
  rw [List.map_map]
  congr 1
  exact List.map_id'' (fun l => rfl) ls
theorem exS_exS (s : Sn) : exS (exS s) = s := rfl
theorem tog_assoc (a b c : Cn) : togC (togC a b) c = togC a (togC b c) := by
  have e : ∀ l, onL (togC a b) l = onL a (onL b l) := fun l => by
    simp only [onL, togC, Prod.mk.injEq]; omega
  have e2 : c.ls.map (onL (togC a b)) = (c.ls.map (onL b)).map (onL a) := by
    rw [List.map_map]; exact List.map_congr_left fun l _ => e l
  show Cn.mk ((a.r + b.r) + c.r) ((a.b + b.b) + c.b) ((a.ls ++ b.ls.map (onL a)) ++ c.ls.map (onL (togC a b))) = Cn.mk (a.r + (b.r + c.r)) (a.b + (b.b + c.b)) (a.ls ++ (b.ls ++ c.ls.map (onL b)).map (onL a))
  rw [e2, List.map_append, List.append_assoc, Int.add_assoc, Int.add_assoc]
theorem ex_len (c : Cn) : (exC c).ls.length = c.ls.length := List.length_map _
theorem tog_len (a b : Cn) : (togC a b).ls.length = a.ls.length + b.ls.length := by
  show (a.ls ++ b.ls.map (onL a)).length = _
  rw [List.length_append, List.length_map]
section
variable {P : Program} {w : World} {K : PySem.W.Frag} {mg : Str → Option Value} {base : Heap}
abbrev nRight : List Str := ["_law_box_here", "_law_mine", "_law_yours", "_law_third", "_law_lying_here", "_law_kept", "_law_told", "_law_due", "_law_turn"]
theorem scRight : FnScope nRight ["_law_box_here"] (defScope sRight) := ⟨rfl, rfl, rfl, by decide +kernel, rfl, by decide +kernel, by decide +kernel⟩
def spRight : Sp := fun vs H Q _ => ∃ b : Addr, vs = [.ref b] ∧ Bx H b ∧ ∀ H' : Hp, Dr b H H' → Q (.bl true) H'
theorem at_g {i : Nat} {x : V} {σ σ' : L2.St} {H : Hp} {N : L2.St → Hp → Prop} (e : σ.set i (some x) = σ') (h : N σ' H) : gName i x σ H N := by
  subst e; exact h
/-! ### calls by keywords -/
def g1 : List α → List α → List α
  | [], [x] => [x]
  | _, _ => []
def g2 : List α → List α → List α
  | [], [x, y] => [y, x]
  | _, _ => []
theorem kb1 {x qual p : Str} {st : Stmt} {f : Addr} {fd : FuncData} (F : Fun K x qual st f fd)
    (h : ∀ (kV doc pm : Value) (an : Option Addr) (cdv ct v : Value), bindArgs (PySem.W.fnOf x qual (defArgs st) (defBody st) (defScope st) .none kV doc pm an cdv ct) ⟨[], [(p, v)]⟩ = pure [(p, v)]) : KBinds K fd [p] [p] g1 g1 := by
  obtain ⟨oc, od, kV, doc, pm, an, cdv, ct, osl, rfl, lk, hcd⟩ := F.ex
  refine ⟨fun s us ws _ hl => ?_, fun {vs us zs ws} r1 r2 => ?_⟩
  · match us, ws, hl with
    | [], [v], _ => exact .of_eq (h kV doc pm an cdv ct v)
  · cases r1 with
    | nil =>
      cases r2 with
      | nil => exact .nil
      | cons a r =>
        cases r with
        | nil => exact .cons a .nil
        | cons _ _ => exact .nil
    | cons _ _ => exact .nil
theorem kb2 {x qual p q : Str} {st : Stmt} {f : Addr} {fd : FuncData} (F : Fun K x qual st f fd)
    (h : ∀ (kV doc pm : Value) (an : Option Addr) (cdv ct v u : Value), bindArgs (PySem.W.fnOf x qual (defArgs st) (defBody st) (defScope st) .none kV doc pm an cdv ct) ⟨[], [(q, v), (p, u)]⟩ = pure [(p, u), (q, v)]) : KBinds K fd [p, q] [q, p] g2 g2 := by
  obtain ⟨oc, od, kV, doc, pm, an, cdv, ct, osl, rfl, lk, hcd⟩ := F.ex
  refine ⟨fun s us ws _ hl => ?_, fun {vs us zs ws} r1 r2 => ?_⟩
  · match us, ws, hl with
    | [], [v, u], _ => exact .of_eq (h kV doc pm an cdv ct v u)
  · cases r1 with
    | nil =>
      cases r2 with
      | nil => exact .nil
      | cons a r =>
        cases r with
        | nil => exact .nil
        | cons a2 r =>
          cases r with
          | nil => exact .cons a2 (.cons a .nil)
          | cons _ _ => exact .nil
    | cons _ _ => exact .nil
/-- the functions that _law_right calls -/
structure Fns (P : Program) (w : World) (K : PySem.W.Frag) (mg : Str → Option Value) (base : Heap) (n : Nat) (name : Str) (ps : List Str) (sp : Sp) (f : Addr) (fd : FuncData) : Prop where
  ok : FnOk P w K mg base CX0 n f fd ps sp
  g : mg name = some (.ref f)
  k : PySem.W.keepIn K (.ref f) = true
  b : Binds K fd ps []
theorem pe_fn {X : Cx} {n : Nat} {name : Str} {ps : List Str} {sp : Sp} {f : Addr} {fd : FuncData} {p pos : Pos} {e : Expr} {es : List Expr} {t : TA} (F : Fns X.prog X.w X.K X.mg X.base n name ps sp f fd) (hr : Room n X.A) (hg : Gl X name) (ha : PA X (e :: es) t)
    (hdb : (name == ("__debug__" : Str)) = false := by decide) (he : starEach (e :: es) X.env = (false, eval e X.env) :: starEach es X.env := by rfl) (hpl : (backTo pos (starEach es X.env)).any (·.1) = false := by rfl) (hx : Passes CX0 X E0 := by exact pass0) :
    PE X (.Call (.Name name p) (e :: es) [] pos) (tCall sp [] E0 t) := pe_call F.ok hr hg F.g F.k F.b .nil hx ha hdb he hpl
theorem ok_right {f fc fy fl fs fe fx ft fo fb : Addr} {fd fdc fdy fdl fds fde fdx fdt fdo fdb : FuncData} (F : Fun K "_law_right" "_law_right" sRight f fd)
    (C : Fns P w K mg base 7 "_law_canal" ["_law_box_here", "_law_wide", "_law_utmost"] (spCanal K) fc fdc) (Y : Fns P w K mg base 7 "_law_lying" ["_law_box_here", "_law_ship_way", "_law_most"] (spLying K) fy fdy)
    (L : Fns P w K mg base 7 "_law_lists" ["_law_what"] (spLists K 7) fl fdl) (S : Fns P w K mg base 7 "_law_same" ["_law_found", "_law_due"] (spSame K 7) fs fds)
    (Ex : Fns P w K mg base 7 "exchanged" ["canal"] (spEx K) fe fde) (Xs : Fns P w K mg base 7 "exchanged_standing" ["standing"] (spExS K) fx fdx) (T : Fns P w K mg base 7 "together" ["one", "other"] (spTog K) ft fdt)
    (O : Fns P w K mg base 7 "_law_crossed" ["_law_ship_way"] (spCross K) fo fdo) (B : Fns P w K mg base 7 "_law_beside" ["_law_mine", "_law_yours"] (spBes K) fb fdb)
    (kE : KBinds K fde ["canal"] ["canal"] g1 g1) (kX : KBinds K fdx ["standing"] ["standing"] g1 g1) (kT : KBinds K fdt ["one", "other"] ["other", "one"] g2 g2) (mp : mg "repr" = none) (mr : mg "range" = none) :
    FnG P w K mg base 8 f fd ["_law_box_here"] spRight := by
  refine okG F scRight (fun vs H Q E h => ?_) (fun cdv A outer s H vs Q E hG hr h => ?_)
  · obtain ⟨b, rfl, _⟩ := h
    rfl
  obtain ⟨b, rfl, hb, q⟩ := h
  refine ⟨_, pss_cons (ps_asg (pe_lc (own := [("_law_turn", 8)]) (g := gName 8) (tt := tYes) rfl scRight.nd (pi_range1 rfl mr (pa_cons pe_int pa_nil)) (blkOk_by (own := [("_law_turn", 8)]) (N := nRight) (sc := defScope sRight) (by decide +kernel))
        (fun _ _ _ _ _ => pg_name (i := 8) scRight.nd rfl (Or.inl rfl)) (fun _ _ _ _ _ => pts_nil) (fun _ _ _ _ _ => pe_hide (pe_fn C hr rfl (pa_cons (pv 0) (pa_cons pe_int (pa_cons pe_int pa_nil))))))
      (pg_unl rfl (pgs_cons (pg_name (i := 1) scRight.nd rfl (.inl rfl)) (pgs_cons (pg_name (i := 2) scRight.nd rfl (.inl rfl)) (pgs_cons (pg_name (i := 3) scRight.nd rfl (.inl rfl)) pgs_nil)))))
    (pss_cons (ps_set (i := 4) scRight.nd rfl (.inl rfl) (pe_fn Y hr rfl (pa_cons (pv 0) (pa_cons (pv 1) (pa_cons pe_int pa_nil)))))
    (pss_cons (ps_set (i := 5) scRight.nd rfl (.inl rfl) (pe_rep hG hr rfl mp boot_repr' (pe_lst (pa_cons (pv 1) (pa_cons (pv 2) (pa_cons (pv 4) pa_nil))))))
    (pss_cons (ps_set (i := 6) scRight.nd rfl (.inl rfl) (pe_lst (pa_cons (pe_fn Ex hr rfl (pa_cons (pv 1) pa_nil)) (pa_cons (pe_callK0 Ex.ok hr rfl Ex.g Ex.k kE pass0 (pk_cons (pe_fn L hr rfl (pa_cons (pv 1) pa_nil)) pk_nil)) (pa_cons (pe_fn Ex hr rfl (pa_cons (pe_fn Ex hr rfl (pa_cons (pv 1) pa_nil)) pa_nil)) pa_nil)))))
    (pss_cons (ps_if (pt_not (pt_val (pe_fn S hr rfl (pa_cons (pv 6) (pa_cons (pe_lst (pa_cons (pe_fn O hr rfl (pa_cons (pv 1) pa_nil)) (pa_cons (pe_fn O hr rfl (pa_cons (pv 1) pa_nil)) (pa_cons (pv 1) pa_nil)))) pa_nil))))) (pss_one (ps_ret pe_bl)) pss_nil)
    (pss_cons (ps_set (i := 7) scRight.nd rfl (.inl rfl) (pe_tup (pa_cons (pe_ix ix_tup (pv 4) pe_int (fun _ _ => rfl)) (pa_cons (pe_ix ix_tup (pv 4) pe_int (fun _ _ => rfl)) (pa_cons (pe_ix ix_tup (pv 4) pe_int (fun _ _ => rfl)) pa_nil)))))
    (pss_cons (ps_set (i := 6) scRight.nd rfl (.inl rfl) (pe_lst (pa_cons (pe_fn Xs hr rfl (pa_cons (pv 4) pa_nil)) (pa_cons (pe_callK0 Xs.ok hr rfl Xs.g Xs.k kX pass0 (pk_cons (pe_fn L hr rfl (pa_cons (pv 4) pa_nil)) pk_nil)) (pa_cons (pe_fn Xs hr rfl (pa_cons (pv 7) pa_nil)) pa_nil)))))
    (pss_cons (ps_if (pt_not (pt_val (pe_fn S hr rfl (pa_cons (pv 6) (pa_cons (pe_lst (pa_cons (pv 7) (pa_cons (pv 7) (pa_cons (pv 4) pa_nil)))) pa_nil))))) (pss_one (ps_ret pe_bl)) pss_nil)
    (pss_cons (ps_set (i := 7) scRight.nd rfl (.inl rfl) (pe_fn B hr rfl (pa_cons (pv 1) (pa_cons (pv 2) pa_nil))))
    (pss_cons (ps_if (pt_not (pt_val (pe_fn S hr rfl (pa_cons (pe_lst (pa_cons (pe_fn T hr rfl (pa_cons (pv 1) (pa_cons (pv 2) pa_nil))) (pa_cons (pe_callK0 T.ok hr rfl T.g T.k kT pass0 (pk_cons (pe_fn L hr rfl (pa_cons (pv 2) pa_nil)) (pk_cons (pe_fn L hr rfl (pa_cons (pv 1) pa_nil)) pk_nil))) pa_nil))) (pa_cons (pe_lst (pa_cons (pv 7) (pa_cons (pv 7) pa_nil))) pa_nil))))) (pss_one (ps_ret pe_bl)) pss_nil)
    (pss_cons (ps_if (pt_not (pt_val (pe_fn S hr rfl (pa_cons (pe_fn T hr rfl (pa_cons (pe_fn T hr rfl (pa_cons (pv 1) (pa_cons (pv 2) pa_nil))) (pa_cons (pv 3) pa_nil))) (pa_cons (pe_fn T hr rfl (pa_cons (pv 1) (pa_cons (pe_fn T hr rfl (pa_cons (pv 2) (pa_cons (pv 3) pa_nil))) pa_nil))) pa_nil))))) (pss_one (ps_ret pe_bl)) pss_nil)
    (pss_one (ps_ret (pe_cmpR op_eq (pe_rep hG hr rfl mp boot_repr' (pe_lst (pa_cons (pv 1) (pa_cons (pv 2) (pa_cons (pv 4) pa_nil))))) (pv 5) (nomark _)))))))))))))), ?_⟩
  have wid : ∀ {c : Cn}, okCn 4 5 c → okCn 100 100 c := fun o => ⟨o.r1, by have := o.r2; omega, o.b1, by have := o.b2; omega, by have := o.n; omega, o.l⟩
  refine ⟨3, rfl, by decide, by decide, lc_map walk_range (Dr b) (fun a b => a.trans b) (fun i y F => Bx F b ∧ ∃ c, okCn 4 5 c ∧ Dp K F y (cnD c)) (fun i y A B d ⟨hA, c, o, p⟩ => ⟨d.box, c, o, Dp.tp (d.tp hA) _ (noL_cn c) p⟩) (by decide) (Dr.refl hb) (fun _ _ _ _ _ => trivial) (fun i x D acc F H' hi nD dF nF hy B hB => ?_) (fun D ys F nD dF nF hl hR => ?_)⟩
  · obtain ⟨rfl, rfl⟩ := hy
    refine hB _ F rfl nF fun Qt hq => ?_
    exact ⟨_, rfl, b, 4, 5, rfl, dF.box, by decide, by decide, by decide, fun c v F' o d p => hq _ _ d ⟨d.box, c, o, p⟩⟩
  have hys : ∃ v1 v2 v3 c1 c2 c3, ys = [v1, v2, v3] ∧ okCn 4 5 c1 ∧ okCn 4 5 c2 ∧ okCn 4 5 c3 ∧ Dp K F v1 (cnD c1) ∧ Dp K F v2 (cnD c2) ∧ Dp K F v3 (cnD c3) := by
    match ys, hl with
    | [y1, y2, y3], _ =>
      obtain ⟨_, c1, o1, p1⟩ := hR 0 _ rfl
      obtain ⟨_, c2, o2, p2⟩ := hR 1 _ rfl
      obtain ⟨_, c3, o3, p3⟩ := hR 2 _ rfl
      exact ⟨y1, y2, y3, c1, c2, c3, rfl, o1, o2, o3, p1, p2, p3⟩
  obtain ⟨v1, v2, v3, c1, c2, c3, rfl, o1, o2, o3, p1, p2, p3⟩ := hys
  have sD : Same F (upd F D (.lst [v1, v2, v3])) := same_new nF
  have d1 : Dr b H (upd F D (.lst [v1, v2, v3])) := dF.trans (Dr.new dF.box nF)
  refine ⟨D, _, rfl, SqL.of upd_same, rfl, _, _, rfl, _, _, rfl, _, _, rfl, rfl, ?_⟩
  refine at_s (σ' := [some (.ref b), some v1, some v2, some v3, none, none, none, none, none]) rfl ?_
  refine ⟨_, rfl, _, rfl, b, v1, c1, 9, rfl, d1.box, Dp.same sD _ p1, wid o1, by decide, by decide, fun sn vl H2 oks d2 hs => ?_⟩
  refine at_s (σ' := [some (.ref b), some v1, some v2, some v3, some vl, none, none, none, none]) rfl ?_
  have tp2 := (Tp.of sD).trans (Dr.tp d1.box d2)
  replace p1 := Dp.tp tp2 _ (noL_cn c1) p1
  replace p2 := Dp.tp tp2 _ (noL_cn c2) p2
  replace p3 := Dp.tp tp2 _ (noL_cn c3) p3
  have d12 := d1.trans d2
  have n1 : c1.ls.length ≤ 5 := o1.n
  have n2 : c2.ls.length ≤ 5 := o2.n
  have n3 : c3.ls.length ≤ 5 := o3.n
  have hrs : sn.rs.length ≤ 100 := by have h1 := oks.r; have h2 := o1.r2; omega
  have hbs : sn.bs.length ≤ 100 := by have h1 := oks.b; have h2 := o1.b2; omega
  have hls : sn.ls.length ≤ 100 := by have h1 := oks.n; omega
  have shs : Shw (snD sn) 2 12700 := by
    have e1 := shw_ints (zs := sn.rs) (m := 100) (fun z hz => by have := oks.r0 z hz; omega) hrs
    have e2 := shw_ints (zs := sn.bs) (m := 100) (fun z hz => by have := oks.b0 z hz; omega) hbs
    have e3 := shw_ints (zs := sn.ls) (m := 100) (fun z hz => by rcases oks.l0 z hz with h | h <;> rw [h] <;> decide) hls
    exact ((ShwA.cons e1 (.cons e2 (.cons e3 (ShwA.nil (w := 0))))).mono (Nat.le_refl _) (by omega)).tup
  have sh : Shw (.list [cnD c1, cnD c2, snD sn]) 4 60000 := ((ShwA.cons (shw_cn (wid o1)) (.cons (shw_cn (wid o2)) (.cons (shs.mono (by omega) (Nat.le_refl _)) (ShwA.nil (w := 0))))).mono (Nat.le_refl _) (by omega)).lst
  have rep : ∀ (H3 : Hp) (l : Addr), Same H2 H3 → H3 l = none → Dp K (upd H3 l (.lst [v1, v2, vl])) (.ref l) (.list [cnD c1, cnD c2, snD sn]) := fun H3 l s nl =>
    .lst (SqL.of upd_same) (.cons (Dp.same (s.trans (same_new nl)) _ p1) (.cons (Dp.same (s.trans (same_new nl)) _ p2) (.cons (Dp.same (s.trans (same_new nl)) _ hs) .nil)))
  -- kept = repr(..)
  refine ⟨_, rfl, _, rfl, _, rfl, (by show 3 ≤ sizeLine; decide), fun l1 nl1 => ?_⟩
  refine ⟨l1, _, rfl, rep H2 l1 (Same.refl _) nl1, sh.s, sh.h, by have := sh.d; omega, sh.fits (by decide), ?_⟩
  refine at_s (σ' := [some (.ref b), some v1, some v2, some v3, some vl, some (.str (PyData.shown (.list [cnD c1, cnD c2, snD sn]))), none, none, none]) rfl ?_
  generalize hsh : PyData.shown (.list [cnD c1, cnD c2, snD sn]) = txt
  have S1 : Same H2 (upd H2 l1 (.lst [v1, v2, vl])) := same_new nl1
  generalize upd H2 l1 (.lst [v1, v2, vl]) = G1 at S1
  -- told = [exchanged ..]
  refine ⟨_, rfl, v1, c1, rfl, cnAny_t (Dp.same S1 _ p1), by omega, fun e1 G2 s2 q1 => ?_⟩
  have S2 := S1.trans s2
  refine ⟨_, rfl, v1, cnD c1, rfl, Dp.same S2 _ p1, okD_cn 3 (by omega), fun e2 G3 s3 q2 => ?_⟩
  have S3 := S2.trans s3
  refine ⟨e2, c1, rfl, cnAny_l q2, by omega, fun e3 G4 s4 q3 => ?_⟩
  have S4 := S3.trans s4
  refine ⟨_, rfl, v1, c1, rfl, cnAny_t (Dp.same S4 _ p1), by omega, fun e4 G5 s5 q4 => ?_⟩
  have S5 := S4.trans s5
  refine ⟨e4, exC c1, rfl, cnAny_t q4, by rw [ex_len]; omega, fun e5 G6 s6 q5 => ?_⟩
  have S6 := S5.trans s6
  rw [ex_ex] at q5
  refine ⟨(by show 3 ≤ sizeLine; decide), fun tl ntl => ?_⟩
  have s7 : Same G6 (upd G6 tl (.lst [e1, e3, e5])) := same_new ntl
  have ht : Dp K (upd G6 tl (.lst [e1, e3, e5])) (.ref tl) (.list [cnD (exC c1), cnD (exC c1), cnD c1]) :=
    .lst (SqL.of upd_same) (.cons (Dp.same (s3.trans (s4.trans (s5.trans (s6.trans s7)))) _ q1) (.cons (Dp.same (s5.trans (s6.trans s7)) _ q3) (.cons (Dp.same s7 _ q5) .nil)))
  have S7 := S6.trans s7
  generalize upd G6 tl (.lst [e1, e3, e5]) = G7 at s7 ht S7
  refine at_g (σ' := [some (.ref b), some v1, some v2, some v3, some vl, some (.str txt), some (.ref tl), none, none]) rfl ?_
  -- if not same(told, [crossed, crossed, mine])
  refine ⟨_, rfl, _, rfl, v1, c1, rfl, Dp.same S7 _ p1, by omega, fun x1 G8 s8 r1 => ?_⟩
  have S8 := S7.trans s8
  refine ⟨_, rfl, v1, c1, rfl, Dp.same S8 _ p1, by omega, fun x2 G9 s9 r2 => ?_⟩
  have S9 := S8.trans s9
  refine ⟨_, rfl, (by show 3 ≤ sizeLine; decide), fun dl ndl => ?_⟩
  have s10 : Same G9 (upd G9 dl (.lst [x1, x2, v1])) := same_new ndl
  have hdl : Dp K (upd G9 dl (.lst [x1, x2, v1])) (.ref dl) (.list [cnD (exC c1), cnD (exC c1), cnD c1]) :=
    .lst (SqL.of upd_same) (.cons (Dp.same (s9.trans s10) _ r1) (.cons (Dp.same s10 _ r2) (.cons (Dp.same (S9.trans s10) _ p1) .nil)))
  refine ⟨.ref tl, .ref dl, _, rfl, Dp.same (s8.trans (s9.trans s10)) _ ht, hdl, ⟨by show 3 ≤ 1000; decide, fun d hd => ?_⟩, fun G10 s11 => ⟨true, rfl, iteF ?_⟩⟩
  · simp only [List.mem_cons, List.not_mem_nil, or_false] at hd
    rcases hd with rfl | rfl | rfl
    · exact okD_cn 2 (by rw [ex_len]; omega)
    · exact okD_cn 2 (by rw [ex_len]; omega)
    · exact okD_cn 2 (by omega)
  have S10 := S9.trans (s10.trans s11)
  clear ht hdl s7 s8 s9 s10 s11 q1 q2 q3 q4 q5 r1 r2
  -- due = (lying[1], lying[0], lying[2])
  obtain ⟨la, lr, lb, ll, rfl, hla, hlr, hlb, hll⟩ := sn_of hs
  refine ⟨_, rfl, la, _, _, _, rfl, rfl, Same.tup S10 hla, rfl, _, rfl, la, _, _, _, rfl, rfl, Same.tup S10 hla, rfl, _, rfl, la, _, _, _, rfl, rfl, Same.tup S10 hla, rfl, (by show 3 ≤ sizeLine; decide), fun du ndu => ?_⟩
  have s12 : Same G10 (upd G10 du (.tup [lb, lr, ll])) := same_new ndu
  have S12 := S10.trans s12
  have hdu : Dp K (upd G10 du (.tup [lb, lr, ll])) (.ref du) (snD (exS sn)) := .tup (.inl (.inl upd_same)) (.cons (Dp.same S12 _ hlb) (.cons (Dp.same S12 _ hlr) (.cons (Dp.same S12 _ hll) .nil)))
  generalize upd G10 du (.tup [lb, lr, ll]) = G12 at s12 S12 hdu
  refine at_g (σ' := [some (.ref b), some v1, some v2, some v3, some (.ref la), some (.str txt), some (.ref tl), some (.ref du), none]) rfl ?_
  -- told = [exchanged_standing ..]
  refine ⟨_, rfl, .ref la, snD sn, sn, rfl, Dp.same S12 _ hs, okD_sn 3 (by omega) (by omega) (by omega), tup_sn sn, fun e1 G13 s13 q1 => ?_⟩
  have S13 := S12.trans s13
  refine ⟨_, rfl, .ref la, snD sn, rfl, Dp.same S13 _ hs, okD_sn 4 (by omega) (by omega) (by omega), fun e2 G14 s14 q2 => ?_⟩
  have S14 := S13.trans s14
  refine ⟨e2, lstD (snD sn), sn, rfl, q2, okD_lst _ _ (okD_sn 3 (by omega) (by omega) (by omega)), tup_lst_sn sn, fun e3 G15 s15 q3 => ?_⟩
  have S15 := S14.trans s15
  refine ⟨_, rfl, .ref du, snD (exS sn), exS sn, rfl, Dp.same (s13.trans (s14.trans s15)) _ hdu, okD_sn 3 (Nat.le_trans hbs (by decide)) (Nat.le_trans hrs (by decide)) (Nat.le_trans hls (by decide)), tup_sn (exS sn), fun e4 G16 s16 q4 => ?_⟩
  have S16 := S15.trans s16
  rw [exS_exS] at q4
  refine ⟨(by show 3 ≤ sizeLine; decide), fun tl2 ntl2 => ?_⟩
  have s17 : Same G16 (upd G16 tl2 (.lst [e1, e3, e4])) := same_new ntl2
  have ht : Dp K (upd G16 tl2 (.lst [e1, e3, e4])) (.ref tl2) (.list [snD (exS sn), snD (exS sn), snD sn]) :=
    .lst (SqL.of upd_same) (.cons (Dp.same (s14.trans (s15.trans (s16.trans s17))) _ q1) (.cons (Dp.same (s16.trans s17) _ q3) (.cons (Dp.same s17 _ q4) .nil)))
  have S17 := S16.trans s17
  have hdu2 := Dp.same (s13.trans (s14.trans (s15.trans (s16.trans s17)))) _ hdu
  generalize upd G16 tl2 (.lst [e1, e3, e4]) = G17 at s17 ht S17 hdu2
  refine at_g (σ' := [some (.ref b), some v1, some v2, some v3, some (.ref la), some (.str txt), some (.ref tl2), some (.ref du), none]) rfl ?_
  refine ⟨_, rfl, _, rfl, _, rfl, _, rfl, (by show 3 ≤ sizeLine; decide), fun dl2 ndl2 => ?_⟩
  have s18 : Same G17 (upd G17 dl2 (.lst [.ref du, .ref du, .ref la])) := same_new ndl2
  have hdl : Dp K (upd G17 dl2 (.lst [.ref du, .ref du, .ref la])) (.ref dl2) (.list [snD (exS sn), snD (exS sn), snD sn]) :=
    .lst (SqL.of upd_same) (.cons (Dp.same s18 _ hdu2) (.cons (Dp.same s18 _ hdu2) (.cons (Dp.same (S17.trans s18) _ hs) .nil)))
  refine ⟨.ref tl2, .ref dl2, _, rfl, Dp.same s18 _ ht, hdl, ⟨by show 3 ≤ 1000; decide, fun d hd => ?_⟩, fun G18 s19 => ⟨true, rfl, iteF ?_⟩⟩
  · simp only [List.mem_cons, List.not_mem_nil, or_false] at hd
    rcases hd with rfl | rfl | rfl
    · exact okD_sn 3 (Nat.le_trans hbs (by decide)) (Nat.le_trans hrs (by decide)) (Nat.le_trans hls (by decide))
    · exact okD_sn 3 (Nat.le_trans hbs (by decide)) (Nat.le_trans hrs (by decide)) (Nat.le_trans hls (by decide))
    · exact okD_sn 3 (by omega) (by omega) (by omega)
  have S18 := S17.trans (s18.trans s19)
  clear ht hdl s12 s13 s14 s15 s16 s17 s18 s19 q1 q2 q3 q4 hdu hdu2
  -- due = beside(mine, yours)
  refine ⟨_, rfl, _, rfl, v1, v2, c1, c2, rfl, Dp.same S18 _ p1, Dp.same S18 _ p2, by omega, by omega, fun du2 G20 s20 hdu => ?_⟩
  have S20 := S18.trans s20
  refine at_g (σ' := [some (.ref b), some v1, some v2, some v3, some (.ref la), some (.str txt), some (.ref tl2), some du2, none]) rfl ?_
  refine ⟨_, rfl, _, rfl, v1, v2, cnD c1, c1, c2, rfl, Dp.same S20 _ p1, okD_cn 2 (by omega), tup_cn c1, cnAny_t (Dp.same S20 _ p2), by omega, by omega, fun e1 G21 s21 q1 => ?_⟩
  have S21 := S20.trans s21
  refine ⟨_, rfl, v2, cnD c2, rfl, Dp.same S21 _ p2, okD_cn 3 (by omega), fun e2 G22 s22 q2 => ?_⟩
  have S22 := S21.trans s22
  refine ⟨_, rfl, v1, cnD c1, rfl, Dp.same S22 _ p1, okD_cn 3 (by omega), fun e3 G23 s23 q3 => ?_⟩
  have S23 := S22.trans s23
  refine ⟨e3, e2, lstD (cnD c1), c1, c2, rfl, q3, okD_lst _ _ (okD_cn 2 (by omega)), tup_lst_cn c1, (cnAny_l q2).same s23, by omega, by omega, fun e4 G24 s24 q4 => ?_⟩
  have S24 := S23.trans s24
  refine ⟨(by show 2 ≤ sizeLine; decide), fun tl3 ntl3 => ?_⟩
  have s25 : Same G24 (upd G24 tl3 (.lst [e1, e4])) := same_new ntl3
  have ht : Dp K (upd G24 tl3 (.lst [e1, e4])) (.ref tl3) (.list [cnD (togC c1 c2), cnD (togC c1 c2)]) := .lst (SqL.of upd_same) (.cons (Dp.same (s22.trans (s23.trans (s24.trans s25))) _ q1) (.cons (Dp.same s25 _ q4) .nil))
  have hdu2 := Dp.same (s21.trans (s22.trans (s23.trans (s24.trans s25)))) _ hdu
  have S25 := S24.trans s25
  generalize upd G24 tl3 (.lst [e1, e4]) = G25 at s25 ht hdu2 S25
  refine ⟨_, rfl, _, rfl, (by show 2 ≤ sizeLine; decide), fun dl3 ndl3 => ?_⟩
  have s26 : Same G25 (upd G25 dl3 (.lst [du2, du2])) := same_new ndl3
  refine ⟨.ref tl3, .ref dl3, _, rfl, Dp.same s26 _ ht, .lst (SqL.of upd_same) (.cons (Dp.same s26 _ hdu2) (.cons (Dp.same s26 _ hdu2) .nil)), ⟨by show 2 ≤ 1000; decide, fun d hd => ?_⟩, fun G26 s27 => ⟨true, rfl, iteF ?_⟩⟩
  · simp only [List.mem_cons, List.not_mem_nil, or_false] at hd
    rcases hd with rfl | rfl
    · exact okD_cn 2 (by rw [tog_len]; omega)
    · exact okD_cn 2 (by rw [tog_len]; omega)
  have S26 := S25.trans (s26.trans s27)
  clear ht hdu2 s20 s21 s22 s23 s24 s25 s26 s27 q1 q2 q3 q4
  -- three either way about
  refine ⟨_, rfl, _, rfl, v1, v2, cnD c1, c1, c2, rfl, Dp.same S26 _ p1, okD_cn 2 (by omega), tup_cn c1, cnAny_t (Dp.same S26 _ p2), by omega, by omega, fun e1 G27 s27 q1 => ?_⟩
  have S27 := S26.trans s27
  refine ⟨_, rfl, e1, v3, cnD (togC c1 c2), togC c1 c2, c3, rfl, q1, okD_cn 2 (by rw [tog_len]; omega), tup_cn _, cnAny_t (Dp.same S27 _ p3), by rw [tog_len]; omega, by omega, fun e2 G28 s28 q2 => ?_⟩
  have S28 := S27.trans s28
  refine ⟨_, rfl, _, rfl, _, rfl, v2, v3, cnD c2, c2, c3, rfl, Dp.same S28 _ p2, okD_cn 2 (by omega), tup_cn c2, cnAny_t (Dp.same S28 _ p3), by omega, by omega, fun e3 G29 s29 q3 => ?_⟩
  have S29 := S28.trans s29
  refine ⟨v1, e3, cnD c1, c1, togC c2 c3, rfl, Dp.same S29 _ p1, okD_cn 2 (by omega), tup_cn c1, cnAny_t q3, by omega, by rw [tog_len]; omega, fun e4 G30 s30 q4 => ?_⟩
  have S30 := S29.trans s30
  rw [← tog_assoc] at q4
  refine ⟨e2, e4, _, rfl, Dp.same (s29.trans s30) _ q2, q4, okD_cn 3 (by rw [tog_len, tog_len]; omega), fun G31 s31 => ⟨true, rfl, iteF ?_⟩⟩
  have S31 := S30.trans s31
  -- return repr(..) == kept
  refine ⟨_, rfl, _, rfl, _, rfl, (by show 3 ≤ sizeLine; decide), fun l2 nl2 => ?_⟩
  refine ⟨l2, _, rfl, rep G31 l2 S31 nl2, sh.s, sh.h, by have := sh.d; omega, sh.fits (by decide), _, rfl, rfl, ?_⟩
  rw [hsh]
  have e : decide (V.str txt = V.str txt) = true := decide_eq_true rfl
  have fin := q (upd G31 l2 (.lst [v1, v2, .ref la])) (d12.trans (Dr.of d12.box (S31.trans (same_new nl2))))
  rw [← e] at fin
  exact fin
end
end XL
namespace XL
open PySem PySem.Spec PyProof.Rows L2
abbrev sLaw : Stmt := topS 18
section
variable {P : Program} {w : World} {K : PySem.W.Frag} {mg : Str → Option Value} {base : Heap}
abbrev nLaw : List Str := ["_law_script", "_law_cells_here", "_law_k", "_law_box_here", "_law_turn"]
theorem scLaw : FnScope nLaw ["_law_script"] (defScope sLaw) := ⟨rfl, rfl, rfl, by decide +kernel, rfl, by decide +kernel, by decide +kernel⟩
def spLaw (K : PySem.W.Frag) : Sp := fun vs H Q _ => ∃ (a : Addr) (ns : List Int), vs = [.ref a] ∧ SqL K H a (ns.map V.int) ∧ ns.length ≤ 63 ∧ ∀ H', Q (.bl true) H'
theorem ok_law {f fc fx fr : Addr} {fd fdc fdx fdr : FuncData} (F : Fun K "law" "law" sLaw f fd)
    (C : Fns P w K mg base 7 "_law_cells" ["_law_script", "_law_utmost"] (spCells K) fc fdc) (B : Fns P w K mg base 7 "_law_box" ["_law_cells_here", "_law_k"] (spBox K) fx fdx)
    (R : FnG P w K mg base 8 fr fdr ["_law_box_here"] spRight) (gR : mg "_law_right" = some (.ref fr)) (kR : PySem.W.keepIn K (.ref fr) = true) (bR : Binds K fdr ["_law_box_here"] []) (me : mg "len" = none) (ma : mg "all" = none) (mr : mg "range" = none) :
    FnG P w K mg base 9 f fd ["_law_script"] (spLaw K) := by
  refine okG F scLaw (fun vs H Q E h => ?_) (fun cdv A outer s H vs Q E hG hr h => ?_)
  · obtain ⟨a, ns, rfl, _⟩ := h
    rfl
  obtain ⟨a, ns, rfl, ha, hn, q⟩ := h
  have hr7 : Room 7 _ := hr.mono (Nat.le_succ _)
  refine ⟨_, pss_cons (ps_set (i := 1) scLaw.nd rfl (.inl rfl) (pe_fn C hr7 rfl (pa_cons (pv 0) (pa_cons pe_int pa_nil))))
    (pss_cons (ps_for PassesOwn.never rfl (pi_range1 rfl mr (pa_cons (pe_callB call_len_seq rfl me PySem.boot_len (pa_cons (pv 1) pa_nil)) pa_nil)) (pg_name (i := 2) scLaw.nd rfl (.inl rfl))
      (pss_cons (ps_set (i := 3) scLaw.nd rfl (.inr rfl) (pe_fn B hr7 rfl (pa_cons (pv 1) (pa_cons (pv 2) pa_nil))))
      (pss_one (ps_if (pt_not (pt_val (pe_callB (cr_all rfl) rfl ma boot_all (pa_cons (pe_lc (own := [("_law_turn", 4)]) (g := gName 4) (tt := tYes) rfl scLaw.nd (pi_range1 rfl mr (pa_cons pe_int pa_nil)) (blkOk_by (own := [("_law_turn", 4)]) (N := nLaw) (sc := defScope sLaw) (by decide +kernel))
        (fun _ _ _ _ _ => pg_name (i := 4) scLaw.nd rfl (Or.inl rfl)) (fun _ _ _ _ _ => pts_nil) (fun _ _ _ _ _ => pe_hide (pe_callG hG R hr rfl gR kR bR (pa_cons (pv 3) pa_nil)))) pa_nil)))) (pss_one (ps_ret pe_bl)) pss_nil))))
    (pss_one (ps_ret pe_bl))), ?_⟩
  refine ⟨_, rfl, a, ns, 3, rfl, ha, hn, by decide, by decide, fun p zs H1 s1 np ep z1 z2 => ?_⟩
  refine ⟨_, rfl, p, _, rfl, .inl (SqL.of ep), _, rfl, by rw [List.length_map]; omega, by rw [List.length_map]; omega, for_it walk_range (fun i σ H3 => ∃ y2 y3 y4, σ = [some (.ref a), some (.ref p), y2, y3, y4] ∧ H3 p = some (.lst (zs.map V.int))) ⟨none, none, none, rfl, ep⟩ (fun _ _ _ _ _ => trivial) (fun i x σ H3 H4 hi h hy => ?_) (fun σ H3 h => ?_)⟩
  · obtain ⟨y2, y3, y4, rfl, ep3⟩ := h
    obtain ⟨rfl, rfl⟩ := hy
    have hi' : i < zs.length := by rw [List.length_map] at hi; omega
    refine ⟨_, rfl, _, rfl, p, zs, i, by show [V.ref p, V.int (0 + (i : Int))] = _; rw [Int.zero_add], SqL.of ep3, hi', fun b x y nb => ?_⟩
    have hpb : p ≠ b := ne_of_none ep3 nb
    refine at_g (σ' := [some (.ref a), some (.ref p), some (.int (0 + i)), some (.ref b), y4]) rfl ?_
    have bx : Bx (upd H4 b (.lst [.int x, .int y, .int 0])) b := ⟨x, y, 0, upd_same⟩
    refine ⟨3, rfl, by decide, by decide, lc_map walk_range (Dr b) (fun a b => a.trans b) (fun i y F => y = .bl true) (fun i y A B _ p => p) (by decide) (Dr.refl bx) (fun _ _ _ _ _ => trivial) (fun j x D acc F H' hj nD dF nF hy B hB => ?_) (fun D ys F nD dF nF hl hR => ?_)⟩
    · obtain ⟨rfl, rfl⟩ := hy
      refine hB _ F rfl nF fun Qt hq => ?_
      exact ⟨_, rfl, b, rfl, dF.box, fun F' d => hq _ _ d rfl⟩
    · refine ⟨D, List.replicate ys.length true, rfl, ?_, ?_⟩
      · rw [← eq_true_map ys hR]; exact SqL.of upd_same
      · rw [all_true]
        refine ⟨true, rfl, iteF ⟨_, _, _, rfl, ?_⟩⟩
        have e3 : F p = some (.lst (zs.map V.int)) := dF.same p _ hpb (by rw [upd_ne hpb]; exact ep3)
        rw [upd_ne (ne_of_none e3 nF)]; exact e3
  · exact q H3
end
theorem all_mk {l : PySem.W.OpenLaw} {w : World} {K : PySem.W.Frag} {h : Heap} {mg : Str → Option Value} {fa f1 f2 f3 f4 f5 f6 f7 f8 f9 f10 f11 f12 f13 f14 f15 f16 : Addr} (X : K.In h) (G : h.Ns mainGlobals mg) (hfa : mg "law" = some (.ref fa))
    {od1 an1 : Option Addr} {sl1 : Array (Option Value)} {oc1 kV1 dc1 pm1 cd1 ct1 : Value}
    {od2 an2 : Option Addr} {sl2 : Array (Option Value)} {oc2 kV2 dc2 pm2 cd2 ct2 : Value}
    {od3 an3 : Option Addr} {sl3 : Array (Option Value)} {oc3 kV3 dc3 pm3 cd3 ct3 : Value}
    {od4 an4 : Option Addr} {sl4 : Array (Option Value)} {oc4 kV4 dc4 pm4 cd4 ct4 : Value}
    {od5 an5 : Option Addr} {sl5 : Array (Option Value)} {oc5 kV5 dc5 pm5 cd5 ct5 : Value}
    {od6 an6 : Option Addr} {sl6 : Array (Option Value)} {oc6 kV6 dc6 pm6 cd6 ct6 : Value}
    {od7 an7 : Option Addr} {sl7 : Array (Option Value)} {oc7 kV7 dc7 pm7 cd7 ct7 : Value}
    {od8 an8 : Option Addr} {sl8 : Array (Option Value)} {oc8 kV8 dc8 pm8 cd8 ct8 : Value}
    {od9 an9 : Option Addr} {sl9 : Array (Option Value)} {oc9 kV9 dc9 pm9 cd9 ct9 : Value}
    {od10 an10 : Option Addr} {sl10 : Array (Option Value)} {oc10 kV10 dc10 pm10 cd10 ct10 : Value}
    {od11 an11 : Option Addr} {sl11 : Array (Option Value)} {oc11 kV11 dc11 pm11 cd11 ct11 : Value}
    {od12 an12 : Option Addr} {sl12 : Array (Option Value)} {oc12 kV12 dc12 pm12 cd12 ct12 : Value}
    {od13 an13 : Option Addr} {sl13 : Array (Option Value)} {oc13 kV13 dc13 pm13 cd13 ct13 : Value}
    {od14 an14 : Option Addr} {sl14 : Array (Option Value)} {oc14 kV14 dc14 pm14 cd14 ct14 : Value}
    {od15 an15 : Option Addr} {sl15 : Array (Option Value)} {oc15 kV15 dc15 pm15 cd15 ct15 : Value}
    {od16 an16 : Option Addr} {sl16 : Array (Option Value)} {oc16 kV16 dc16 pm16 cd16 ct16 : Value}
    (a1 : PySem.W.nsIn K mainGlobals "tupled" = some (some (.ref f1))) (l1 : K.lookup f1 = some ⟨oc1, od1, .func (PySem.W.fnOf "tupled" "tupled" (defArgs sTupled) (defBody sTupled) (defScope sTupled) .none kV1 dc1 pm1 an1 cd1 ct1), sl1⟩) (c1 : PySem.W.codeIn K cd1 "tupled" = true) (k1 : PySem.W.keepIn K (.ref f1) = true)
    (a2 : PySem.W.nsIn K mainGlobals "exchanged" = some (some (.ref f2))) (l2 : K.lookup f2 = some ⟨oc2, od2, .func (PySem.W.fnOf "exchanged" "exchanged" (defArgs sEx) (defBody sEx) (defScope sEx) .none kV2 dc2 pm2 an2 cd2 ct2), sl2⟩) (c2 : PySem.W.codeIn K cd2 "exchanged" = true) (k2 : PySem.W.keepIn K (.ref f2) = true)
    (a3 : PySem.W.nsIn K mainGlobals "exchanged_standing" = some (some (.ref f3))) (l3 : K.lookup f3 = some ⟨oc3, od3, .func (PySem.W.fnOf "exchanged_standing" "exchanged_standing" (defArgs sExS) (defBody sExS) (defScope sExS) .none kV3 dc3 pm3 an3 cd3 ct3), sl3⟩) (c3 : PySem.W.codeIn K cd3 "exchanged_standing" = true) (k3 : PySem.W.keepIn K (.ref f3) = true)
    (a4 : PySem.W.nsIn K mainGlobals "together" = some (some (.ref f4))) (l4 : K.lookup f4 = some ⟨oc4, od4, .func (PySem.W.fnOf "together" "together" (defArgs sTog) (defBody sTog) (defScope sTog) .none kV4 dc4 pm4 an4 cd4 ct4), sl4⟩) (c4 : PySem.W.codeIn K cd4 "together" = true) (k4 : PySem.W.keepIn K (.ref f4) = true)
    (a5 : PySem.W.nsIn K mainGlobals "_law_take" = some (some (.ref f5))) (l5 : K.lookup f5 = some ⟨oc5, od5, .func (PySem.W.fnOf "_law_take" "_law_take" (defArgs sTake) (defBody sTake) (defScope sTake) .none kV5 dc5 pm5 an5 cd5 ct5), sl5⟩) (c5 : PySem.W.codeIn K cd5 "_law_take" = true) (k5 : PySem.W.keepIn K (.ref f5) = true)
    (a6 : PySem.W.nsIn K mainGlobals "_law_of" = some (some (.ref f6))) (l6 : K.lookup f6 = some ⟨oc6, od6, .func (PySem.W.fnOf "_law_of" "_law_of" (defArgs sOf) (defBody sOf) (defScope sOf) .none kV6 dc6 pm6 an6 cd6 ct6), sl6⟩) (c6 : PySem.W.codeIn K cd6 "_law_of" = true) (k6 : PySem.W.keepIn K (.ref f6) = true)
    (a7 : PySem.W.nsIn K mainGlobals "_law_canal" = some (some (.ref f7))) (l7 : K.lookup f7 = some ⟨oc7, od7, .func (PySem.W.fnOf "_law_canal" "_law_canal" (defArgs sCanal) (defBody sCanal) (defScope sCanal) .none kV7 dc7 pm7 an7 cd7 ct7), sl7⟩) (c7 : PySem.W.codeIn K cd7 "_law_canal" = true) (k7 : PySem.W.keepIn K (.ref f7) = true)
    (a8 : PySem.W.nsIn K mainGlobals "_law_lying" = some (some (.ref f8))) (l8 : K.lookup f8 = some ⟨oc8, od8, .func (PySem.W.fnOf "_law_lying" "_law_lying" (defArgs sLying) (defBody sLying) (defScope sLying) .none kV8 dc8 pm8 an8 cd8 ct8), sl8⟩) (c8 : PySem.W.codeIn K cd8 "_law_lying" = true) (k8 : PySem.W.keepIn K (.ref f8) = true)
    (a9 : PySem.W.nsIn K mainGlobals "_law_lists" = some (some (.ref f9))) (l9 : K.lookup f9 = some ⟨oc9, od9, .func (PySem.W.fnOf "_law_lists" "_law_lists" (defArgs sLists) (defBody sLists) (defScope sLists) .none kV9 dc9 pm9 an9 cd9 ct9), sl9⟩) (c9 : PySem.W.codeIn K cd9 "_law_lists" = true) (k9 : PySem.W.keepIn K (.ref f9) = true)
    (a10 : PySem.W.nsIn K mainGlobals "_law_same" = some (some (.ref f10))) (l10 : K.lookup f10 = some ⟨oc10, od10, .func (PySem.W.fnOf "_law_same" "_law_same" (defArgs sSame) (defBody sSame) (defScope sSame) .none kV10 dc10 pm10 an10 cd10 ct10), sl10⟩) (c10 : PySem.W.codeIn K cd10 "_law_same" = true) (k10 : PySem.W.keepIn K (.ref f10) = true)
    (a11 : PySem.W.nsIn K mainGlobals "_law_cells" = some (some (.ref f11))) (l11 : K.lookup f11 = some ⟨oc11, od11, .func (PySem.W.fnOf "_law_cells" "_law_cells" (defArgs sCells) (defBody sCells) (defScope sCells) .none kV11 dc11 pm11 an11 cd11 ct11), sl11⟩) (c11 : PySem.W.codeIn K cd11 "_law_cells" = true) (k11 : PySem.W.keepIn K (.ref f11) = true)
    (a12 : PySem.W.nsIn K mainGlobals "_law_box" = some (some (.ref f12))) (l12 : K.lookup f12 = some ⟨oc12, od12, .func (PySem.W.fnOf "_law_box" "_law_box" (defArgs sBox) (defBody sBox) (defScope sBox) .none kV12 dc12 pm12 an12 cd12 ct12), sl12⟩) (c12 : PySem.W.codeIn K cd12 "_law_box" = true) (k12 : PySem.W.keepIn K (.ref f12) = true)
    (a13 : PySem.W.nsIn K mainGlobals "_law_crossed" = some (some (.ref f13))) (l13 : K.lookup f13 = some ⟨oc13, od13, .func (PySem.W.fnOf "_law_crossed" "_law_crossed" (defArgs sCross) (defBody sCross) (defScope sCross) .none kV13 dc13 pm13 an13 cd13 ct13), sl13⟩) (c13 : PySem.W.codeIn K cd13 "_law_crossed" = true) (k13 : PySem.W.keepIn K (.ref f13) = true)
    (a14 : PySem.W.nsIn K mainGlobals "_law_beside" = some (some (.ref f14))) (l14 : K.lookup f14 = some ⟨oc14, od14, .func (PySem.W.fnOf "_law_beside" "_law_beside" (defArgs sBeside) (defBody sBeside) (defScope sBeside) .none kV14 dc14 pm14 an14 cd14 ct14), sl14⟩) (c14 : PySem.W.codeIn K cd14 "_law_beside" = true) (k14 : PySem.W.keepIn K (.ref f14) = true)
    (a15 : PySem.W.nsIn K mainGlobals "_law_right" = some (some (.ref f15))) (l15 : K.lookup f15 = some ⟨oc15, od15, .func (PySem.W.fnOf "_law_right" "_law_right" (defArgs sRight) (defBody sRight) (defScope sRight) .none kV15 dc15 pm15 an15 cd15 ct15), sl15⟩) (c15 : PySem.W.codeIn K cd15 "_law_right" = true) (k15 : PySem.W.keepIn K (.ref f15) = true)
    (a16 : PySem.W.nsIn K mainGlobals "law" = some (some (.ref f16))) (l16 : K.lookup f16 = some ⟨oc16, od16, .func (PySem.W.fnOf "law" "law" (defArgs sLaw) (defBody sLaw) (defScope sLaw) .none kV16 dc16 pm16 an16 cd16 ct16), sl16⟩) (c16 : PySem.W.codeIn K cd16 "law" = true) (k16 : PySem.W.keepIn K (.ref f16) = true)
    (z1 : PySem.W.nsIn K mainGlobals "isinstance" = some none)
    (z2 : PySem.W.nsIn K mainGlobals "list" = some none)
    (z3 : PySem.W.nsIn K mainGlobals "tuple" = some none)
    (z4 : PySem.W.nsIn K mainGlobals "zip" = some none)
    (z5 : PySem.W.nsIn K mainGlobals "len" = some none)
    (z6 : PySem.W.nsIn K mainGlobals "all" = some none)
    (z7 : PySem.W.nsIn K mainGlobals "bool" = some none)
    (z8 : PySem.W.nsIn K mainGlobals "str" = some none)
    (z9 : PySem.W.nsIn K mainGlobals "int" = some none)
    (z10 : PySem.W.nsIn K mainGlobals "range" = some none)
    (z11 : PySem.W.nsIn K mainGlobals "enumerate" = some none)
    (z12 : PySem.W.nsIn K mainGlobals "abs" = some none)
    (z13 : PySem.W.nsIn K mainGlobals "repr" = some none)
    : ∃ fd : FuncData, (∀ (s : Shared) (v : Value), BindsTo s fd ⟨[v], []⟩ [("_law_script", v)]) ∧ ∀ base : Heap, K.In base → base.Ns mainGlobals mg → FnG l.prog w K mg base 9 fa fd ["_law_script"] (spLaw K) := by
  have e := hfa.symm.trans (PySem.W.mg_of X G a16)
  cases e
  have F1 := fun_mk (st := sTupled) l1 c1 k1
  have b1 := F1.binds (ps := ["thing"]) fun _ _ _ _ _ _ us hl => match us, hl with | [_], _ => rfl
  have g1 := PySem.W.mg_of X G a1
  have F2 := fun_mk (st := sEx) l2 c2 k2
  have b2 := F2.binds (ps := ["canal"]) fun _ _ _ _ _ _ us hl => match us, hl with | [_], _ => rfl
  have g2 := PySem.W.mg_of X G a2
  have F3 := fun_mk (st := sExS) l3 c3 k3
  have b3 := F3.binds (ps := ["standing"]) fun _ _ _ _ _ _ us hl => match us, hl with | [_], _ => rfl
  have g3 := PySem.W.mg_of X G a3
  have F4 := fun_mk (st := sTog) l4 c4 k4
  have b4 := F4.binds (ps := ["one", "other"]) fun _ _ _ _ _ _ us hl => match us, hl with | [_, _], _ => rfl
  have g4 := PySem.W.mg_of X G a4
  have F5 := fun_mk (st := sTake) l5 c5 k5
  have b5 := F5.binds (ps := ["_law_box_here", "_law_size"]) fun _ _ _ _ _ _ us hl => match us, hl with | [_, _], _ => rfl
  have g5 := PySem.W.mg_of X G a5
  have F6 := fun_mk (st := sOf) l6 c6 k6
  have b6 := F6.binds (ps := ["_law_box_here", "_law_some"]) fun _ _ _ _ _ _ us hl => match us, hl with | [_, _], _ => rfl
  have g6 := PySem.W.mg_of X G a6
  have F7 := fun_mk (st := sCanal) l7 c7 k7
  have b7 := F7.binds (ps := ["_law_box_here", "_law_wide", "_law_utmost"]) fun _ _ _ _ _ _ us hl => match us, hl with | [_, _, _], _ => rfl
  have g7 := PySem.W.mg_of X G a7
  have F8 := fun_mk (st := sLying) l8 c8 k8
  have b8 := F8.binds (ps := ["_law_box_here", "_law_ship_way", "_law_most"]) fun _ _ _ _ _ _ us hl => match us, hl with | [_, _, _], _ => rfl
  have g8 := PySem.W.mg_of X G a8
  have F9 := fun_mk (st := sLists) l9 c9 k9
  have b9 := F9.binds (ps := ["_law_what"]) fun _ _ _ _ _ _ us hl => match us, hl with | [_], _ => rfl
  have g9 := PySem.W.mg_of X G a9
  have F10 := fun_mk (st := sSame) l10 c10 k10
  have b10 := F10.binds (ps := ["_law_found", "_law_due"]) fun _ _ _ _ _ _ us hl => match us, hl with | [_, _], _ => rfl
  have g10 := PySem.W.mg_of X G a10
  have F11 := fun_mk (st := sCells) l11 c11 k11
  have b11 := F11.binds (ps := ["_law_script", "_law_utmost"]) fun _ _ _ _ _ _ us hl => match us, hl with | [_, _], _ => rfl
  have g11 := PySem.W.mg_of X G a11
  have F12 := fun_mk (st := sBox) l12 c12 k12
  have b12 := F12.binds (ps := ["_law_cells_here", "_law_k"]) fun _ _ _ _ _ _ us hl => match us, hl with | [_, _], _ => rfl
  have g12 := PySem.W.mg_of X G a12
  have F13 := fun_mk (st := sCross) l13 c13 k13
  have b13 := F13.binds (ps := ["_law_ship_way"]) fun _ _ _ _ _ _ us hl => match us, hl with | [_], _ => rfl
  have g13 := PySem.W.mg_of X G a13
  have F14 := fun_mk (st := sBeside) l14 c14 k14
  have b14 := F14.binds (ps := ["_law_mine", "_law_yours"]) fun _ _ _ _ _ _ us hl => match us, hl with | [_, _], _ => rfl
  have g14 := PySem.W.mg_of X G a14
  have F15 := fun_mk (st := sRight) l15 c15 k15
  have b15 := F15.binds (ps := ["_law_box_here"]) fun _ _ _ _ _ _ us hl => match us, hl with | [_], _ => rfl
  have g15 := PySem.W.mg_of X G a15
  have F16 := fun_mk (st := sLaw) l16 c16 k16
  have m1 := PySem.W.mg_none_of X G z1
  have m2 := PySem.W.mg_none_of X G z2
  have m3 := PySem.W.mg_none_of X G z3
  have m4 := PySem.W.mg_none_of X G z4
  have m5 := PySem.W.mg_none_of X G z5
  have m6 := PySem.W.mg_none_of X G z6
  have m7 := PySem.W.mg_none_of X G z7
  have m8 := PySem.W.mg_none_of X G z8
  have m9 := PySem.W.mg_none_of X G z9
  have m10 := PySem.W.mg_none_of X G z10
  have m11 := PySem.W.mg_none_of X G z11
  have m12 := PySem.W.mg_none_of X G z12
  have m13 := PySem.W.mg_none_of X G z13
  refine ⟨PySem.W.fnOf "law" "law" (defArgs sLaw) (defBody sLaw) (defScope sLaw) .none kV16 dc16 pm16 an16 cd16 ct16, fun s v => .of_eq rfl, fun base _ _ => ?_⟩
  have C : Fns l.prog w K mg base 7 "_law_canal" ["_law_box_here", "_law_wide", "_law_utmost"] (spCanal K) f7 _ := ⟨ok_canal (k := 4) F7 F5 b5 g5 F6 b6 g6 m5 m2 m3 m10, g7, k7, b7⟩
  have Y : Fns l.prog w K mg base 7 "_law_lying" ["_law_box_here", "_law_ship_way", "_law_most"] (spLying K) f8 _ := ⟨ok_lying (k := 4) F8 F5 b5 g5 F6 b6 g6 m5 m3 m10, g8, k8, b8⟩
  have L : Fns l.prog w K mg base 7 "_law_lists" ["_law_what"] (spLists K 7) f9 _ := ⟨ok_lists F9 b9 g9 m1 m2 m3 7, g9, k9, b9⟩
  have S : Fns l.prog w K mg base 7 "_law_same" ["_law_found", "_law_due"] (spSame K 7) f10 _ := ⟨ok_same F10 b10 g10 m1 m2 m3 m4 m5 m6 m7 m8 m9 7, g10, k10, b10⟩
  have Ex : Fns l.prog w K mg base 7 "exchanged" ["canal"] (spEx K) f2 _ := ⟨ok_ex (k := 6) F2 m3, g2, k2, b2⟩
  have Xs : Fns l.prog w K mg base 7 "exchanged_standing" ["standing"] (spExS K) f3 _ := ⟨ok_exS F3 F1 b1 g1 m1 m2 m3, g3, k3, b3⟩
  have T : Fns l.prog w K mg base 7 "together" ["one", "other"] (spTog K) f4 _ := ⟨ok_tog F4 F1 b1 g1 m1 m2 m3, g4, k4, b4⟩
  have O : Fns l.prog w K mg base 7 "_law_crossed" ["_law_ship_way"] (spCross K) f13 _ := ⟨ok_cross (k := 6) F13 m3, g13, k13, b13⟩
  have B : Fns l.prog w K mg base 7 "_law_beside" ["_law_mine", "_law_yours"] (spBes K) f14 _ := ⟨ok_bes (k := 6) F14 m3 m4, g14, k14, b14⟩
  have Ce : Fns l.prog w K mg base 7 "_law_cells" ["_law_script", "_law_utmost"] (spCells K) f11 _ := ⟨ok_cells (k := 6) F11 m2 m11, g11, k11, b11⟩
  have Bo : Fns l.prog w K mg base 7 "_law_box" ["_law_cells_here", "_law_k"] (spBox K) f12 _ := ⟨ok_box (k := 6) F12 m12 m9, g12, k12, b12⟩
  have R := ok_right F15 C Y L S Ex Xs T O B (kb1 F2 fun _ _ _ _ _ _ _ => rfl) (kb1 F3 fun _ _ _ _ _ _ _ => rfl) (kb2 F4 fun _ _ _ _ _ _ _ _ => rfl) m13 m10
  exact ok_law F16 Ce Bo R g15 k15 b15 m5 m6 m10
end XL
open PySem PySem.W PyProof.Rows
set_option maxRecDepth 100000 in
set_option maxHeartbeats 0 in
theorem PySem.Challenge.cw_crosslocks_k03_canals_exchanged_and_toge_holds : PySem.Challenge.rw_crosslocks_k03_canals_exchanged_and_toge.Holds := by
  w_on; o_law; k_head; (case hw => w_witness2)
  k_fill
  refine XL.walkG (l := PySem.Challenge.rw_crosslocks_k03_canals_exchanged_and_toge) (n := 63) (k := 9) (x := "_law_script") (sp := XL.spLaw) rfl (by decide) rfl ⟨rfl, by decide, by decide⟩ (fun w h Y => PySem.W.kIn_of Y) ?F (fun K H a ns hl _ hS => ⟨a, ns, rfl, hS, hl, fun _ => rfl⟩)
  case F =>
    intro w mg fa h KX G hmg
    refine' XL.all_mk KX G hmg ?a1 ?l1 ?c1 ?k1 ?a2 ?l2 ?c2 ?k2 ?a3 ?l3 ?c3 ?k3 ?a4 ?l4 ?c4 ?k4 ?a5 ?l5 ?c5 ?k5 ?a6 ?l6 ?c6 ?k6 ?a7 ?l7 ?c7 ?k7 ?a8 ?l8 ?c8 ?k8 ?a9 ?l9 ?c9 ?k9 ?a10 ?l10 ?c10 ?k10 ?a11 ?l11 ?c11 ?k11 ?a12 ?l12 ?c12 ?k12 ?a13 ?l13 ?c13 ?k13 ?a14 ?l14 ?c14 ?k14 ?a15 ?l15 ?c15 ?k15 ?a16 ?l16 ?c16 ?k16 ?z1 ?z2 ?z3 ?z4 ?z5 ?z6 ?z7 ?z8 ?z9 ?z10 ?z11 ?z12 ?z13
    (case a1 => k_is); (case l1 => k_is); (case c1 => k_is); (case k1 => k_is)
    (case a2 => k_is); (case l2 => k_is); (case c2 => k_is); (case k2 => k_is)
    (case a3 => k_is); (case l3 => k_is); (case c3 => k_is); (case k3 => k_is)
    (case a4 => k_is); (case l4 => k_is); (case c4 => k_is); (case k4 => k_is)
    (case a5 => k_is); (case l5 => k_is); (case c5 => k_is); (case k5 => k_is)
    (case a6 => k_is); (case l6 => k_is); (case c6 => k_is); (case k6 => k_is)
    (case a7 => k_is); (case l7 => k_is); (case c7 => k_is); (case k7 => k_is)
    (case a8 => k_is); (case l8 => k_is); (case c8 => k_is); (case k8 => k_is)
    (case a9 => k_is); (case l9 => k_is); (case c9 => k_is); (case k9 => k_is)
    (case a10 => k_is); (case l10 => k_is); (case c10 => k_is); (case k10 => k_is)
    (case a11 => k_is); (case l11 => k_is); (case c11 => k_is); (case k11 => k_is)
    (case a12 => k_is); (case l12 => k_is); (case c12 => k_is); (case k12 => k_is)
    (case a13 => k_is); (case l13 => k_is); (case c13 => k_is); (case k13 => k_is)
    (case a14 => k_is); (case l14 => k_is); (case c14 => k_is); (case k14 => k_is)
    (case a15 => k_is); (case l15 => k_is); (case c15 => k_is); (case k15 => k_is)
    (case a16 => k_is); (case l16 => k_is); (case c16 => k_is); (case k16 => k_is)
    (case z1 => k_is)
    (case z2 => k_is)
    (case z3 => k_is)
    (case z4 => k_is)
    (case z5 => k_is)
    (case z6 => k_is)
    (case z7 => k_is)
    (case z8 => k_is)
    (case z9 => k_is)
    (case z10 => k_is)
    (case z11 => k_is)
    (case z12 => k_is)
    (case z13 => k_is)

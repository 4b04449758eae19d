import PyProof.Rows.All
import Wide.All
import OpenK.AllK
import Wide.FinOn
import KE.GoesMore
import KE.KDictZip
import PyProof.ListNew
import PyProof.SeqWrite
import KE.GoesEnum
import HandS.ForMost
import HandS.Zip
import PyProof.ReprRoads
import HandS.IsInst
import HandS.TupAny
import HandS.NoneIn
import HandS.Flow
import HandS.Conv
import HandS.Walk
import HandS.ExcValue
import HandS.TupSets
import HandS.SortInts
import PySem.Challenge.RW_crosslocks_k04_pieces_of_a_water
set_option Elab.async false
set_option linter.all false
set_option maxRecDepth 100000
namespace XL
open PySem PyProof.Rows
section
variable {prog : Program} {w : World} {A : Around} {E : Value → Shared → Prop} {s : Shared} {z TI TO T i1 i2 : Addr}
variable {fp1 fp2 : List Addr} {n1 n2 i : Nat} {P1 P2 : Nat → Value → Prop} {St1 St2 : Nat → Heap → Prop} {a1 a2 : Value} {f : Bool} {oT : Obj}

/-- one more pair while the one given out before is held -/
theorem held_item {Q : Value → Shared → Prop} (S : ZipSep2 z TI TO i1 i2 fp1 fp2)
    (D1 : Draws prog w A i1 fp1 n1 P1 St1) (D2 : Draws prog w A i2 fp2 n2 P2 St2)
    (hz : IsZipHeld s.heap z TI TO T f) (hT : s.heap.get? T = some oT) (hTI : IsTupOf2 s.heap TI (.ref i1) (.ref i2))
    (st1 : St1 i s.heap) (st2 : St2 i s.heap) (l1 : i < n1) (l2 : i < n2)
    (hQ : ∀ x1 x2 h' tk, P1 i x1 → P2 i x2 → IsZipHeld h' z TI TO T true → St1 (i + 1) h' → St2 (i + 1) h' →
      IsTupOf2 h' s.heap.objs.size x1 x2 → h'.objs.size = s.heap.objs.size + 1 →
      (∀ c o, c ≠ z → c ≠ i1 → c ≠ i2 → s.heap.get? c = some o → h'.get? c = some o) →
      Q (.ref s.heap.objs.size) { s with heap := h', toks := tk }) :
    wpAny (model prog w) A (Builtin.«zip.__next__» ⟨[.ref z], []⟩) (fun fin s' => ∃ v, fin = .done (.ret v) ∧ Q v s') E s := by
  obtain ⟨hp, g, d, tk0, os⟩ := s
  show wpAny _ _ (field (.ref z) 2 >>= _) _ _ _
  refine wpAny_bind (wpAny_field hz rfl (x := .bool false) rfl ?_); show wpAny _ _ (field (.ref z) 3 >>= _) _ _ _
  refine wpAny_bind (wpAny_field hz rfl (x := .ref TI) rfl ?_); refine wpAny_bind (wpAny_seqItems hTI rfl ?_)
  show wpAny _ _ (Builtin.SmallTypes.ownedTupleIsFree (.ref z) >>= _) _ _ _
  refine wpAny_bind (wpAny_tupleHeld_zip hz hT fun g0 hz0 hs0 => ?_); simp only [Bool.false_eq_true, if_false]; refine wpAny_bind ?_
  replace hs0 : Heap.SameBut z hp g0 := hs0
  rw [← Array.forIn_toList]; simp only [List.forIn_cons, List.forIn_nil]
  refine wpAny_bind (wpAny_bind (wpAny_holding ?_)); show wpAny _ _ (Builtin.SmallTypes.nextOf (.ref i1) >>= _) _ _ ⟨g0, g, d, tk0, os⟩
  refine wpAny_bind (D1.item i _ _ _ l1 (D1.over st1 hs0 S.zf1) fun x1 p1 tk1 hx1 sn1 hp1 => wpAny_pure ?_)
  replace hp1 : Heap.SameBut i1 g0 p1 := hp1
  refine wpAny_pure ?_
  refine wpAny_bind (wpAny_bind (wpAny_holding ?_)); show wpAny _ _ (Builtin.SmallTypes.nextOf (.ref i2) >>= _) _ _ ⟨p1, g, d, tk1, os⟩
  refine wpAny_bind (D2.item i _ _ _ l2 (D2.over (D2.over st2 hs0 S.zf2) hp1 S.sep1_2) fun x2 p2 tk2 hx2 sn2 hp2 => wpAny_pure ?_)
  replace hp2 : Heap.SameBut i2 p1 p2 := hp2
  refine wpAny_pure (wpAny_pure ?_); show wpAny _ _ (newTuple [x1, x2] >>= _) _ _ _
  refine wpAny_bind (wpAny_newTuple ?_)
  have hsz : p2.objs.size = hp.objs.size := by rw [hp2.1, hp1.1, hs0.1]
  have hz2 : IsZipHeld p2 z TI TO T true := hp2.extBut _ _ S.zi2 (hp1.extBut _ _ S.zi1 hz0)
  have hk : ∀ c o, c ≠ z → c ≠ i1 → c ≠ i2 → hp.get? c = some o → p2.get? c = some o := fun c o c0 c1 c2 e =>
    hp2.extBut _ _ c2 (hp1.extBut _ _ c1 (hs0.extBut _ _ c0 e))
  have j1 : St1 (i + 1) p2 := D1.over sn1 hp2 S.sep2_1
  refine wpAny_pure ⟨_, rfl, ?_⟩; show Q (.ref p2.objs.size) _
  have hpr : IsTupOf2 (p2.push { cls := .type "tuple", data := .seq #[x1, x2] }) p2.objs.size x1 x2 := Heap.get?_push_size _ rfl
  have hz4 : (p2.push { cls := .type "tuple", data := .seq #[x1, x2] }).objs.size = p2.objs.size + 1 := Heap.size_push ..
  rw [hsz] at hpr hz4 ⊢
  exact hQ x1 x2 _ tk2 hx1 hx2 (Heap.get?_push_of_some _ hz2) (D1.frame _ _ _ j1 fun b _ o e => Heap.get?_push_of_some _ e)
    (D2.frame _ _ _ sn2 fun b _ o e => Heap.get?_push_of_some _ e) hpr hz4 fun c o c0 c1 c2 e => Heap.get?_push_of_some _ (hk c o c0 c1 c2 e)

/-- the end while the last pair is held -/
theorem held_end {Q : Fin → Shared → Prop} (S : ZipSep2 z TI TO i1 i2 fp1 fp2)
    (D1 : Draws prog w A i1 fp1 n1 P1 St1) (D2 : Draws prog w A i2 fp2 n2 P2 St2)
    (hz : IsZipHeld s.heap z TI TO T f) (hT : s.heap.get? T = some oT) (hTI : IsTupOf2 s.heap TI (.ref i1) (.ref i2))
    (st1 : St1 i s.heap) (st2 : St2 i s.heap) (e1 : i ≤ n1) (e2 : i ≤ n2) (hend : i = n1 ∨ i = n2)
    (hE : ∀ h' tk e, (∀ c o, c ≠ z → c ≠ i1 → c ≠ i2 → s.heap.get? c = some o → h'.get? c = some o) →
      (∃ o, h'.get? e = some o ∧ o.cls = .type "StopIteration") → E (.ref e) { s with heap := h', toks := tk }) :
    wpAny (model prog w) A (Builtin.«zip.__next__» ⟨[.ref z], []⟩) Q E s := by
  obtain ⟨hp, g, d, tk0, os⟩ := s
  show wpAny _ _ (field (.ref z) 2 >>= _) _ _ _
  refine wpAny_bind (wpAny_field hz rfl (x := .bool false) rfl ?_); show wpAny _ _ (field (.ref z) 3 >>= _) _ _ _
  refine wpAny_bind (wpAny_field hz rfl (x := .ref TI) rfl ?_); refine wpAny_bind (wpAny_seqItems hTI rfl ?_)
  show wpAny _ _ (Builtin.SmallTypes.ownedTupleIsFree (.ref z) >>= _) _ _ _
  refine wpAny_bind (wpAny_tupleHeld_zip hz hT fun g0 hz0 hs0 => ?_); simp only [Bool.false_eq_true, if_false]; refine wpAny_bind ?_
  replace hs0 : Heap.SameBut z hp g0 := hs0
  rw [← Array.forIn_toList]; simp only [List.forIn_cons, List.forIn_nil]
  refine wpAny_bind (wpAny_bind (wpAny_holding ?_)); show wpAny _ _ (Builtin.SmallTypes.nextOf (.ref i1) >>= _) _ _ ⟨g0, g, d, tk0, os⟩
  by_cases l1 : i < n1
  · refine wpAny_bind (D1.item i _ _ _ l1 (D1.over st1 hs0 S.zf1) fun x1 p1 tk1 hx1 sn1 hp1 => wpAny_pure ?_)
    replace hp1 : Heap.SameBut i1 g0 p1 := hp1
    have hi2 : i = n2 := by omega
    refine wpAny_pure ?_
    refine wpAny_bind (wpAny_bind (wpAny_holding ?_)); show wpAny _ _ (Builtin.SmallTypes.nextOf (.ref i2) >>= _) _ _ ⟨p1, g, d, tk1, os⟩
    refine wpAny_bind (D2.done ⟨p1, g, d, tk1, os⟩ _ _ (by rw [← hi2]; exact D2.over (D2.over st2 hs0 S.zf2) hp1 S.sep1_2) fun q e hq he => ?_)
    exact hE q tk1 e (fun c o c0 c1 c2 x => hq _ _ c2 (hp1.extBut _ _ c1 (hs0.extBut _ _ c0 x))) he
  · have hi1 : i = n1 := by omega
    refine wpAny_bind (D1.done ⟨g0, g, d, tk0, os⟩ _ _ (by rw [← hi1]; exact D1.over st1 hs0 S.zf1) fun q e hq he => ?_)
    exact hE q tk0 e (fun c o c0 c1 c2 x => hq _ _ c1 (hs0.extBut _ _ c0 x)) he
end
end XL
namespace XL
open PySem PyProof.Rows
/-- the zip between two nexts: nothing given out yet, or the last pair is held -/
def ZNow (h : Heap) (z TI TO L : Addr) : Prop :=
  (IsZip h z TI TO .none ∧ ∃ a1 a2, IsTupOf2 h TO a1 a2) ∨ ∃ T f oT, IsZipHeld h z TI TO T f ∧ h.get? T = some oT ∧ T ≠ z ∧ T ≠ L
theorem ZNow.typ {s : Shared} {z TI TO L : Addr} (h : ZNow s.heap z TI TO L) : s.TypeIs (.ref z) "zip" := by
  rcases h with ⟨h, _⟩ | ⟨T, f, oT, h, _⟩
  · exact ⟨_, h, rfl⟩
  · exact ⟨_, h, rfl⟩
theorem ZNow.lt {h : Heap} {z TI TO L : Addr} (q : ZNow h z TI TO L) : z < h.objs.size := by
  rcases q with ⟨h, _⟩ | ⟨T, f, oT, h, _⟩
  · exact Heap.lt_size h
  · exact Heap.lt_size h
section
variable {prog : Program} {w : World} {A : Around} {E : Value → Shared → Prop} {s : Shared} {z TI TO L i1 i2 : Addr}
variable {fp1 fp2 : List Addr} {n1 n2 i : Nat} {P1 P2 : Nat → Value → Prop} {St1 St2 : Nat → Heap → Prop}
theorem next_item {Q : Option Value → Shared → Prop} (S : ZipSep2 z TI TO i1 i2 fp1 fp2)
    (D1 : Draws prog w A.in1 i1 fp1 n1 P1 St1) (D2 : Draws prog w A.in1 i2 fp2 n2 P2 St2)
    (hz : ZNow s.heap z TI TO L) (hTI : IsTupOf2 s.heap TI (.ref i1) (.ref i2)) (hL : L < s.heap.objs.size)
    (st1 : St1 i s.heap) (st2 : St2 i s.heap) (l1 : i < n1) (l2 : i < n2)
    (hQ : ∀ x1 x2 h' tk, P1 i x1 → P2 i x2 → ZNow h' z TI TO L → St1 (i + 1) h' → St2 (i + 1) h' →
      IsTupOf2 h' s.heap.objs.size x1 x2 → h'.objs.size = s.heap.objs.size + 1 →
      (∀ c o, c ≠ z → c ≠ TO → c ≠ i1 → c ≠ i2 → s.heap.get? c = some o → h'.get? c = some o) →
      Q (some (.ref s.heap.objs.size)) { s with heap := h', toks := tk }) :
    wpAny (model prog w) A (pyNext (.ref z)) Q E s := by
  have hTy := hz.typ
  have zl : z < s.heap.objs.size := hz.lt
  have zne : s.heap.objs.size ≠ z := Nat.ne_of_gt zl
  have lne : s.heap.objs.size ≠ L := Nat.ne_of_gt hL
  rcases hz with ⟨hz, a1, a2, hTO⟩ | ⟨T, f, oT, hz, hT, hTz, hTL⟩
  · refine wpAny_pyNext_zipD2_item S D1 D2 hz hTI hTO st1 st2 l1 l2 fun x1 x2 h' tk y1 y2 b1 b2 d1 d2 b5 b6 b7 => ?_
    exact hQ x1 x2 h' tk y1 y2 (.inr ⟨s.heap.objs.size, false, _, b1, b5, zne, lne⟩) d1 d2 b5 b6 b7
  · unfold pyNext
    refine wpAny_bind (wpAny_attempt (wpAny_callSpecial?_slot (name := Str.ofString "__next__") hTy F.slot_zip_next
      (wpAny_call_entry F.slot_zip_next hTy F.entry_zip_next (held_item S D1 D2 hz hT hTI st1 st2 l1 l2
        fun x1 x2 h' tk y1 y2 b1 d1 d2 b5 b6 b7 => wpAny_pure ?_) (F.args_zip_next_1 _))))
    have hT' : ∃ o, h'.get? T = some o := by
      by_cases c1 : T = i1
      · rw [c1]; exact D1.live _ _ d1
      · by_cases c2 : T = i2
        · rw [c2]; exact D2.live _ _ d2
        · exact ⟨_, b7 T oT hTz c1 c2 hT⟩
    obtain ⟨o', hT'⟩ := hT'
    exact hQ x1 x2 h' tk y1 y2 (.inr ⟨T, true, o', b1, hT', hTz, hTL⟩) d1 d2 b5 b6 fun c o c0 _ c1 c2 e => b7 c o c0 c1 c2 e
theorem next_end {Q : Option Value → Shared → Prop} (S : ZipSep2 z TI TO i1 i2 fp1 fp2)
    (D1 : Draws prog w A.in1 i1 fp1 n1 P1 St1) (D2 : Draws prog w A.in1 i2 fp2 n2 P2 St2)
    (hz : ZNow s.heap z TI TO L) (hTI : IsTupOf2 s.heap TI (.ref i1) (.ref i2))
    (st1 : St1 i s.heap) (st2 : St2 i s.heap) (e1 : i ≤ n1) (e2 : i ≤ n2) (hend : i = n1 ∨ i = n2)
    (hQ : ∀ h' tk, (∀ c o, c ≠ z → c ≠ TO → c ≠ i1 → c ≠ i2 → s.heap.get? c = some o → h'.get? c = some o) →
      Q none { s with heap := h', toks := tk }) :
    wpAny (model prog w) A (pyNext (.ref z)) Q E s := by
  have hTy := hz.typ
  rcases hz with ⟨hz, a1, a2, hTO⟩ | ⟨T, f, oT, hz, hT, hTz, hTL⟩
  · exact wpAny_pyNext_zipD2_end S D1 D2 hz hTI hTO st1 st2 e1 e2 hend hQ
  · unfold pyNext
    refine wpAny_bind (wpAny_attempt (wpAny_callSpecial?_slot (name := Str.ofString "__next__") hTy F.slot_zip_next
      (wpAny_call_entry F.slot_zip_next hTy F.entry_zip_next (held_end S D1 D2 hz hT hTI st1 st2 e1 e2 hend fun h' tk e hk he => ?_) (F.args_zip_next_1 _))))
    obtain ⟨o, ho, hc⟩ := he
    refine wpAny_bind (wpAny_isInstance (T := "StopIteration") (b := true) ⟨o, ho, hc⟩ isSubtype_stop ?_)
    exact wpAny_pure (hQ _ _ fun c o c0 _ c1 c2 e => hk c o c0 c1 c2 e)
end

/-- the pairs laid so far: at Ts, new, apart from the zip's own cells and the list -/
structure Laid (N L : Nat) (P1 P2 : Nat → Value → Prop) (cells : List Addr) (h : Heap) (Ts : List Addr) : Prop where
  nd : Ts.Nodup
  at_ : ∀ j T, Ts[j]? = some T → N ≤ T ∧ T < h.objs.size ∧ T ≠ L ∧ T ∉ cells ∧ ∃ x y, P1 j x ∧ P2 j y ∧ IsTupOf2 h T x y
theorem Laid.nil {N L : Nat} {P1 P2 : Nat → Value → Prop} {cells : List Addr} {h : Heap} : Laid N L P1 P2 cells h [] := ⟨List.nodup_nil, fun j T e => by simp at e⟩
theorem Laid.over {N L : Nat} {P1 P2 : Nat → Value → Prop} {cells : List Addr} {h h' : Heap} {Ts : List Addr} (q : Laid N L P1 P2 cells h Ts)
    (hs : h.objs.size ≤ h'.objs.size) (hk : ∀ c o, c ∉ cells → c ≠ L → h.get? c = some o → h'.get? c = some o) : Laid N L P1 P2 cells h' Ts :=
  ⟨q.nd, fun j T e => by
    obtain ⟨a, b, c, d, x, y, px, py, t⟩ := q.at_ j T e
    exact ⟨a, Nat.lt_of_lt_of_le b hs, c, d, x, y, px, py, hk _ _ d c t⟩⟩
theorem Laid.push {N L : Nat} {P1 P2 : Nat → Value → Prop} {cells : List Addr} {h h' : Heap} {Ts : List Addr} {x y : Value} (q : Laid N L P1 P2 cells h Ts)
    (hs : h'.objs.size = h.objs.size + 1) (hk : ∀ c o, c ∉ cells → c ≠ L → h.get? c = some o → h'.get? c = some o)
    (hN : N ≤ h.objs.size) (hL : L < h.objs.size) (hc : ∀ c ∈ cells, c < h.objs.size) (px : P1 Ts.length x) (py : P2 Ts.length y) (t : IsTupOf2 h' h.objs.size x y) :
    Laid N L P1 P2 cells h' (Ts ++ [h.objs.size]) := by
  have q' := q.over (h' := h') (by omega) hk
  refine ⟨?_, fun j T e => ?_⟩
  · rw [List.nodup_append]
    refine ⟨q.nd, by simp, fun a ha b hb e => ?_⟩
    simp at hb
    obtain ⟨j, hj⟩ := List.getElem?_of_mem ha
    have := (q.at_ j a hj).2.1
    rw [e, hb] at this
    exact Nat.lt_irrefl _ this
  · by_cases hj : j < Ts.length
    · rw [List.getElem?_append_left hj] at e
      exact q'.at_ j T e
    · rw [List.getElem?_append_right (by omega)] at e
      have hj0 : j - Ts.length = 0 := by
        rcases Nat.eq_zero_or_pos (j - Ts.length) with z | z
        · exact z
        · rw [List.getElem?_eq_none (by simp; omega)] at e
          cases e
      rw [hj0] at e
      have e' : h.objs.size = T := by simpa using e
      subst e'
      have ej : j = Ts.length := by omega
      refine ⟨hN, by rw [hs]; exact Nat.lt_succ_self _, Nat.ne_of_gt hL, fun hm => Nat.lt_irrefl _ (hc _ hm), x, y, ?_, ?_, t⟩
      · rw [ej]; exact px
      · rw [ej]; exact py
section
variable {prog : Program} {w : World} {A : Around} {R : Result → Shared → Prop} {z TI TO i1 i2 : Addr} {N L : Nat}
variable {fp1 fp2 : List Addr} {n1 n2 n : Nat} {P1 P2 : Nat → Value → Prop} {St1 St2 : Nat → Heap → Prop}
theorem loop_zip (S : ZipSep2 z TI TO i1 i2 fp1 fp2) (D1 : Draws prog w A.in1.in1 i1 fp1 n1 P1 St1) (D2 : Draws prog w A.in1.in1 i2 fp2 n2 P2 St2)
    (hn : n = min n1 n2) (hsz : n ≤ sizeLine) (res : Value) (hL1 : L ∉ fp1) (hL2 : L ∉ fp2) (hLz : L ≠ z) (hLTI : L ≠ TI) (hLTO : L ≠ TO) (hNz : N ≤ z) (hNT : N ≤ TO) (hN1 : N ≤ i1) (hN2 : N ≤ i2) (hNL : N ≤ L) :
    ∀ (k : Nat) (s : Shared) (Ts : List Addr) (c : Nat), n - Ts.length = k → Ts.length ≤ n → ZNow s.heap z TI TO L → IsTupOf2 s.heap TI (.ref i1) (.ref i2) → TO < s.heap.objs.size →
      St1 Ts.length s.heap → St2 Ts.length s.heap → N ≤ s.heap.objs.size → s.heap.get? L = some { cls := .type "list", dict := none, data := .seq (Ts.map Value.ref).toArray c, slots := #[] } →
      Laid N L P1 P2 [z, TO, i1, i2] s.heap Ts →
      (∀ h' tk Ts' c', Ts'.length = n → (∀ b o, b < N → s.heap.get? b = some o → h'.get? b = some o) →
        h'.get? L = some { cls := .type "list", dict := none, data := .seq (Ts'.map Value.ref).toArray c', slots := #[] } → Laid N L P1 P2 [z, TO, i1, i2] h' Ts' →
        R (.ok (.ret res)) { s with heap := h', toks := tk }) →
      codeAny (model prog w) A (.builtin "list.extend.loop" ⟨[.ref L, .ref z, res], []⟩) R s := by
  intro k
  have S' := S
  induction k with
  | zero =>
    intro s Ts c hk hle hz hTI hTO st1 st2 hN hLs hld hR
    have hin : Ts.length = n := by omega
    refine codeAny_builtin F.entry_extend_loop ?_
    rw [Around.under_plainId F.plain_extend_loop _]
    show wpAny _ A.in1 (pyNext (.ref z) >>= _) _ _ s
    have hend : Ts.length = n1 ∨ Ts.length = n2 := by omega
    refine wpAny_bind (next_end S D1 D2 hz hTI st1 st2 (by omega) (by omega) hend fun h' tk hk' => ?_)
    have ne : ∀ c, c ∉ [z, TO, i1, i2] → c ≠ z ∧ c ≠ TO ∧ c ≠ i1 ∧ c ≠ i2 := fun c hc => by simpa using hc
    have Li : L ≠ i1 ∧ L ≠ i2 := ⟨fun e => hL1 (e ▸ S.mem1), fun e => hL2 (e ▸ S.mem2)⟩
    refine wpAny_pure (hR h' tk Ts c hin (fun b o hb e => ?_) (hk' L _ hLz hLTO Li.1 Li.2 hLs) ?_)
    · exact hk' b o (Nat.ne_of_lt (Nat.lt_of_lt_of_le hb hNz)) (Nat.ne_of_lt (Nat.lt_of_lt_of_le hb hNT)) (Nat.ne_of_lt (Nat.lt_of_lt_of_le hb hN1)) (Nat.ne_of_lt (Nat.lt_of_lt_of_le hb hN2)) e
    · refine ⟨hld.nd, fun j T e => ?_⟩
      obtain ⟨a, b, c, d, x, y, px, py, t⟩ := hld.at_ j T e
      have t' : IsTupOf2 h' T x y := hk' _ _ (ne T d).1 (ne T d).2.1 (ne T d).2.2.1 (ne T d).2.2.2 t
      exact ⟨a, Heap.lt_size t', c, d, x, y, px, py, t'⟩
  | succ k ih =>
    intro s Ts c hk hle hz hTI hTO st1 st2 hN hLs hld hR
    have hlt1 : Ts.length < n1 := by omega
    have hlt2 : Ts.length < n2 := by omega
    refine codeAny_builtin F.entry_extend_loop ?_
    rw [Around.under_plainId F.plain_extend_loop _]
    show wpAny _ A.in1 (pyNext (.ref z) >>= _) _ _ s
    have hLlt : L < s.heap.objs.size := Heap.lt_size hLs
    refine wpAny_bind (next_item S D1 D2 hz hTI hLlt st1 st2 hlt1 hlt2 fun x1 x2 h' tk px py hz' d1 d2 ht hsz' hk' => ?_)
    have ne : ∀ c, c ∉ [z, TO, i1, i2] → c ≠ z ∧ c ≠ TO ∧ c ≠ i1 ∧ c ≠ i2 := fun c hc => by simpa using hc
    have Li : L ≠ i1 ∧ L ≠ i2 := ⟨fun e => hL1 (e ▸ S.mem1), fun e => hL2 (e ▸ S.mem2)⟩
    have hL' := hk' L _ hLz hLTO Li.1 Li.2 hLs
    have hTI' : IsTupOf2 h' TI (.ref i1) (.ref i2) := hk' TI _ S.TIz S.TITO S.TIi1 S.TIi2 hTI
    have hcells : ∀ b ∈ [z, TO, i1, i2], b < s.heap.objs.size := fun b hb => by
      have hb' : b = z ∨ b = TO ∨ b = i1 ∨ b = i2 := by simpa using hb
      rcases hb' with e | e | e | e
      · rw [e]; exact hz.lt
      · rw [e]; exact hTO
      · rw [e]; obtain ⟨o, q⟩ := D1.live _ _ st1; exact Heap.lt_size q
      · rw [e]; obtain ⟨o, q⟩ := D2.live _ _ st2; exact Heap.lt_size q
    have hld' : Laid N L P1 P2 [z, TO, i1, i2] h' (Ts ++ [s.heap.objs.size]) :=
      hld.push hsz' (fun c o hc _ e => hk' c o (ne c hc).1 (ne c hc).2.1 (ne c hc).2.2.1 (ne c hc).2.2.2 e) hN hLlt hcells px py ht
    show wpAny _ A.in1 (updateSeq L (·.push (Value.ref s.heap.objs.size)) >>= _) _ _ _
    refine wpAny_bind ?_
    have hlen : (Ts ++ [s.heap.objs.size]).length = Ts.length + 1 := by simp
    have hzs : ((Ts.map Value.ref).toArray : Array Value).size = Ts.length := by simp
    refine wpAny_updateSeq hL' rfl (wpAny_pure ⟨plainId_quiet F.plain_extend_loop _, ?_⟩) (by rw [hzs]; omega)
      (by show ((Ts.map Value.ref).toArray.push (Value.ref s.heap.objs.size)).size ≤ sizeLine + 1; rw [Array.size_push, hzs]; omega)
    have hself := Heap.get?_update_self (Obj.mapSeq (·.push (Value.ref s.heap.objs.size))) hL' rfl
    have hoth : ∀ b o, b ≠ L → h'.get? b = some o → (h'.update L (Obj.mapSeq (·.push (Value.ref s.heap.objs.size)))).get? b = some o :=
      fun b o hb e => (Heap.get?_update_other _ _ (Ne.symm hb)).trans e
    have hus : (h'.update L (Obj.mapSeq (·.push (Value.ref s.heap.objs.size)))).objs.size = h'.objs.size := (Heap.SameBut.update ..).1
    obtain ⟨c3, hc3⟩ : ∃ c3, (h'.update L (Obj.mapSeq (·.push (Value.ref s.heap.objs.size)))).get? L = some { cls := .type "list", dict := none, data := .seq ((Ts ++ [s.heap.objs.size]).map Value.ref).toArray c3, slots := #[] } := by
      have eA : ((Ts ++ [s.heap.objs.size]).map Value.ref).toArray = (Ts.map Value.ref).toArray.push (Value.ref s.heap.objs.size) := by simp
      rw [eA, hself]; exact ⟨_, rfl⟩
    refine ih { s with heap := h'.update L (Obj.mapSeq (·.push (Value.ref s.heap.objs.size))), toks := tk } (Ts ++ [s.heap.objs.size]) c3 (by rw [hlen]; omega) (by rw [hlen]; omega) ?_ (hoth TI _ (Ne.symm hLTI) hTI') ?_ ?_ ?_ ?_ ?_ ?_ fun h2 tk2 Ts2 c2 hl2 hk2 hL2' hld2 => ?_
    · rcases hz' with ⟨q, a1, a2, q2⟩ | ⟨T, f, oT, q, q2, q3, q4⟩
      · exact .inl ⟨hoth z _ (Ne.symm hLz) q, a1, a2, hoth TO _ (Ne.symm hLTO) q2⟩
      · exact .inr ⟨T, f, oT, hoth z _ (Ne.symm hLz) q, hoth T _ q4 q2, q3, q4⟩
    · show TO < (h'.update L _).objs.size
      rw [hus, hsz']; exact Nat.lt_succ_of_lt hTO
    · rw [hlen]; exact D1.frame _ _ _ d1 fun b hb o e => hoth b o (fun q => hL1 (q ▸ hb)) e
    · rw [hlen]; exact D2.frame _ _ _ d2 fun b hb o e => hoth b o (fun q => hL2 (q ▸ hb)) e
    · show N ≤ (h'.update L _).objs.size
      rw [hus, hsz']; exact Nat.le_succ_of_le hN
    · exact hc3
    · exact hld'.over (by rw [hus]; exact Nat.le_refl _) fun b o _ hb e => hoth b o hb e
    · refine hR h2 tk2 Ts2 c2 hl2 (fun b o hb e => hk2 b o hb (hoth b o (Nat.ne_of_lt (Nat.lt_of_lt_of_le hb hNL)) ?_)) hL2' hld2
      exact hk' b o (Nat.ne_of_lt (Nat.lt_of_lt_of_le hb hNz)) (Nat.ne_of_lt (Nat.lt_of_lt_of_le hb hNT)) (Nat.ne_of_lt (Nat.lt_of_lt_of_le hb hN1)) (Nat.ne_of_lt (Nat.lt_of_lt_of_le hb hN2)) e
theorem zip_no_len : typeLookup (.type "zip") "__len__" = pure none := am_miss_of_fast (by decide +kernel)
theorem zip_no_hint : typeLookup (.type "zip") "__length_hint__" = pure none := am_miss_of_fast (by decide +kernel)
end
end XL
namespace XL
open PySem PyProof.Rows
section
variable {prog : Program} {w : World} {A : Around} {E : Value → Shared → Prop} {s : Shared}
/-- list(zip(v1, v2)): a new list of new pairs -/
theorem call_list_zip {Q : Value → Shared → Prop} {v1 v2 : Value} {o1 o2 : Obj} {H1 H2 : Heap → Prop} {fp1 fp2 : List Addr} {n1 n2 n : Nat} {P1 P2 : Nat → Value → Prop} {St1 St2 : Nat → Heap → Prop}
    (B1 : Begins v1 o1 H1) (B2 : Begins v2 o2 H2) (h1 : H1 s.heap) (h2 : H2 s.heap) (hf1 : ∀ b ∈ fp1, b < s.heap.objs.size) (hf2 : ∀ b ∈ fp2, b < s.heap.objs.size)
    (D1 : ∀ A', A'.handled = none → Draws prog w A' s.heap.objs.size (s.heap.objs.size :: fp1) n1 P1 St1)
    (D2 : ∀ A', A'.handled = none → Draws prog w A' (s.heap.objs.size + 1) ((s.heap.objs.size + 1) :: fp2) n2 P2 St2)
    (b1 : ∀ h', (∀ b o, s.heap.get? b = some o → h'.get? b = some o) → h'.get? s.heap.objs.size = some o1 → St1 0 h')
    (b2 : ∀ h', (∀ b o, s.heap.get? b = some o → h'.get? b = some o) → h'.get? (s.heap.objs.size + 1) = some o2 → St2 0 h')
    (hA : A.handled = none) (hn : n = min n1 n2) (hz : n ≤ sizeLine)
    (hQ : ∀ (h' : Heap) (tk : Nat) (Ts : List Addr) (c : Nat) (L : Addr), Ts.length = n → (∀ b o, s.heap.get? b = some o → h'.get? b = some o) → s.heap.objs.size ≤ L →
      h'.get? L = some { cls := .type "list", dict := none, data := .seq (Ts.map Value.ref).toArray c, slots := #[] } → Ts.Nodup →
      (∀ j T, Ts[j]? = some T → s.heap.objs.size ≤ T ∧ T ≠ L ∧ ∃ x y, P1 j x ∧ P2 j y ∧ IsTupOf2 h' T x y) → Q (.ref L) { s with heap := h', toks := tk }) :
    wpAny (model prog w) A (call (.type "zip") [v1, v2]) (fun v s1 => wpAny (model prog w) A (call (.type "list") [v]) Q E s1) E s := by
  refine zip_begins2 B1 B2 h1 h2 fun g hz0 hTI hTO e1 e2 hsz hk => ?_
  have hgN : g.objs.size = s.heap.objs.size + 5 := hsz
  generalize hNN : s.heap.objs.size = N at *
  refine callType_codes (Q₁ := fun obj s₁ => obj = .ref g.objs.size ∧ s₁ = { s with heap := g.push { cls := .type "list", data := .seq #[] } }) F.called_list (F.typeCall_list_1 _) F.entry_list_init
    (code_list_new _ ⟨rfl, rfl⟩) fun obj s₁ q₁ => ?_
  obtain ⟨rfl, rfl⟩ := q₁
  have hS : (g.push { cls := .type "list", data := .seq #[] }).get? g.objs.size = some { cls := .type "list", data := .seq #[] } := Heap.get?_push_size _ rfl
  refine ⟨⟨_, hS, rfl⟩, F.args_list_init_2 _ _, ?_⟩
  have SS := zip_sep2 hf1 hf2
  have kp : ∀ b o, g.get? b = some o → (g.push { cls := .type "list", data := .seq #[] }).get? b = some o := fun b o e => Heap.get?_push_of_some _ e
  generalize hG : g.push { cls := .type "list", data := .seq #[] } = G at *
  have hGz : G.objs.size = g.objs.size + 1 := by rw [← hG]; exact Heap.size_push ..
  have hLv : g.objs.size = N + 5 := hgN
  generalize hLL : g.objs.size = L at *
  show wpAny _ _ (do let old ← Builtin.List.listItems (.ref L); Builtin.List.listUpdate (.ref L) (fun _ => #[]); letGo old.toList.reverse; Builtin.List.listExtendWith (.ref L) (.ref (N + 4)) .none) _ _ _
  refine wpAny_bind ?_
  unfold Builtin.List.listItems
  refine wpAny_bind (wpAny_seqItems hS rfl (wpAny_pure ?_))
  show wpAny _ _ (updateSeq L (fun _ => #[]) >>= fun _ => letGo (#[] : Array Value).toList.reverse >>= fun _ => Builtin.List.listExtendWith (.ref L) (.ref (N + 4)) .none) _ _ _
  refine wpAny_bind (wpAny_updateSeq hS rfl ?_)
  have hS₂ := Heap.get?_update_self (Obj.mapSeq (fun _ => (#[] : Array Value))) hS rfl
  have oth : ∀ b o, b ≠ L → G.get? b = some o → (G.update L (Obj.mapSeq (fun _ => (#[] : Array Value)))).get? b = some o :=
    fun b o hb e => (Heap.get?_update_other _ _ (Ne.symm hb)).trans e
  have hG2 : (G.update L (Obj.mapSeq (fun _ => (#[] : Array Value)))).objs.size = G.objs.size := (Heap.SameBut.update ..).1
  generalize hGG : G.update L (Obj.mapSeq (fun _ => (#[] : Array Value))) = G2 at *
  refine wpAny_bind (wpAny_letGo ?_)
  have hNL : N ≤ L := by omega
  have nL : ∀ j : Nat, j < 5 → N + j ≠ L := fun j hj => by omega
  have hz2 : IsZip G2 (N + 4) (N + 2) (N + 3) .none := oth _ _ (nL 4 (by omega)) (kp _ _ hz0)
  have hT2 : IsTupOf2 G2 (N + 2) (.ref N) (.ref (N + 1)) := oth _ _ (nL 2 (by omega)) (kp _ _ hTI)
  have hO2 : IsTupOf2 G2 (N + 3) .none .none := oth _ _ (nL 3 (by omega)) (kp _ _ hTO)
  unfold Builtin.List.listExtendWith
  have hTy : ({ s with heap := G2 } : Shared).TypeIs (.ref (N + 4)) "zip" := ⟨_, hz2, rfl⟩
  refine wpAny_bind (wpAny_typeOf hTy ?_)
  have q1 : Builtin.List.listSameRef (.ref L) (.ref (N + 4)) = false := by simp only [Builtin.List.listSameRef]; exact beq_eq_false_iff_ne.mpr (nL 4 (by omega)).symm
  have q2 : (Value.type "zip" == Value.type "list") = false := by decide
  have q3 : (Value.type "zip" == Value.type "tuple") = false := by decide
  simp only [q1, q2, q3, Bool.or_false, Bool.false_eq_true, if_false]
  refine wpAny_bind (wpAny_pyIter_zip hz2 ?_)
  refine wpAny_bind (wpAny_holding ?_)
  unfold Builtin.List.listLengthHint
  refine wpAny_bind (wpAny_specialOf hTy zip_no_len ?_)
  show wpAny _ _ (specialOf (Value.ref (N + 4)) (Str.ofString "__length_hint__") >>= _) _ _ _
  refine wpAny_bind (wpAny_specialOf hTy zip_no_hint ?_)
  refine wpAny_pure ?_
  show wpAny _ _ (rule "list.extend.makes-room" >>= fun _ => Builtin.List.listTouch (.ref L) >>= fun _ => again (.builtin "list.extend.loop" ⟨[.ref L, .ref (N + 4), .none], []⟩)) _ _ _
  refine wpAny_bind (wpAny_rule ?_)
  refine wpAny_bind ?_
  show wpAny _ _ (updateSeq L (·.push .none) >>= fun _ => updateSeq L (·.pop)) _ _ _
  refine wpAny_bind (wpAny_updateSeq hS₂ rfl ?_)
  have hS₃ := Heap.get?_update_self (Obj.mapSeq (·.push Value.none)) hS₂ rfl
  refine wpAny_updateSeq (hz := by seq_fits) hS₃ rfl ?_
  have hS₄ := Heap.get?_update_self (Obj.mapSeq (·.pop)) hS₃ rfl
  have oth2 : ∀ b o, b ≠ L → G2.get? b = some o → ((G2.update L (Obj.mapSeq (·.push Value.none))).update L (Obj.mapSeq (·.pop))).get? b = some o :=
    fun b o hb e => (Heap.get?_update_other _ _ (Ne.symm hb)).trans ((Heap.get?_update_other _ _ (Ne.symm hb)).trans e)
  have hG3 : ((G2.update L (Obj.mapSeq (·.push Value.none))).update L (Obj.mapSeq (·.pop))).objs.size = G2.objs.size := ((Heap.SameBut.update ..).1).trans ((Heap.SameBut.update ..).1)
  generalize hGGG : (G2.update L (Obj.mapSeq (·.push Value.none))).update L (Obj.mapSeq (·.pop)) = G3 at *
  have old : ∀ b o, s.heap.get? b = some o → G3.get? b = some o := fun b o e => by
    have hb : b < N := by rw [← hNN]; exact Heap.lt_size e
    have hb' : b ≠ L := Nat.ne_of_lt (Nat.lt_of_lt_of_le hb hNL)
    exact oth2 b o hb' (oth b o hb' (kp b o (hk b o e)))
  have at1 : G3.get? N = some o1 := oth2 _ _ (nL 0 (by omega)) (oth _ _ (nL 0 (by omega)) (kp _ _ e1))
  have at2 : G3.get? (N + 1) = some o2 := oth2 _ _ (nL 1 (by omega)) (oth _ _ (nL 1 (by omega)) (kp _ _ e2))
  have hLn1 : L ∉ N :: fp1 := fun hm => by
    rcases List.mem_cons.mp hm with e | hm
    · exact nL 0 (by omega) e.symm
    · exact Nat.lt_irrefl _ (Nat.lt_of_lt_of_le (hf1 _ hm) hNL)
  have hLn2 : L ∉ (N + 1) :: fp2 := fun hm => by
    rcases List.mem_cons.mp hm with e | hm
    · exact nL 1 (by omega) e.symm
    · exact Nat.lt_irrefl _ (Nat.lt_of_lt_of_le (hf2 _ hm) hNL)
  refine wpAny_pure ⟨plainId_quiet F.plain_extend_loop _, loop_zip (A := A.in1) (N := N) (L := L) SS (D1 _ (show A.in1.in1.in1.handled = none from hA)) (D2 _ (show A.in1.in1.in1.handled = none from hA)) hn hz .none hLn1 hLn2 (nL 4 (by omega)).symm (nL 2 (by omega)).symm (nL 3 (by omega)).symm (Nat.le_add_right _ _) (Nat.le_add_right _ _) (Nat.le_refl _) (Nat.le_add_right _ _) (by omega)
    n _ [] _ (by simp) (Nat.zero_le _) (.inl ⟨oth2 _ _ (nL 4 (by omega)) hz2, _, _, oth2 _ _ (nL 3 (by omega)) hO2⟩) (oth2 _ _ (nL 2 (by omega)) hT2) ?_ (b1 G3 old at1) (b2 G3 old at2) ?_ hS₄ .nil fun h' tk Ts c hl hk' hL' hld => ?_⟩
  · show (N + 3 : Nat) < G3.objs.size
    rw [hG3, hG2, hGz]; omega
  · show N ≤ G3.objs.size
    rw [hG3, hG2, hGz]; omega
  · refine ⟨rfl, hQ h' tk Ts c L hl (fun b o e => hk' b o (by rw [← hNN]; exact Heap.lt_size e) (old b o e)) (by omega) hL' hld.nd fun j T e => ?_⟩
    obtain ⟨a, _, b, _, c⟩ := hld.at_ j T e
    exact ⟨a, b, c⟩
end
end XL
namespace XL
open PySem PySem.Spec PyProof.Rows L2
/-- a list or a tuple -/
def Sq2 (K : PySem.W.Frag) (H : Hp) (a : Addr) (xs : List V) : Prop := SqL K H a xs ∨ SqT K H a xs
theorem Same.tup {K : PySem.W.Frag} {H H' : Hp} {a : Addr} {xs : List V} (e : Same H H') (h : SqT K H a xs) : SqT K H' a xs := by
  rcases h with (h | ⟨o, h⟩) | h
  · exact .inl (.inl (e _ _ h))
  · exact .inl (.inr ⟨o, e _ _ h⟩)
  · exact .inr h
theorem Same.sq2 {K : PySem.W.Frag} {H H' : Hp} {a : Addr} {xs : List V} (e : Same H H') (h : Sq2 K H a xs) : Sq2 K H' a xs := h.imp (fun q => e.seq q) (fun q => Same.tup e q)
theorem same_new {H : Hp} {p : Addr} {o : HO} (h : H p = none) : Same H (upd H p o) := fun b x e => by
  rw [upd_ne (ne_of_none e h)]
  exact e
section
variable {X : Cx} {pins : List (Addr × Obj)} {σ : L2.St} {H : Hp} {s : Shared} {a : Addr} {xs : List V}
theorem seq_draws (I : Inv X pins σ H s) (h : Sq2 X.K H a xs) : ∃ (its : List Value) (o : Obj) (B : Heap → Prop) (fp : List Addr), Vals xs its ∧ xs.length ≤ sizeLine ∧ Begins (.ref a) o B ∧ B s.heap ∧
    (∀ b ∈ fp, b < s.heap.objs.size) ∧ ∀ it, s.heap.objs.size ≤ it → ∃ St : Nat → Heap → Prop, (∀ A' : Around, A'.handled = none → Draws X.prog X.w A' it (it :: fp) its.length (fun i v => its[i]? = some v) St) ∧
      ∀ h' : Heap, (∀ b o, s.heap.get? b = some o → h'.get? b = some o) → h'.get? it = some o → St 0 h' := by
  rcases h with h | h
  · obtain ⟨its, rv, p, hz⟩ := I.list h
    have la : a < s.heap.objs.size := p.lt
    refine ⟨its, _, _, [a], rv, hz, begins_list a its.toArray, p.isList, fun b hb => by rw [List.mem_singleton.mp hb]; exact la, fun it hit => ?_⟩
    have hne : a ≠ it := Nat.ne_of_lt (Nat.lt_of_lt_of_le la hit)
    refine ⟨fun i h => h.IsListIter it a i ∧ h.IsList a its.toArray, fun A' hA => ?_, fun h' hk e => ?_⟩
    · have D := Draws.list (prog := X.prog) (w := X.w) hA it a hne its.toArray
      simpa using D
    · exact ⟨⟨_, e, rfl, rfl⟩, p.isList.at fun o q => hk a o q⟩
  · obtain ⟨its, rv, p, hz⟩ := I.tuple h
    have la : a < s.heap.objs.size := by
      obtain ⟨o, e, _⟩ := p
      exact Heap.lt_size e
    have p' : s.heap.IsTuple a its.toArray := p
    refine ⟨its, _, _, [a], rv, hz, begins_tuple a its.toArray, p', fun b hb => by rw [List.mem_singleton.mp hb]; exact la, fun it hit => ?_⟩
    have hne : a ≠ it := Nat.ne_of_lt (Nat.lt_of_lt_of_le la hit)
    refine ⟨fun i h => h.IsTupleIter it a i ∧ h.IsTuple a its.toArray, fun A' hA => ?_, fun h' hk e => ?_⟩
    · have D := Draws.tuple (prog := X.prog) (w := X.w) hA it a hne its.toArray
      simpa using D
    · exact ⟨⟨_, e, rfl, rfl⟩, p'.at fun o q => hk a o q⟩
end
/-- pairs laid at Ts -/
def layP (H : Hp) : List Addr → List V → List V → Hp
  | T :: Ts, x :: xs, y :: ys => upd (layP H Ts xs ys) T (.tup [x, y])
  | _, _, _ => H
theorem layP_off (H : Hp) {c : Addr} : ∀ (Ts : List Addr) (xs ys : List V), c ∉ Ts → layP H Ts xs ys c = H c
  | [], xs, ys, _ => by cases xs <;> cases ys <;> rfl
  | T :: Ts, [], ys, _ => rfl
  | T :: Ts, _ :: _, [], _ => rfl
  | T :: Ts, x :: xs, y :: ys, h => by
    have h1 : c ≠ T := fun e => h (by rw [e]; exact List.mem_cons_self ..)
    show upd (layP H Ts xs ys) T _ c = H c
    rw [upd_ne h1]
    exact layP_off H Ts xs ys fun q => h (List.mem_cons_of_mem _ q)
theorem layP_at (H : Hp) : ∀ (Ts : List Addr) (xs ys : List V) (j : Nat) (T : Addr) (x y : V), Ts.Nodup → Ts[j]? = some T → xs[j]? = some x → ys[j]? = some y → layP H Ts xs ys T = some (.tup [x, y])
  | [], _, _, _, _, _, _, _, h, _, _ => by simp at h
  | T :: Ts, [], _, _, _, _, _, _, _, h, _ => by simp at h
  | T :: Ts, _ :: _, [], _, _, _, _, _, _, _, h => by simp at h
  | T :: Ts, x :: xs, y :: ys, 0, T', x', y', _, h, hx, hy => by
    have e1 : T = T' := Option.some.inj h
    have e2 : x = x' := Option.some.inj hx
    have e3 : y = y' := Option.some.inj hy
    subst e1 e2 e3
    exact upd_same
  | T :: Ts, x :: xs, y :: ys, j + 1, T', x', y', nd, h, hx, hy => by
    have h' : Ts[j]? = some T' := h
    have hne : T' ≠ T := fun e => (List.nodup_cons.mp nd).1 (by rw [← e]; exact List.mem_of_getElem? h')
    show upd (layP H Ts xs ys) T _ T' = _
    rw [upd_ne hne]
    exact layP_at H Ts xs ys j T' x' y' (List.nodup_cons.mp nd).2 h' hx hy
/-- list(zip(e, e2)) -/
def tLZ (K : PySem.W.Frag) (ta : TA) : TE := fun σ H Q => ta σ H fun vs H1 => ∃ a b xs ys, vs = [.ref a, .ref b] ∧ Sq2 K H1 a xs ∧ Sq2 K H1 b ys ∧
  ∀ (L : Addr) (Ts : List Addr) (H2 : Hp), Same H1 H2 → H1 L = none → H2 L = some (.lst (Ts.map V.ref)) → Ts.length = min xs.length ys.length →
    (∀ (j : Nat) (T : Addr), Ts[j]? = some T → ∃ x y, xs[j]? = some x ∧ ys[j]? = some y ∧ H2 T = some (.tup [x, y])) → Q (.ref L) H2
theorem pe_listZip {X : Cx} {e e2 : Expr} {ta : TA} {p p2 pos pos2 : Pos} (hc : X.calm = true) (hg : Gl X "list") (hm : X.mg "list" = none) (hg2 : Gl X "zip") (hm2 : X.mg "zip" = none) (ha : PA X [e, e2] ta)
    (hs : starEach [e, e2] X.env = (false, eval e X.env) :: starEach [e2] X.env := by rfl) (hpl : (backTo pos2 (starEach [e2] X.env)).any (·.1) = false := by rfl)
    (na : starEach [(Expr.Call (.Name "zip" p2) [e, e2] [] pos2)] X.env = (false, eval (.Call (.Name "zip" p2) [e, e2] [] pos2) X.env) :: starEach [] X.env := by rfl) :
    PE X (.Call (.Name "list" p) [.Call (.Name "zip" p2) [e, e2] [] pos2] [] pos) (tLZ X.K ta) := by
  refine ⟨fun pins s σ H Q I h => ?_⟩
  refine Call_ (ld_blt I hg hm boot_list (PyProof.Rows.callWith_type1 (args_cons ?_ na) na))
  obtain ⟨tk0, I0⟩ : ∃ t : Nat, Inv X pins σ H s := ⟨0, I⟩
  refine Call_ (ld_blt I hg2 hm2 PyProof.Rows.boot_zip (PyProof.Rows.callWith_type1 (thn (ha.run pos2 pins s σ H _ I h) fun us s1 ⟨vs, H1, I1, r1, q1⟩ => ?_) hs hpl))
  obtain ⟨a, b, xs, ys, ex, hx, hy, q⟩ := q1
  subst ex
  obtain ⟨u1, u2, rfl, r1, r2⟩ := vals2 r1
  cases (show u1 = Value.ref a from r1)
  cases (show u2 = Value.ref b from r2)
  obtain ⟨its, o1, B1, fp1, rv1, z1, b1, hb1, f1, d1⟩ := seq_draws I1 hx
  obtain ⟨its2, o2, B2, fp2, rv2, z2, b2, hb2, f2, d2⟩ := seq_draws I1 hy
  obtain ⟨St1, D1, s1'⟩ := d1 s1.heap.objs.size (Nat.le_refl _)
  obtain ⟨St2, D2, s2'⟩ := d2 (s1.heap.objs.size + 1) (Nat.le_succ _)
  have l1 := rv1.length
  have l2 := rv2.length
  refine thn (call_list_zip (n := min its.length its2.length) (Q := fun v s2 => ∃ v' H', Inv X pins σ H' s2 ∧ RelV v' v ∧ Q v' H') (E := X.xe) b1 b2 hb1 hb2 f1 f2 D1 D2 s1' s2' (I1.ok.hd hc) rfl (by omega) fun h' tk Ts c L hl hk hLn hL nd hT => ?_) fun v s2 hq => args_nil hq
  have hT' : ∀ (j : Nat) (T : Addr), Ts[j]? = some T → ∃ x y u v, xs[j]? = some x ∧ ys[j]? = some y ∧ RelV x u ∧ RelV y v ∧ s1.heap.objs.size ≤ T ∧ T ≠ L ∧ IsTupOf2 h' T u v := fun j T e => by
    obtain ⟨g1, g2, u, v, pu, pv, t⟩ := hT j T e
    have hj1 : j < xs.length := by
      rw [l1]; exact (List.getElem?_eq_some_iff.mp pu).1
    have hj2 : j < ys.length := by
      rw [l2]; exact (List.getElem?_eq_some_iff.mp pv).1
    obtain ⟨u', eu, ru⟩ := rv1.get (List.getElem?_eq_getElem hj1)
    obtain ⟨v', ev, rv⟩ := rv2.get (List.getElem?_eq_getElem hj2)
    rw [eu] at pu
    rw [ev] at pv
    cases pu
    cases pv
    exact ⟨_, _, _, _, List.getElem?_eq_getElem hj1, List.getElem?_eq_getElem hj2, ru, rv, g1, g2, t⟩
  have hLT : L ∉ Ts := fun hm => by
    obtain ⟨j, e⟩ := List.getElem?_of_mem hm
    obtain ⟨_, _, _, _, _, _, _, _, _, ne, _⟩ := hT' j L e
    exact ne rfl
  have nTs : ∀ c, c < s1.heap.objs.size → c ∉ Ts := fun c hc hm => by
    obtain ⟨j, e⟩ := List.getElem?_of_mem hm
    obtain ⟨_, _, _, _, _, _, _, _, g, _⟩ := hT' j c e
    exact Nat.lt_irrefl _ (Nat.lt_of_lt_of_le hc g)
  have fr : ∀ c, s1.heap.objs.size ≤ c → H1 c = none := fun c hc => I1.hok.fresh hc
  have old : ∀ c o, H1 c = some o → upd (layP H1 Ts xs ys) L (.lst (Ts.map V.ref)) c = some o := fun c o e => by
    have h1 : c ≠ L := fun z => by rw [z, fr L hLn] at e; cases e
    have h2 : c ∉ Ts := fun hm => by
      obtain ⟨j, e'⟩ := List.getElem?_of_mem hm
      obtain ⟨_, _, _, _, _, _, _, _, g, _⟩ := hT' j c e'
      rw [fr c g] at e; cases e
    rw [upd_ne h1, layP_off H1 Ts xs ys h2]; exact e
  have U : Un X.fs [] H1 (upd (layP H1 Ts xs ys) L (.lst (Ts.map V.ref))) s1.heap h' := {
    keep := fun b o e _ _ _ => hk b o e
    slot := fun b o e _ _ _ => ⟨o.slots, hk b o e⟩
    free := fun b o e n _ => by
      have lb := Heap.lt_size e
      rw [upd_ne (Nat.ne_of_lt (Nat.lt_of_lt_of_le lb hLn)), layP_off H1 Ts xs ys (nTs b lb)]; exact n
    there := fun b o e _ => ⟨o, hk b o e⟩
    tups := fun b xs e => old b _ e
    frzs := fun b o u e => old b _ e
    tbls := fun b ps e => ⟨#[], by rw [old b _ e]; simp⟩ }
  have OK : HOk X.prog X.w (upd (layP H1 Ts xs ys) L (.lst (Ts.map V.ref))) h' := fun b o e => by
    by_cases hb : b = L
    · subst hb
      rw [upd_same] at e
      cases e
      refine ⟨by rw [List.length_map, hl]; omega, Ts.map Value.ref, c, ?_, hL⟩
      clear hT hT' hLT nTs old U hL nd hl q
      induction Ts with
      | nil => exact .nil
      | cons T r ih => exact .cons rfl ih
    · rw [upd_ne hb] at e
      by_cases hbT : b ∈ Ts
      · obtain ⟨j, ej⟩ := List.getElem?_of_mem hbT
        obtain ⟨x, y, u, v, ex, ey, ru, rv, g1, g2, t⟩ := hT' j b ej
        rw [layP_at H1 Ts xs ys j b x y nd ej ex ey] at e
        cases e
        exact ⟨by show 2 ≤ sizeLine; decide, [u, v], .cons ru (.cons rv .nil), ⟨_, t, rfl, _, rfl⟩⟩
      · rw [layP_off H1 Ts xs ys hbT] at e
        exact (I1.hok b o e).stay (fun c v _ q => hk c v q) (fun c q => old c _ q) fun c xs q => old c _ q
  refine ⟨.ref L, _, I1.un (t' := tk) U OK, rfl, q L Ts _ (fun c o e => old c o e) (fr L hLn) upd_same (by rw [hl]; omega) fun j T e => ?_⟩
  obtain ⟨x, y, u, v, ex, ey, ru, rv, g1, g2, t⟩ := hT' j T e
  exact ⟨x, y, ex, ey, by rw [upd_ne g2, layP_at H1 Ts xs ys j T x y nd e ex ey]⟩
end XL
namespace XL
open PySem PySem.Spec PyProof.Rows L2
/-- a def that keeps its promise where no repr is under way -/
structure FnG (P : Program) (w : World) (K : PySem.W.Frag) (mg : Str → Option Value) (base : Heap) (k : Nat) (f : Addr) (fd : FuncData) (ps : List Str) (sp : Sp) : Prop where
  len : ∀ vs H Q E, sp vs H Q E → vs.length = ps.length
  run : ∀ (A : Around) (outer : List Env) (s : Shared) (H : Hp) (args : Args) (us : List Value) (vs : List V) (Q : VK) (E : XK),
    A.guards = some [] → Room k A → Env0 P w K mg base A outer s H → BindsTo s fd args (ps.zip us) → Vals vs us → sp vs H Q E →
    codeAny (model P w) A (.call (.ref f) args) (CR CX0 outer P w H s Q E) s
section
variable {P : Program} {w : World} {K : PySem.W.Frag} {mg : Str → Option Value} {base : Heap}
theorem okG {x qual : Str} {st : Stmt} {f : Addr} {fd : FuncData} {N ps : List Str} {k : Nat} {sp : Sp} (F : Fun K x qual st f fd) (S : FnScope N ps (defScope st)) (len : ∀ vs H Q E, sp vs H Q E → vs.length = ps.length)
    (hbody : ∀ (cdv : Value) (A : Around) (outer : List Env) (s : Shared) (H : Hp) (vs : List V) (Q : VK) (E : XK),
      (A.deeper (envOfC qual (defScope st) s.heap.objs.size f cdv)).guards = some [] → Room k (A.deeper (envOfC qual (defScope st) s.heap.objs.size f cdv)) → sp vs H Q E →
      ∃ t, PSs (cxOf CX0 P w K mg base N qual (defScope st) f cdv A outer s H E).nox (defBody st) t ∧ t { nx := fun _ H' => Q .non H', rt := Q } (start N vs) H) : FnG P w K mg base (k + 1) f fd ps sp := by
  obtain ⟨oc, od, kV, doc, pm, an, cdv, ct, osl, rfl, lk, hcd⟩ := F.ex
  refine ⟨len, fun A outer s H args us vs Q E hgd hr e0 hb r hsp => ?_⟩
  have hl := len _ _ _ _ hsp; have KX : K.In s.heap := e0.mod.kin.keeps fun b o e => (e0.bs b o e).1
  have lim : s.heap.NoLimit := e0.mod.nolimit.keeps fun b o e => (e0.bs b o e).1
  have hkind : ∀ y ∈ ps.zip us, (defScope st).names.lookup y.1 = some .local ∨ ((defScope st).names.lookup y.1 = some .cell ∧ ((cellsFrom (s.heap.objs.size + 1) (defScope st).names []).lookup y.1).isSome = true) := fun ⟨n, v⟩ hy => by
    rcases S.par n (List.of_mem_zip hy).1 with q | q
    · exact .inl q
    · exact .inr ⟨q, PySem.W.cellsFrom_some _ _ _ (.inl q)⟩
  refine codeAny_call_function hr.depth (KX _ _ lk) rfl S.co S.gen rfl (PySem.W.codeRec_of KX hcd) (hb _ _ _ _ (wpAny_newFunctionEnv_cells S.kind hkind fun env he s1 x => ?_))
  subst he
  refine ⟨lim.keeps x.toInCall.keep, codeAny_func ?_⟩
  obtain ⟨t, ht, hq⟩ := hbody cdv A outer s H vs Q E hgd (hr.deeper _) hsp
  have I : Inv (cxOf CX0 P w K mg base N qual (defScope st) f cdv A outer s H E) [] (start N vs) H s1 := inv_start S hr.hd e0 hl r x
  refine wpAny_mono (ht.nox.run [] s1 (start N vs) H _ I hq) (fun fl s' hs => ?_) fun e s' hs => hs
  have fin : ∀ {σ' : L2.St} {H' : Hp} {v : V} {u : Value}, Inv (cxOf CX0 P w K mg base N qual (defScope st) f cdv A outer s H E) [] σ' H' s' → RelV v u → Q v H' → CE outer P w H s Q u s' := fun {σ' H' v u} J rv q =>
    ⟨v, H', J.os, J.bare, J.base, J.hok, rv, q⟩
  cases fl with
  | ret u => obtain ⟨v, σ', H', J, rv, q⟩ := hs; exact fin J rv q
  | next => obtain ⟨σ', H', J, q⟩ := hs; exact fin (v := V.non) (u := Value.none) J rfl q
  | brk => obtain ⟨_, _, _, q⟩ := hs; exact False.elim q
  | cont => obtain ⟨_, _, _, q⟩ := hs; exact False.elim q
theorem FnG.of {k : Nat} {f : Addr} {fd : FuncData} {ps : List Str} {sp : Sp} (F : FnOk P w K mg base CX0 k f fd ps sp) : FnG P w K mg base k f fd ps sp :=
  ⟨F.len, fun A outer s H args us vs Q E _ hr e0 hb r h => F.run A outer s H args us vs Q E hr e0 hb r h⟩
end
section
variable {X : Cx} {k : Nat} {f C : Addr} {fd : FuncData} {ps ks : List Str} {sp : Sp} {x m : Str} {p pos apos : Pos} {e o : Expr} {es : List Expr} {ta : TE} {t tk : TA} {kws : List Keyword}
/-- f(e, ..) of such a def -/
theorem pe_callG (hG : X.A.guards = some []) (F : FnG X.prog X.w X.K X.mg X.base k f fd ps sp) (hr : Room k X.A) (hg : Gl X x) (hm : X.mg x = some (.ref f)) (hk : PySem.W.keepIn X.K (.ref f) = true) (hb : Binds X.K fd ps [])
    (ha : PA X (e :: es) t) (hdb : (x == ("__debug__" : Str)) = false := by decide) (he : starEach (e :: es) X.env = (false, eval e X.env) :: starEach es X.env := by rfl)
    (hpl : (backTo pos (starEach es X.env)).any (·.1) = false := by rfl) : PE X (.Call (.Name x p) (e :: es) [] pos) (tCall sp [] E0 t) := by
  refine ⟨fun pins s σ H Q I h => wpAny_Call_Name_kw (ld_glob I hg hm ?_ hdb)⟩
  refine PySem.W.callWith_K (h₀ := X.base) I.ok.mod.kin hk (thn (ha.run pos pins s σ H _ I h) fun us s1 ⟨vs, H1, I1, r, q⟩ => ⟨I1.kIn, ?_⟩) he hpl
  have q' : sp vs H1 Q E0 := by have q2 : sp (vs ++ []) H1 Q E0 := q; rwa [List.append_nil] at q2
  have hl : us.length = ps.length := by rw [← r.length]; exact F.len _ _ _ _ q'
  have hb' : BindsTo s1 fd ⟨us, []⟩ (ps.zip us) := by have b2 := hb s1 us I1.kIn (by rw [List.append_nil]; exact hl); rwa [List.append_nil] at b2
  refine wpAny_call (codeAny_mono (F.run X.A X.stack s1 H1 ⟨us, []⟩ us vs Q E0 hG hr I1.env0 hb' r q') fun r s' hq => ?_)
  cases r with
  | error e => exact False.elim hq
  | ok fl =>
    cases fl with
    | ret u => exact I1.after hq
    | next => exact False.elim hq
    | brk => exact False.elim hq
    | cont => exact False.elim hq
variable {CX : CXT} {E : XK} {g : List Value → List Value → List Value} {gV : List V → List V → List V}
/-- f(k = v, ..), no argument by place -/
theorem pe_callK0 (F : FnOk X.prog X.w X.K X.mg X.base CX k f fd ps sp) (hr : Room k X.A) (hg : Gl X x) (hm : X.mg x = some (.ref f)) (hk : PySem.W.keepIn X.K (.ref f) = true) (hb : KBinds X.K fd ps ks g gV) (hx : Passes CX X E)
    (hkw : PK X kws tk) (hall : (backToKw pos (keywordEach kws X.env)).all (·.1.isSome) = true := by rfl) (hks : (backToKw pos (keywordEach kws X.env)).filterMap (·.1) = ks := by rfl)
    (hdb : (x == ("__debug__" : Str)) = false := by decide)
    (hpl : ((backTo pos (starEach [] X.env)).any (·.1) || (backToKw pos (keywordEach kws X.env)).any (·.1.isNone)) = false := by rfl) :
    PE X (.Call (.Name x p) [] kws pos) (fun σ H Q => tk σ H fun zs H2 => sp (gV [] zs) H2 Q E) := by
  refine ⟨fun pins s σ H Q I h => wpAny_Call_Name_kw (ld_glob I hg hm ?_ hdb)⟩
  refine PySem.W.callWith_KW0 (h₀ := X.base) I.ok.mod.kin hk hall (thn (hkw.run pos pins s σ H _ I h) fun ws s2 ⟨zs, H2, I2, rz, q2⟩ => ⟨I2.kIn, ?_⟩) hpl
  rw [hks]
  exact run_fnk F hr hb hx I2 .nil rz q2
end
/-! ### the head -/
theorem law_callG {P : Program} {w : World} {K : PySem.W.Frag} {mg mb : Str → Option Value} {k : Nat} {fa a : Addr} {fd : FuncData} {x : Str} {sp : Sp} {s₁ : Shared} {vs : List Value} {ns : List Int}
    (KX : K.In s₁.heap) (hns : s₁.heap.Ns mainGlobals mg) (hb : s₁.heap.Ns builtinsNs mb) (hbb : ∀ x : Str, x ≠ "__name__" → mb x = bootBuiltins x) (hlim : s₁.heap.NoLimit) (hg : s₁.gens = #[])
    (ha : s₁.heap.get? a = some { cls := .type "list", data := .seq vs.toArray }) (hi : IntsAre vs ns) (hl : ns.length ≤ sizeLine) (hr : Room k callerA)
    (F : ∀ base : Heap, K.In base → base.Ns mainGlobals mg → FnG P w K mg base k fa fd [x] sp) (hbind : ∀ (s : Shared) (u : Value), BindsTo s fd ⟨[u], []⟩ [(x, u)])
    (hsp : ∀ H : Hp, Only H → SqL K H a (ns.map V.int) → sp [.ref a] H (fun v _ => v = .bl true) fun _ _ _ => False) :
    codeAny (model P w) callerA (.call (.ref fa) ⟨[.ref a], []⟩) (fun r s' => r = .ok (.ret (.bool true)) ∧ OldK s₁.heap s'.heap ∧ s'.os = s₁.os ∧ AllBare s'.gens) s₁ := by
  have rv := vals_ints hi; have lenV := hi.length
  have core : ∀ H : Hp, Only H → SqL K H a (ns.map V.int) → HOk P w H s₁.heap → (∀ b, H b ≠ none → b = a) → (H a ≠ none → K.lookup a = none) → codeAny (model P w) callerA (.call (.ref fa) ⟨[.ref a], []⟩)
      (fun r s' => r = .ok (.ret (.bool true)) ∧ OldK s₁.heap s'.heap ∧ s'.os = s₁.os ∧ AllBare s'.gens) s₁ := by
    intro H hO hS hok hA hK
    have noA : ∀ {b : Addr} {o : Obj} {es : Array DictEntry} {ep : Nat}, s₁.heap.get? b = some o → o.data = .dict es ep → H b = none := by
      intro b o es ep e d
      cases q : H b with
      | none => rfl
      | some u =>
        have e' : b = a := hA b (by rw [q]; simp)
        subst e'; rw [ha] at e; cases e
        exact absurd (show Data.seq vs.toArray _ = Data.dict es ep from d) (by simp)
    have nsK : ∀ {b : Addr} {m : Str → Option Value}, s₁.heap.Ns b m → (hidT s₁.heap H).Ns b m := by
      intro b m hm
      obtain ⟨o, es, ep, e, d, r⟩ := hm
      exact ⟨o, es, ep, hidT_get e (noA e d), d, r⟩
    have hKb : K.In (hidT s₁.heap H) := by
      intro b o e
      refine hidT_get (KX b o e) ?_
      cases q : H b with
      | none => rfl
      | some u =>
        have e' : b = a := hA b (by rw [q]; simp)
        subst e'; rw [hK (by rw [q]; simp)] at e; cases e
    have hM : Mod K mg (hidT s₁.heap H) := by
      obtain ⟨mc, c1, c2⟩ := hlim
      exact ⟨hKb, nsK hns, ⟨mb, nsK hb, hbb⟩, ⟨mc, nsK c1, c2⟩⟩
    have e0 : Env0 P w K mg (hidT s₁.heap H) callerA [] s₁ H := by
      refine ⟨rfl, hM, fun b o e => of_hidT e, Nat.le_of_eq (hidT_size _ _), trivial, fun b hb => ?_, hok, .of_eq hg⟩
      exact absurd (show b ∈ ([] : List Addr) from hb) (by simp)
    refine codeAny_mono ((F _ hKb (nsK hns)).run callerA [] s₁ H ⟨[.ref a], []⟩ [.ref a] [.ref a] _ _ rfl hr e0 (hbind s₁ (.ref a)) (.cons rfl .nil) (hsp H hO hS)) fun r s' h => ?_
    cases r with
    | error e => exact False.elim h
    | ok fl =>
      cases fl with
      | next => exact False.elim h
      | brk => exact False.elim h
      | cont => exact False.elim h
      | ret u =>
        obtain ⟨v, H', os, bare, un, hok', r', q⟩ := h
        have q' : v = .bl true := q
        subst q'
        obtain rfl : u = Value.bool true := r'
        refine ⟨rfl, OldK.of_keep fun b o e => ?_, os, bare⟩
        cases q : H b with
        | none => exact un.keep b o e q (by intro z; exact absurd (show b ∈ ([] : List Addr) from z) (by simp)) (by simp)
        | some u =>
          rcases hO b with z | ⟨ob, xs, z⟩
          · rw [q] at z; cases z
          · have z2 := un.frzs b ob _ z
            obtain ⟨e1, _⟩ := hok b _ z; obtain ⟨e2, _⟩ := hok' b _ z2
            rw [e] at e1; cases e1; exact e2
  cases hk : K.lookup a with
  | some o =>
    have e := KX a o hk
    rw [ha] at e; cases e
    refine core (fun _ => none) (fun _ => .inl rfl) ?_ (fun b u z => nomatch z) (fun b z => absurd rfl z) fun z => absurd rfl z
    exact .inr ⟨_, vs.toArray, _, hk, rfl, rfl, rfl, by rw [List.size_toArray, lenV]; exact hl, by simpa using rv⟩
  | none =>
    refine core (fun b => if b = a then some (.frz { cls := .type "list", data := .seq vs.toArray } (.lst (ns.map V.int))) else none) (fun b => ?_) (.inl (.inr ⟨_, if_pos rfl⟩)) (fun b u z => ?_) (fun b z => ?_) fun _ => hk
    · by_cases hb : b = a
      · exact .inr ⟨_, _, if_pos hb⟩
      · exact .inl (if_neg hb)
    · by_cases hb : b = a
      · have z' := (if_pos hb).symm.trans z
        cases z'; subst hb
        exact ⟨ha, by rw [List.length_map]; exact hl, vs, _, rv, ha⟩
      · have z' := (if_neg hb).symm.trans z
        cases z'
    · by_cases hb : b = a
      · exact hb
      · exact absurd (if_neg hb) z
theorem walkG {l : PySem.W.OpenLaw} {n k : Nat} {q : Program} {loose : List Str} {XP : (Str → Option Value) → Heap → Prop} {YP : World → Heap → Prop} {d : DefRec} {K : Params → PySem.W.Frag} {sp : PySem.W.Frag → Sp} {x : Str}
    (hn : l.most = some n) (hn2 : n ≤ sizeLine) (hdf : d.params.defaults = []) (hr : Room k callerA) (hY : ∀ (w : World) (h : Heap), YP w h → (K w.params).In h)
    (F : ∀ (w : World) (mg : Str → Option Value) (fa : Addr) (h : Heap), (K w.params).In h → h.Ns mainGlobals mg → mg d.name = some (.ref fa) →
      ∃ fd : FuncData, (∀ (s : Shared) (u : Value), BindsTo s fd ⟨[u], []⟩ [(x, u)]) ∧ ∀ base : Heap, (K w.params).In base → base.Ns mainGlobals mg → FnG l.prog w (K w.params) mg base k fa fd [x] (sp (K w.params)))
    (hsp : ∀ (K : PySem.W.Frag) (H : Hp) (a : Addr) (ns : List Int), ns.length ≤ n → Only H → SqL K H a (ns.map V.int) → sp K [.ref a] H (fun v _ => v = .bl true) fun _ _ _ => False) :
    PySem.W.WalkO q loose XP YP l.row.toRowW d [] (fun f vs => PySem.call f vs) := by
  refine Att.attach_call hn hdf fun w s₀ s₁ mg mb fa o pm cd doc a vs ns G Y ho hd hcd hmg hobj hints hlen hg => ?_
  have KX := hY w _ Y
  obtain ⟨fd, hb, hF⟩ := F w mg fa _ KX G.T.g hmg
  exact law_callG KX G.T.g G.T.b G.T.builtins G.T.nolimit hg hobj hints (Nat.le_trans hlen hn2) hr hF hb fun H hO hS => hsp (K w.params) H a ns hlen hO hS
/-! ### repr of data -/
def tRep (K : PySem.W.Frag) (te : TE) : TE := fun σ H Q => te σ H fun x H1 => ∃ a d, x = .ref a ∧ Dp K H1 x d ∧ d.showable = true ∧ d.hasDict = false ∧ d.depth ≤ 50 ∧ d.shown.length ≤ sizeLine ∧ Q (.str d.shown) H1
theorem pe_rep {X : Cx} {k : Nat} {e : Expr} {te : TE} {p pos : Pos} (hG : X.A.guards = some []) (hr : Room k X.A) (hg : Gl X "repr") (hm : X.mg "repr" = none) (hb : bootBuiltins "repr" = some (.builtin "repr")) (ha : PE X e te)
    (he : starEach [e] X.env = (false, eval e X.env) :: starEach [] X.env := by rfl) : PE X (.Call (.Name "repr" p) [e] [] pos) (tRep X.K te) := by
  refine ⟨fun pins s σ H Q I h => wpAny_Call_Name_kw (ld_blt I hg hm hb ?_)⟩
  refine PyProof.Rows.callWith_builtin1 (args_cons (thn (ha.run pins s σ H _ I h) fun u s1 ⟨v, H1, I1, r1, q1⟩ => args_nil ?_) he) he rfl
  obtain ⟨a, d, ex, hd, hs, hno, hdp, hz, q⟩ := q1
  subst ex
  obtain ⟨as, rd⟩ := Dp.reads I1 d _ u hd r1
  cases (show u = Value.ref a from r1)
  have hu := hr.un
  refine repr_of_reads' rd hs (fun z => absurd z (by rw [hno]; decide)) hG (by omega) (fun b o e => e) (fun h' u tk hk => ?_) hz
  exact ⟨.str d.shown, H1, I1.kept hk, ⟨_, rfl⟩, q⟩
end XL
namespace XL
open PySem PySem.Spec PyProof.Rows L2
section
variable {K : PySem.W.Frag} {H H' : Hp}
/-! ### data stays -/
mutual
theorem Dp.same (s : Same H H') : ∀ {v : V} (d : PyData), Dp K H v d → Dp K H' v d
  | _, .none, h => by cases h; exact .non
  | _, .bool b, h => by cases h; exact .bl b
  | _, .int i, h => by cases h; exact .int i
  | _, .str x, h => by cases h; exact .str x
  | _, .list ds, h => by
    cases h with
    | lst hs ha => exact .lst (s.seq hs) (DpAll.same s ds ha)
  | _, .tuple ds, h => by
    cases h with
    | tup hs ha => exact .tup (Same.tup s hs) (DpAll.same s ds ha)
  | _, .dict _, h => by cases h
theorem DpAll.same (s : Same H H') : ∀ {vs : List V} (ds : List PyData), DpAll K H vs ds → DpAll K H' vs ds
  | _, [], h => by cases h; exact .nil
  | _, d :: ds, h => by
    cases h with
    | cons h1 h2 => exact .cons (Dp.same s d h1) (DpAll.same s ds h2)
end
theorem DpAll.length : ∀ {vs : List V} {ds : List PyData}, DpAll K H vs ds → vs.length = ds.length
  | _, _, .nil => rfl
  | _, _, .cons _ h => by rw [List.length_cons, List.length_cons, DpAll.length h]
theorem DpAll.get : ∀ {vs : List V} {ds : List PyData} {i : Nat} {v : V}, DpAll K H vs ds → vs[i]? = some v → ∃ d, ds[i]? = some d ∧ Dp K H v d
  | _, _, i, v, .nil, h => by simp at h
  | _, _, 0, v, .cons a _, h => by cases h; exact ⟨_, rfl, a⟩
  | _, _, i + 1, v, .cons _ r, h => DpAll.get r (i := i) h
theorem DpAll.get' : ∀ {vs : List V} {ds : List PyData} {i : Nat} {d : PyData}, DpAll K H vs ds → ds[i]? = some d → ∃ v, vs[i]? = some v ∧ Dp K H v d
  | _, _, i, v, .nil, h => by simp at h
  | _, _, 0, v, .cons a _, h => by cases h; exact ⟨_, rfl, a⟩
  | _, _, i + 1, v, .cons _ r, h => DpAll.get' r (i := i) h
theorem DpAll.app : ∀ {vs ws : List V} {ds es : List PyData}, DpAll K H vs ds → DpAll K H ws es → DpAll K H (vs ++ ws) (ds ++ es)
  | _, _, _, _, .nil, h => h
  | _, _, _, _, .cons a r, h => .cons a (DpAll.app r h)
theorem DpAll.snoc {vs : List V} {v : V} {ds : List PyData} {d : PyData} (a : DpAll K H vs ds) (h : Dp K H v d) : DpAll K H (vs ++ [v]) (ds ++ [d]) := DpAll.app a (.cons h .nil)
/-! ### kinds -/
def isSeq : PyData → Bool
  | .list _ => true
  | .tuple _ => true
  | _ => false
def tyD : PyData → Value
  | .none => .type "NoneType"
  | .bool _ => .type "bool"
  | .int _ => .type "int"
  | .str _ => .type "str"
  | .list _ => .type "list"
  | .tuple _ => .type "tuple"
  | .dict _ => .type "dict"
theorem tyx_of {v : V} {d : PyData} (h : Dp K H v d) : TyX K H v (tyD d) := by
  cases h with
  | non => exact .base .non
  | bl b => exact .base (.bl b)
  | int i => exact .base (.int i)
  | str x => exact .base (.str x)
  | lst hs _ =>
    rcases hs with (hs | ⟨o, hs⟩) | ⟨o, its, n, hk, hc, _⟩
    · exact .base (.lst hs)
    · exact .base (.frz hs)
    · exact .kList hk hc
  | tup hs _ =>
    rcases hs with (hs | ⟨o, hs⟩) | ⟨o, its, n, hk, hc, _⟩
    · exact .base (.tup hs)
    · exact .fTuple hs
    · exact .kTuple hk hc
theorem kit1 {t : String} {u : String} {b : Bool} (h : kitB t u = some b) : PySem.W.kitOne K (.type t) (.type u) = some b := kit_ty h
theorem kit2 {t u v : String} {a b : Bool} (h : kitB t u = some a) (h2 : kitB t v = some b) : PySem.W.kitAny K (.type t) [.type u, .type v] = some (a || b) := by
  refine kitAny_cons (kit_ty h) (fun e => ?_) (fun e => ?_)
  · subst e
    refine kitAny_cons (kit_ty h2) (fun e => ?_) (fun e => ?_)
    · subst e; rfl
    · subst e; rfl
  · subst e; rfl
theorem seq_kit (d : PyData) (h : ∀ kvs, d ≠ .dict kvs) : PySem.W.kitAny K (tyD d) [.type "list", .type "tuple"] = some (isSeq d) := by
  cases d with
  | none => exact kit2 (a := false) (b := false) (by decide +kernel) (by decide +kernel)
  | bool b => exact kit2 (a := false) (b := false) (by decide +kernel) (by decide +kernel)
  | int i => exact kit2 (a := false) (b := false) (by decide +kernel) (by decide +kernel)
  | str x => exact kit2 (a := false) (b := false) (by decide +kernel) (by decide +kernel)
  | list ds => exact kit2 (a := true) (b := false) (by decide +kernel) (by decide +kernel)
  | tuple ds => exact kit2 (a := false) (b := true) (by decide +kernel) (by decide +kernel)
  | dict kvs => exact absurd rfl (h kvs)
theorem Dp.nodict {v : V} {d : PyData} (h : Dp K H v d) : ∀ kvs, d ≠ .dict kvs := fun kvs e => by subst e; cases h
end
/-! ### data of bounded depth and width -/
def okD : Nat → PyData → Prop
  | 0, _ => False
  | n + 1, .list ds => ds.length ≤ 1000 ∧ ∀ d ∈ ds, okD n d
  | n + 1, .tuple ds => ds.length ≤ 1000 ∧ ∀ d ∈ ds, okD n d
  | _ + 1, _ => True
mutual
/-- lists as tuples -/
def tupD : PyData → PyData
  | .list ds => .tuple (tupDs ds)
  | .tuple ds => .tuple (tupDs ds)
  | .none => .none
  | .bool b => .bool b
  | .int i => .int i
  | .str x => .str x
  | .dict k => .dict k
def tupDs : List PyData → List PyData
  | [] => []
  | d :: ds => tupD d :: tupDs ds
end
mutual
/-- tuples as lists -/
def lstD : PyData → PyData
  | .list ds => .list (lstDs ds)
  | .tuple ds => .list (lstDs ds)
  | .none => .none
  | .bool b => .bool b
  | .int i => .int i
  | .str x => .str x
  | .dict k => .dict k
def lstDs : List PyData → List PyData
  | [] => []
  | d :: ds => lstD d :: lstDs ds
end
theorem tupDs_eq : ∀ ds : List PyData, tupDs ds = ds.map tupD
  | [] => rfl
  | d :: ds => by rw [tupDs, tupDs_eq ds]; rfl
theorem lstDs_eq : ∀ ds : List PyData, lstDs ds = ds.map lstD
  | [] => rfl
  | d :: ds => by rw [lstDs, lstDs_eq ds]; rfl
def itemsD : PyData → List PyData
  | .list ds => ds
  | .tuple ds => ds
  | _ => []
theorem seq_of {K : PySem.W.Frag} {H : Hp} {v : V} {d : PyData} (h : Dp K H v d) (hs : isSeq d = true) : ∃ a xs, v = .ref a ∧ Sq2 K H a xs ∧ DpAll K H xs (itemsD d) := by
  cases h with
  | lst h1 h2 => exact ⟨_, _, rfl, .inl h1, h2⟩
  | tup h1 h2 => exact ⟨_, _, rfl, .inr h1, h2⟩
  | _ => simp [isSeq] at hs
theorem okD_items {n : Nat} {d : PyData} (h : okD (n + 1) d) (hs : isSeq d = true) : (∀ e ∈ itemsD d, okD n e) ∧ (itemsD d).length ≤ 1000 := by
  cases d with
  | list ds => exact ⟨h.2, h.1⟩
  | tuple ds => exact ⟨h.2, h.1⟩
  | _ => simp [isSeq] at hs
theorem small {n : Nat} (h : n ≤ 1000) : n ≤ sizeLine := Nat.le_of_lt (small1000 h)
end XL
namespace XL
open PySem PySem.Spec PyProof.Rows L2
/-! ### a list that is hidden while an expression is evaluated -/
theorem same_delH {H : Hp} {D : Addr} {o : HO} : Same (delH H D) (upd H D o) := fun b x e => by
  by_cases hb : b = D
  · rw [hb, delH_same] at e; cases e
  · rw [delH_ne hb] at e; rw [upd_ne hb]; exact e
theorem delH_none {H : Hp} {D : Addr} (h : H D = none) : delH H D = H := by
  funext b
  by_cases hb : b = D
  · rw [hb, delH_same, h]
  · rw [delH_ne hb]
theorem delH_upd {H : Hp} {D : Addr} {o : HO} (h : H D = none) : delH (upd H D o) D = H := delH_new h
theorem upd_upd {H : Hp} {D : Addr} {o o' : HO} : upd (upd H D o) D o' = upd H D o' := by
  funext b
  by_cases hb : b = D
  · rw [hb, upd_same, upd_same]
  · rw [upd_ne hb, upd_ne hb, upd_ne hb]
theorem upd_comm {H : Hp} {D T : Addr} {o o' : HO} (h : T ≠ D) : upd (upd H D o) T o' = upd (upd H T o') D o := by
  funext b
  by_cases hb : b = D
  · rw [hb, upd_same, upd_ne (fun e => h e.symm), upd_same]
  · by_cases hT : b = T
    · rw [hT, upd_same, upd_ne h, upd_same]
    · rw [upd_ne hT, upd_ne hb, upd_ne hb, upd_ne hT]
section
variable {X : Cx} {pins : List (Addr × Obj)} {σ : L2.St} {H : Hp} {s s' : Shared} {D : Addr} {xs : List V}
theorem Inv.hide (I : Inv X pins σ H s) (hD : H D = some (.lst xs)) : ∃ (its : List Value) (n : Nat), Vals xs its ∧ xs.length ≤ sizeLine ∧
    Inv X ((D, { cls := .type "list", dict := none, data := .seq its.toArray n, slots := #[] }) :: pins) σ (delH H D) s := by
  obtain ⟨hz, its, n, rv, ho⟩ := (show ObjOk X.prog X.w H s.heap D (.lst xs) from I.hok D _ hD)
  have ne : ∀ {b : Addr}, H b = none → b ≠ D := fun {b} h e => by rw [e, hD] at h; cases h
  have hN : ∀ {b : Addr}, H b = none → delH H D b = none := fun {b} h => by rw [delH_ne (ne h)]; exact h
  refine ⟨its, n, rv, hz, ⟨I.ok, I.os, I.bare, ⟨I.base.keep, I.base.slot, fun b o e n hx => hN (I.base.free b o e n hx), I.base.there, fun b ys e => ?_, fun b o u e => ?_, fun b ps e => ?_⟩, I.loc, I.cell, hN I.free, fun x c e => hN (I.freeC x c e), fun p hp => ?_, fun b o e => ?_, I.len⟩⟩
  · have q := I.base.tups b ys e
    rw [delH_ne (fun z => by rw [z, hD] at q; cases q)]; exact q
  · have q := I.base.frzs b o u e
    rw [delH_ne (fun z => by rw [z, hD] at q; cases q)]; exact q
  · obtain ⟨m, q⟩ := I.base.tbls b ps e
    exact ⟨m, by rw [delH_ne (fun z => by rw [z, hD] at q; cases q)]; exact q⟩
  · rcases List.mem_append.mp hp with hp | hp
    · obtain ⟨a1, a2, a3⟩ := I.pin p (List.mem_append_left _ hp)
      exact ⟨a1, hN a2, a3⟩
    · rcases List.mem_cons.mp hp with e | hp
      · subst e
        refine ⟨ho, delH_same, fun e => ?_, fun hf => ?_, fun v e => nomatch e⟩
        · have := I.free; rw [show X.env.locals = D from e.symm, hD] at this; cases this
        · obtain ⟨_, o, q, _⟩ := I.ok.funs.mem hf
          have := I.base.free D o q (I.ok.frf D hf) fun z => I.ok.exfs D z hf
          rw [hD] at this; cases this
      · obtain ⟨a1, a2, a3⟩ := I.pin p (List.mem_append_right _ hp)
        exact ⟨a1, hN a2, a3⟩
  · have hb : b ≠ D := fun z => by rw [z, delH_same] at e; cases e
    rw [delH_ne hb] at e
    refine (I.hok b o e).stay (fun c v _ q => q) (fun c q => ?_) fun c ys q => ?_
    · rw [delH_ne (fun z => by rw [z, hD] at q; cases q)]; exact q
    · rw [delH_ne (fun z => by rw [z, hD] at q; cases q)]; exact q
theorem Inv.unhide {H' : Hp} {its : List Value} {n : Nat} (I : Inv X pins σ H s) (hD : H D = some (.lst xs)) (rv : Vals xs its) (hz : xs.length ≤ sizeLine)
    (J : Inv X ((D, { cls := .type "list", dict := none, data := .seq its.toArray n, slots := #[] }) :: pins) σ H' s') : H' D = none ∧ Inv X pins σ (upd H' D (.lst xs)) s' := by
  obtain ⟨ho, hn, _, _, _⟩ := J.pin (D, _) (List.mem_append_right _ (List.mem_cons_self ..))
  have hn' : H' D = none := hn
  have ne : ∀ {b : Addr}, H b = none → b ≠ D := fun {b} h e => by rw [e, hD] at h; cases h
  refine ⟨hn', ⟨J.ok, J.os, J.bare, ⟨J.base.keep, J.base.slot, fun b o e n hx => ?_, J.base.there, fun b ys e => ?_, fun b o u e => ?_, fun b ps e => ?_⟩, J.loc, J.cell, ?_, fun x c e => ?_, fun p hp => ?_, fun b o e => ?_, J.len⟩⟩
  · rw [upd_ne (ne (I.base.free b o e n hx))]; exact J.base.free b o e n hx
  · have q := J.base.tups b ys e
    rw [upd_ne (fun z => by rw [z, hn'] at q; cases q)]; exact q
  · have q := J.base.frzs b o u e
    rw [upd_ne (fun z => by rw [z, hn'] at q; cases q)]; exact q
  · obtain ⟨m, q⟩ := J.base.tbls b ps e
    exact ⟨m, by rw [upd_ne (fun z => by rw [z, hn'] at q; cases q)]; exact q⟩
  · rw [upd_ne (ne I.free)]; exact J.free
  · rw [upd_ne (ne (I.freeC x c e))]; exact J.freeC x c e
  · obtain ⟨_, a0, _⟩ := I.pin p hp
    have hp' : p ∈ X.pn ++ ((D, ({ cls := .type "list", dict := none, data := .seq its.toArray n, slots := #[] } : Obj)) :: pins) := by
      rcases List.mem_append.mp hp with h | h
      · exact List.mem_append_left _ h
      · exact List.mem_append_right _ (List.mem_cons_of_mem _ h)
    obtain ⟨a1, a2, a3⟩ := J.pin p hp'
    exact ⟨a1, by rw [upd_ne (ne a0)]; exact a2, a3⟩
  · by_cases hb : b = D
    · subst hb
      rw [upd_same] at e
      cases e
      exact ⟨hz, its, n, rv, ho⟩
    · rw [upd_ne hb] at e
      refine (J.hok b o e).stay (fun c v _ q => q) (fun c q => ?_) fun c ys q => ?_
      · rw [upd_ne (fun z => by rw [z, hn'] at q; cases q)]; exact q
      · rw [upd_ne (fun z => by rw [z, hn'] at q; cases q)]; exact q
end
/-- e, evaluated while the list at D is hidden -/
def tHide (t : TE) : TE := fun σ H Q => ∃ D xs, H D = some (.lst xs) ∧ t σ (delH H D) fun v H' => H' D = none → Q v (upd H' D (.lst xs))
theorem pe_hide {X : Cx} {e : Expr} {t : TE} (h : PE X e t) : PE X e (tHide t) := by
  refine ⟨fun pins s σ H Q I q => ?_⟩
  obtain ⟨D, xs, hD, q⟩ := q
  obtain ⟨its, n, rv, hz, J⟩ := Inv.hide I hD
  refine thn (h.run _ s σ _ _ J q) fun u s' hu => ?_
  obtain ⟨v, H', J', r, q'⟩ := hu
  obtain ⟨hn, I'⟩ := Inv.unhide I hD rv hz J'
  exact ⟨v, _, I', r, q' hn⟩
theorem wipe_none {σ : L2.St} {i : Nat} : ∀ {vs : List Nat}, i ∈ vs → (wipe σ vs).set i none = wipe σ vs
  | [], h => by simp at h
  | v :: vs, h => by
    show ((wipe σ vs).set v none).set i none = (wipe σ vs).set v none
    by_cases e : i = v
    · rw [e, List.set_set]
    · have h' : i ∈ vs := by rcases List.mem_cons.mp h with q | q; exact absurd q e; exact q
      rw [List.set_comm _ _ (fun q => e q.symm), wipe_none h']
theorem wipe_put {σ : L2.St} {i : Nat} {x : Option V} : ∀ {vs : List Nat}, i ∉ vs → wipe (σ.set i x) vs = (wipe σ vs).set i x
  | [], _ => rfl
  | v :: vs, h => by
    show (wipe (σ.set i x) vs).set v none = ((wipe σ vs).set v none).set i x
    rw [wipe_put (fun q => h (List.mem_cons_of_mem _ q)), List.set_comm _ _ (fun q => h (by rw [q]; exact List.mem_cons_self ..))]
theorem w1 {σ σ' : L2.St} {i : Nat} {x : Option V} {vs : List Nat} (h : i ∈ vs) (e : wipe σ' vs = wipe σ vs) : wipe (σ'.set i x) vs = wipe σ vs := by
  have key : ∀ {vs : List Nat}, i ∈ vs → wipe (σ'.set i x) vs = wipe σ' vs := by
    intro vs h
    induction vs with
    | nil => simp at h
    | cons v vs ih =>
      show (wipe (σ'.set i x) vs).set v none = (wipe σ' vs).set v none
      by_cases hm : i ∈ vs
      · rw [ih hm]
      · have ev : i = v := by rcases List.mem_cons.mp h with q | q; exact q; exact absurd q hm
        rw [wipe_put hm, ← ev, List.set_set]
  rw [key h, e]
theorem w0 {σ : L2.St} {vs : List Nat} : wipe (wipe σ vs) vs = wipe σ vs := by
  have key : ∀ ws : List Nat, (∀ i ∈ ws, i ∈ vs) → wipe (wipe σ vs) ws = wipe σ vs := by
    intro ws
    induction ws with
    | nil => intro _; rfl
    | cons w ws ih =>
      intro h
      show (wipe (wipe σ vs) ws).set w none = wipe σ vs
      rw [ih (fun i hi => h i (List.mem_cons_of_mem _ hi)), wipe_none (h w (List.mem_cons_self ..))]
  exact key vs fun i h => h
/-- a comprehension that makes one value a turn -/
theorem lc_map {J : It} {n : Nat} {G : Hp → Prop} {Y : Nat → Hp → V → Hp → Prop} (w : Walk J n G Y) (Rl : Hp → Hp → Prop) (tr : ∀ {A B C}, Rl A B → Rl B C → Rl A C)
    (R : Nat → V → Hp → Prop) (st : ∀ i y A B, Rl A B → R i y A → R i y B) {g : TG} {t : TE} {vs : List Nat} {σ : L2.St} {H1 : Hp} {Qd : Addr → Hp → Prop} (hz : n < sizeLine)
    (rf : Rl H1 H1) (hG : ∀ F D acc, Rl H1 F → F D = none → G (upd F D (.lst acc)))
    (hs : ∀ i x D acc F H', i < n → H1 D = none → Rl H1 F → F D = none → Y i (upd F D (.lst acc)) x H' → ∀ B : L2.St → Hp → Prop, (∀ σ2 Fm, wipe σ2 vs = wipe σ vs → Fm D = none →
      (∀ Qt : VK, (∀ y F', Rl F F' → R i y F' → Qt y F') → t σ2 Fm Qt) → B σ2 (upd Fm D (.lst acc))) → g x (wipe σ vs) H' B)
    (hd : ∀ D ys F, H1 D = none → Rl H1 F → F D = none → ys.length = n → (∀ (i : Nat) y, ys[i]? = some y → R i y F) → Qd D (upd F D (.lst ys))) :
    ∀ D, H1 D = none → ∃ W : Nat → Nat → Hp → Prop, (∃ m, W 0 m (upd H1 D (.lst []))) ∧ ∀ i m H, W i m H →
      (J.stop i H ∧ Qd D H) ∨ (J.go i H ∧ ∃ Nx : Hp → Prop, (∀ H', Nx H' → ∃ m', m' < m ∧ W (i + 1) m' H') ∧ ∀ x H', J.yld i H x H' → g x (wipe σ vs) H' fun σ2 H2 => wipe σ2 vs = wipe σ vs ∧ tYes σ2 H2 fun b H3 =>
        if b = true then tHide t σ2 H3 fun y H4 => ∃ acc, H4 D = some (.lst acc) ∧ acc.length < sizeLine ∧ Nx (upd H4 D (.lst (acc ++ [y]))) else Nx H3) := by
  intro D nD
  refine lc_it w (fun i H => ∃ ys F, H = upd F D (.lst ys) ∧ F D = none ∧ Rl H1 F ∧ ys.length = i ∧ ∀ (j : Nat) y, ys[j]? = some y → R j y F) ⟨[], H1, rfl, nD, rf, rfl, fun j y e => by simp at e⟩ ?_ ?_ ?_
  · rintro i H _ ⟨ys, F, rfl, nF, rl, _, _⟩
    exact hG F D ys rl nF
  · rintro i x H H' hi ⟨ys, F, rfl, nF, rl, hl, hR⟩ hy
    refine hs i x D ys F H' hi nD rl nF hy _ fun σ2 Fm hw nm ht => ⟨hw, ?_⟩
    unfold tYes; dsimp only
    rw [if_pos rfl]
    refine ⟨D, ys, upd_same, ?_⟩
    rw [delH_upd nm]
    refine ht _ fun y F' rl' r nF' => ⟨ys, upd_same, by omega, ys ++ [y], F', upd_upd, nF', tr rl rl', by rw [List.length_append, hl]; rfl, fun j z e => ?_⟩
    by_cases hj : j < ys.length
    · rw [List.getElem?_append_left hj] at e
      exact st j z F F' rl' (hR j z e)
    · rw [List.getElem?_append_right (by omega)] at e
      have hj0 : j - ys.length = 0 := by
        rcases Nat.eq_zero_or_pos (j - ys.length) with q | q
        · exact q
        · rw [List.getElem?_eq_none (by simp; omega)] at e; cases e
      rw [hj0] at e
      have e' : y = z := by simpa using e
      have ej : j = i := by omega
      rw [← e', ej]; exact r
  · rintro H ⟨ys, F, rfl, nF, rl, hl, hR⟩
    exact hd D ys F nD rl nF hl hR
/-! ### what is walked: a list or a tuple -/
def iSeq (K : PySem.W.Frag) (tl : TE) : TI := fun σ H R => tl σ H fun x H1 => ∃ a xs, x = .ref a ∧ Sq2 K H1 a xs ∧ ∀ J, Walk J xs.length (fun H => (¬ SqT K H1 a xs → SqL K H1 a xs → SqL K H a xs) ∧ (SqT K H1 a xs → SqT K H a xs)) (YAt xs) → R J H1
theorem pi_seq {X : Cx} {tg l : Expr} {tl : TE} (hl : PE X l tl) : PI X tg l (iSeq X.K tl) := by
  refine ⟨fun pins s σ H R I h => ?_⟩
  refine thn (hl.run pins s σ H _ I h) fun v s1 ⟨x, H1, I1, r1, q1⟩ => ?_
  obtain ⟨a, xs, e, hq, q⟩ := q1
  subst e
  cases r1
  have fp : ∀ b ∈ [s1.heap.objs.size], FpOk X pins H1 b := fun b hb => by
    have e : b = s1.heap.objs.size := by simpa using hb
    subst e
    exact I1.fpOk (Nat.le_refl _) (I1.hok.fresh (Nat.le_refl _))
  by_cases hT : SqT X.K H1 a xs
  rotate_left
  · have hq : SqL X.K H1 a xs := hq.resolve_right hT
    obtain ⟨its, rv, p, hz⟩ := I1.list hq
    refine wpAny_pyIter_list p.isList ⟨s1.heap.objs.size, [s1.heap.objs.size], _, _, H1, rfl, I1.kept (t' := s1.toks) fun b o e => Heap.get?_push_of_some _ e, turn_list a _, ⟨_, Heap.get?_push_size _ rfl, rfl, rfl⟩, fp, q (Itl X.K a) ?_⟩
    exact (walk_list (K := X.K) (a := a) (xs := xs)).mono (fun H g => g.1 hT hq) fun i H x H' _ _ y => y
  · obtain ⟨its, rv, p, hz⟩ := I1.tuple hT
    refine wpAny_pyIter_tuple (show s1.heap.IsTuple a its.toArray from p) ⟨s1.heap.objs.size, [s1.heap.objs.size], _, _, H1, rfl, I1.kept (t' := s1.toks) fun b o e => Heap.get?_push_of_some _ e, turn_tuple a _, ⟨_, Heap.get?_push_size _ rfl, rfl, rfl⟩, fp, q (Itt X.K a) ?_⟩
    exact (walk_tup (K := X.K) (a := a) (xs := xs)).mono (fun H g => g.2 hT) fun i H x H' _ _ y => y
/-- a, b, .. = a list or a tuple -/
def gAny (K : PySem.W.Frag) (n : Nat) (t : TGs) : TG := fun v σ H Q => ∃ a xs, v = .ref a ∧ Sq2 K H a xs ∧ xs.length = n ∧ t xs σ H Q
theorem pg_any {X : Cx} {es : List Expr} {k : Nat} {pos : Pos} {t : TGs} {n : Nat} (hc : X.calm = true) (h : PGs X es t)
    (hn : (assignEach es X.env).length = n := by rfl) (hst : (assignEach es X.env).findIdx? (·.1) = none := by rfl) : PG X (.Tuple es k pos) (gAny X.K n t) := by
  refine ⟨fun pins s σ H v u Q I r hw => ?_⟩
  obtain ⟨a, xs, e, hq, hl, hw⟩ := hw
  rcases hq with hq | hq
  · exact (pg_unl hc h hn hst).run pins s σ H v u Q I r ⟨a, xs, e, hq, hl, hw⟩
  · exact (pg_tup hc h hn hst).run pins s σ H v u Q I r ⟨a, xs, e, hq, hl, hw⟩
end XL
namespace XL
open PySem PySem.Spec PyProof.Rows L2
/-! ### data without lists: it stands while tuples stand -/
structure Tp (H H' : Hp) : Prop where
  t : ∀ a xs, H a = some (.tup xs) → H' a = some (.tup xs)
  f : ∀ a o xs, H a = some (.frz o (.tup xs)) → H' a = some (.frz o (.tup xs))
theorem Tp.of {H H' : Hp} (s : Same H H') : Tp H H' := ⟨fun a xs e => s _ _ e, fun a o xs e => s _ _ e⟩
theorem Tp.trans {A B C : Hp} (p : Tp A B) (q : Tp B C) : Tp A C := ⟨fun a xs e => q.t _ _ (p.t _ _ e), fun a o xs e => q.f _ _ _ (p.f _ _ _ e)⟩
theorem Tp.upd {H : Hp} {a : Addr} {xs : List V} {o : HO} (h : H a = some (.lst xs)) : Tp H (upd H a o) :=
  ⟨fun b ys e => by rw [upd_ne (fun z => by rw [z, h] at e; cases e)]; exact e, fun b o' ys e => by rw [upd_ne (fun z => by rw [z, h] at e; cases e)]; exact e⟩
theorem Tp.sqT {K : PySem.W.Frag} {H H' : Hp} {a : Addr} {xs : List V} (p : Tp H H') (h : SqT K H a xs) : SqT K H' a xs := by
  rcases h with (h | ⟨o, h⟩) | h
  · exact .inl (.inl (p.t _ _ h))
  · exact .inl (.inr ⟨o, p.f _ _ _ h⟩)
  · exact .inr h
mutual
def noL : PyData → Bool
  | .list _ => false
  | .tuple ds => noLs ds
  | _ => true
def noLs : List PyData → Bool
  | [] => true
  | d :: ds => noL d && noLs ds
end
section
variable {K : PySem.W.Frag} {H H' : Hp}
mutual
theorem Dp.tp (p : Tp H H') : ∀ {v : V} (d : PyData), noL d = true → Dp K H v d → Dp K H' v d
  | _, .none, _, h => by cases h; exact .non
  | _, .bool b, _, h => by cases h; exact .bl b
  | _, .int i, _, h => by cases h; exact .int i
  | _, .str x, _, h => by cases h; exact .str x
  | _, .list ds, n, h => by simp [noL] at n
  | _, .tuple ds, n, h => by
    cases h with
    | tup hs ha => exact .tup (p.sqT hs) (DpAll.tp p ds (by simpa [noL] using n) ha)
  | _, .dict _, _, h => by cases h
theorem DpAll.tp (p : Tp H H') : ∀ {vs : List V} (ds : List PyData), noLs ds = true → DpAll K H vs ds → DpAll K H' vs ds
  | _, [], _, h => by cases h; exact .nil
  | _, d :: ds, n, h => by
    cases h with
    | cons h1 h2 =>
      rw [noLs, Bool.and_eq_true] at n
      exact .cons (Dp.tp p d n.1 h1) (DpAll.tp p ds n.2 h2)
end
end
/-! ### canals as data -/
abbrev Lk := Int × Int × Int × Int
def lkD (l : Lk) : PyData := .tuple [.int l.1, .int l.2.1, .int l.2.2.1, .int l.2.2.2]
structure Cn where
  r : Int
  b : Int
  ls : List Lk
def cnD (c : Cn) : PyData := .tuple [.int c.r, .int c.b, .tuple (c.ls.map lkD)]
structure okLk (r b : Int) (l : Lk) : Prop where
  a0 : 0 ≤ l.1
  a1 : l.1 < r
  c0 : 0 ≤ l.2.1
  c1 : l.2.1 < r
  x0 : 0 ≤ l.2.2.1
  x1 : l.2.2.1 < b
  y0 : 0 ≤ l.2.2.2
  y1 : l.2.2.2 < b
structure okCn (wide utmost : Nat) (c : Cn) : Prop where
  r1 : 1 ≤ c.r
  r2 : c.r ≤ wide
  b1 : 1 ≤ c.b
  b2 : c.b ≤ wide
  n : c.ls.length ≤ utmost
  l : ∀ l ∈ c.ls, okLk c.r c.b l
theorem noLs_lk : ∀ ls : List Lk, noLs (ls.map lkD) = true
  | [] => rfl
  | l :: ls => by rw [List.map_cons, noLs, noLs_lk ls]; rfl
theorem noL_cn (c : Cn) : noL (cnD c) = true := by
  show noLs [.int c.r, .int c.b, .tuple (c.ls.map lkD)] = true
  simp [noLs, noL, noLs_lk]
theorem lk_lay (l : Lk) : (lkD l).canLay0 = true := by simp [lkD, PyData.canLay0, PyData.canLayAll0]
theorem lk_depth (l : Lk) : (lkD l).depth = 1 := by simp [lkD, PyData.depth, PyData.depthAll]
theorem lks_lay : ∀ ls : List Lk, PyData.canLayAll0 (ls.map lkD) = true
  | [] => by simp [PyData.canLayAll0]
  | l :: ls => by simp [PyData.canLayAll0, lk_lay l, lks_lay ls]
theorem lks_depth : ∀ ls : List Lk, PyData.depthAll (ls.map lkD) ≤ 1
  | [] => by simp [PyData.depthAll]
  | l :: ls => by
    have h1 := lks_depth ls; have h2 := lk_depth l
    simp only [List.map_cons, PyData.depthAll]; omega
theorem lks_shaped (ls : List Lk) : SeqAt.shaped (.list (ls.map lkD)) = true := by
  have h1 := lks_depth ls
  have h2 : PyData.depth (.list (ls.map lkD)) ≤ 64 := by simp only [PyData.depth]; omega
  show (PyData.canLay0 (.list (ls.map lkD)) && decide (PyData.depth (.list (ls.map lkD)) ≤ 64)) = true
  rw [Bool.and_eq_true]; exact ⟨by simp only [PyData.canLay0]; exact lks_lay ls, decide_eq_true h2⟩
theorem nil_shaped : SeqAt.shaped (.list []) = true := lks_shaped []
theorem eqv_nil (ls : List Lk) : PyData.eqv (.list (ls.map lkD)) (.list []) = ls.isEmpty := by
  cases ls with
  | nil => simp [PyData.eqv, PyData.eqvAll]
  | cons l ls => simp [PyData.eqv, PyData.eqvAll]
end XL
namespace PySem
namespace XEn
open Sem (wp)
set_option maxHeartbeats 1000000 in
theorem meets_new1 {v : Value} {o : Obj} {H : Heap → Prop} (B : Begins v o H) :
    Meets (Builtin.«enumerate.__new__» ⟨[.type "enumerate", v], []⟩) (fun _ R s => H s.heap ∧
      R (.ok (.ret (.ref (s.heap.push o).objs.size))) { s with heap := (s.heap.push o).push { cls := .type "enumerate", data := .fields #[.none, .bool false, .ref s.heap.objs.size, rawInt 0, .none, .none] } }) :=
  .of_wp fun prog w A R s h => by
    obtain ⟨hp, g, d, tk, os⟩ := s; obtain ⟨h1, h⟩ := h
    have hsub := sub_enumerate
    have q1 : ∀ {A' : Around} {E : Value → Shared → Prop} {Q : Value → Shared → Prop}, Q (.ref hp.objs.size) ⟨hp.push o, g, d, tk, os⟩ → wpAny (model prog w) A' (pyIter v) Q E ⟨hp, g, d, tk, os⟩ :=
      fun q => B.iter prog w _ _ ⟨hp, g, d, tk, os⟩ _ h1 q
    wp_walk using q1
    refine wpAny_stack_any fun st => wpAny_pure ?_
    split
    · rename_i c _ _ _ _ _
      cases (c == Value.type "enumerate")
      · wp_walk using q1
        exact ⟨_, rfl, h⟩
      · wp_walk using q1
        exact ⟨_, rfl, h⟩
    · wp_walk using q1
      exact ⟨_, rfl, h⟩
section
variable {prog : Program} {w : World} {A : Around} {E : Value → Shared → Prop} {s : Shared}
theorem begins1 {v : Value} {o : Obj} {H : Heap → Prop} {Q : Value → Shared → Prop} (B : Begins v o H) (h1 : H s.heap)
    (h : ∀ h', IsEnum h' (s.heap.objs.size + 1) s.heap.objs.size 0 .none → h'.get? s.heap.objs.size = some o → h'.objs.size = s.heap.objs.size + 2 →
      (∀ b o, s.heap.get? b = some o → h'.get? b = some o) → Q (.ref (s.heap.objs.size + 1)) { s with heap := h' }) :
    wpAny (model prog w) A (call (.type "enumerate") [v]) Q E s := by
  refine callType_new F.called_enumerate (by decide) (F.typeCall_enumerate_1 _) (F.newCall_enumerate_1 _) (fun obj => F.args_object_init_2 obj _) F.entry_enumerate_new
    (meets_new1 B) ⟨h1, ?_⟩
  have hz : (s.heap.push o).objs.size = s.heap.objs.size + 1 := Heap.size_push ..
  show _ ∧ _
  rw [hz]
  have he : IsEnum ((s.heap.push o).push { cls := .type "enumerate", data := .fields #[.none, .bool false, .ref s.heap.objs.size, rawInt 0, .none, .none] }) (s.heap.objs.size + 1) s.heap.objs.size 0 .none := by
    have := Heap.get?_push_size (s.heap.push o) (o := { cls := .type "enumerate", data := .fields #[.none, .bool false, .ref s.heap.objs.size, rawInt 0, .none, .none] }) rfl
    rw [hz] at this; exact this
  refine ⟨⟨_, he, rfl⟩, h _ he (Heap.get?_push_of_some _ (Heap.get?_push_size _ B.free)) (by rw [Heap.size_push, hz]) fun b o x => Heap.get?_push_of_some _ (Heap.get?_push_of_some _ x)⟩
end
end XEn
end PySem
namespace XL
open PySem PySem.Spec PyProof.Rows L2
/-! ### enumerate(tuple) -/
def IteT (K : PySem.W.Frag) (a : Addr) : It :=
  ⟨fun i H => ∃ (xs : List V) (x : V), SqT K H a xs ∧ xs[i]? = some x, fun i H v H' => ∃ T x, v = .ref T ∧ H T = none ∧ H' = upd H T (.tup [.int (i : Nat), x]) ∧ ∀ xs, SqT K H a xs → xs[i]? = some x, fun i H => ∃ xs : List V, SqT K H a xs ∧ xs.length = i⟩
theorem tup_ne {h : Heap} {it a : Addr} {i : Nat} {its : Array Value} (h1 : h.IsTupleIter it a i) (h2 : h.IsTuple a its) : a ≠ it := fun z => by
  obtain ⟨o, e, c, d⟩ := h1
  obtain ⟨o', e', c', _⟩ := h2
  rw [z, e] at e'
  cases e'
  rw [c] at c'
  exact absurd c' (by decide)
theorem turn_enumT {P : Program} {w : World} {K : PySem.W.Frag} {elts : List Expr} {kk : Nat} {tpos : Pos} (a e it : Addr) :
    Turn P w K (.Tuple elts kk tpos) (IteT K a) [e, it] e (fun i h => (∃ old, IsEnum h e it ((i : Nat) : Int) old) ∧ h.IsTupleIter it a i ∧ e ≠ it) where
  mem := by simp
  obj := fun i h st b hb => by
    obtain ⟨⟨old, he⟩, ⟨o, ho, hc, hd⟩, _⟩ := st
    have e' : b = e ∨ b = it := by simpa using hb
    rcases e' with z | z
    · rw [z]; exact ⟨_, he, fun v q => nomatch q⟩
    · rw [z]; exact ⟨o, ho, fun v q => by rw [hd] at q; cases q⟩
  keep := fun i h h' st k => let ⟨⟨old, he⟩, hi, hne⟩ := st; ⟨⟨old, k e (by simp) _ he⟩, hi.at fun o q => k it (by simp) o q, hne⟩
  item := by
    intro X hP hw hK hc i pins s σ H E I hf st hg
    subst hP hw hK
    obtain ⟨⟨old, he⟩, hit, hne⟩ := st
    obtain ⟨xs, x, hq, hx⟩ := hg
    obtain ⟨its, rv, p, hz⟩ := I.tuple hq
    have p' : s.heap.IsTuple a its.toArray := p
    obtain ⟨u, hu, ru⟩ := rv.get hx
    have hel : e < s.heap.objs.size := Heap.lt_size he
    have hil : it < s.heap.objs.size := by obtain ⟨_, q, _⟩ := hit; exact Heap.lt_size q
    have hai := tup_ne hit p'
    have hae : e ∉ [it, a] := by
      intro z
      have z' : e = it ∨ e = a := by simpa using z
      rcases z' with z | z
      · exact hne z
      · obtain ⟨o', e', c', _⟩ := p'
        rw [← z, he] at e'
        cases e'
        exact absurd (show Value.type "enumerate" = Value.type "tuple" from c') (by decide)
    have hi : i < its.toArray.size := by
      rw [List.size_toArray]
      rcases Nat.lt_or_ge i its.length with q | q
      · exact q
      · rw [List.getElem?_eq_none q] at hu; cases hu
    refine wpAny_pyNext_enum_itemD (Draws.tuple (A := X.A.in1) (I.ok.hd hc) it a hai its.toArray) he ⟨hit, p'⟩ hi hne hae fun u' h' tk hu' ho hit' hT hsz hk => ?_
    have eu : u' = u := by
      have h1 : its.toArray[i]? = some u' := hu'
      rw [List.getElem?_toArray, hu] at h1
      exact (Option.some.inj h1).symm
    subst eu
    refine ⟨_, rfl, wpAny_letOwnedTupleGo_enum (s := { s with heap := h', toks := tk + 1 }) ho fun h'' he' sb => ?_⟩
    have hT2 : h''.get? s.heap.objs.size = some { cls := .type "tuple", data := .seq #[.int i tk, u'] } := (sb.2 _ (Nat.ne_of_gt hel)).trans hT
    have new : ObjOk X.prog X.w (upd H s.heap.objs.size (.tup [.int (i : Nat), x])) h'' s.heap.objs.size (.tup [.int (i : Nat), x]) :=
      ⟨by show 2 ≤ sizeLine; decide, [.int i tk, u'], .cons ⟨_, rfl⟩ (.cons ru .nil), ⟨_, hT2, rfl, _, rfl⟩⟩
    have I1 : Inv X pins σ (upd H s.heap.objs.size (.tup [.int (i : Nat), x])) { s with heap := h'', toks := tk + 1 } :=
      I.turnedNew (ch := [e, it]) (fun b ob hb q => (sb.2 b (fun z => hb (by simp [z]))).trans (hk b ob (fun z => hb (by simp [z])) (fun z => hb (by simp [z])) q)) hf (Nat.le_refl _) new
    refine ⟨.ref s.heap.objs.size, _, I1, rfl, ⟨_, x, rfl, I.hok.fresh (Nat.le_refl _), rfl, fun ys hy => by rw [I.tuple_inj hy hq]; exact hx⟩, ⟨⟨u', ?_⟩, hit'.1.at fun o q => (sb.2 it (Ne.symm hne)).trans q, hne⟩, fun b hb => ?_⟩
    · have e1 : ((i + 1 : Nat) : Int) = (i : Int) + 1 := by omega
      rw [e1]; exact he'
    · have hb' : b < s.heap.objs.size := by
        have e' : b = e ∨ b = it := by simpa using hb
        rcases e' with z | z
        · rw [z]; exact hel
        · rw [z]; exact hil
      rw [upd_ne (Nat.ne_of_lt hb')]
      exact (hf b hb).1
  done := by
    intro X hP hw hK hc i pins s σ H E I hf st hg
    subst hP hw hK
    obtain ⟨⟨old, he⟩, hit, hne⟩ := st
    obtain ⟨xs, hq, hx⟩ := hg
    obtain ⟨its, rv, p, hz⟩ := I.tuple hq
    have p' : s.heap.IsTuple a its.toArray := p
    obtain ⟨f0, f1, f2, f3, f4, f5⟩ := hf it (by simp)
    have hl := rv.length
    have hn : i = its.toArray.size := by rw [List.size_toArray]; omega
    subst hn
    exact wpAny_pyNext_enum_endD (Draws.tuple (A := X.A.in1) (I.ok.hd hc) it a (tup_ne hit p') its.toArray) he ⟨hit, p'⟩ fun h' eb => ⟨rfl, I.turned (t' := s.toks) (fun b o hb q => eb b o hb q) f0 f1 f3 f4 f5⟩
  self := fun A i s Q E st h => let ⟨⟨_, he⟩, _⟩ := st; wpAny_pyIter_enum he h
theorem walk_enumT {K : PySem.W.Frag} {a : Addr} {xs : List V} : Walk (IteT K a) xs.length (fun H => SqT K H a xs) (YPair (fun i => some (.int (i : Nat))) (fun i => xs[i]?)) := by
  refine ⟨fun i _ hi q => ⟨xs, xs[i], q, by simp [hi]⟩, fun _ q => ⟨xs, q, rfl⟩, fun i H v H' _ q y => ?_⟩
  obtain ⟨T, x, h1, h2, h3, h4⟩ := y
  exact ⟨T, .int (i : Nat), x, h1, h2, h3, rfl, h4 xs q⟩
def iEnumT (K : PySem.W.Frag) (ta : TA) : TI := fun σ H R => ta σ H fun vs H1 => ∃ a xs, vs = [.ref a] ∧ SqT K H1 a xs ∧ R (IteT K a) H1
theorem pi_enumT {X : Cx} {e : Expr} {ta : TA} {p pos tpos : Pos} {elts : List Expr} {kk : Nat} (hg : Gl X "enumerate") (hm : X.mg "enumerate" = none) (ha : PA X [e] ta) (hs : starEach [e] X.env = [(false, eval e X.env)] := by rfl) :
    PI X (.Tuple elts kk tpos) (.Call (.Name "enumerate" p) [e] [] pos) (iEnumT X.K ta) := by
  refine ⟨fun pins s σ H R I h => ?_⟩
  refine Call_ (ld_blt I hg hm boot_enumerate (PyProof.Rows.callWith_type1 (thn (ha.run pos pins s σ H _ I h) fun us s1 ⟨vs, H1, I1, r1, q1⟩ => ?_) hs rfl))
  obtain ⟨a, xs, ex, hq, q⟩ := q1
  subst ex
  cases r1 with
  | cons r rr =>
    cases rr
    cases r
    obtain ⟨its, rv, p', hz⟩ := I1.tuple hq
    refine PySem.XEn.begins1 (begins_tuple a its.toArray) (show s1.heap.IsTuple a its.toArray from p') fun h' he hit hsz hk => wpAny_pyIter_enum he ?_
    have I2 : Inv X pins σ H1 { s1 with heap := h' } := I1.kept (t' := s1.toks) hk
    refine ⟨s1.heap.objs.size + 1, [s1.heap.objs.size + 1, s1.heap.objs.size], _, _, H1, rfl, I2, turn_enumT a (s1.heap.objs.size + 1) s1.heap.objs.size, ⟨⟨.none, he⟩, ⟨_, hit, rfl, rfl⟩, Nat.succ_ne_self _⟩, fun b hb => ?_, q⟩
    have e' : b = s1.heap.objs.size + 1 ∨ b = s1.heap.objs.size := by simpa using hb
    have hle : s1.heap.objs.size ≤ b := by
      rcases e' with z | z
      · rw [z]; exact Nat.le_add_right _ _
      · rw [z]; exact Nat.le_refl _
    exact I1.fpOk hle (I1.hok.fresh hle)
end XL
namespace XL
open PySem PySem.Spec PyProof.Rows L2
/-! ### small words that all laws want -/
theorem at_s {T : L2.St → Hp → Prop} {σ σ' : L2.St} {H : Hp} (e : σ = σ') (h : T σ' H) : T σ H := e ▸ h
theorem at_g {i : Nat} {x : V} {σ σ' : L2.St} {H : Hp} {N : L2.St → Hp → Prop} (e : σ.set i (some x) = σ') (h : N σ' H) : gName i x σ H N := by
  subst e; exact h
/-- a heap by what is known of it -/
theorem at_h {T : L2.St → Hp → Prop} {σ : L2.St} {H : Hp} (Pf : Hp → Prop) (hp : Pf H) (h : ∀ G, Pf G → T σ G) : T σ H := h H hp
structure Fns (P : Program) (w : World) (K : PySem.W.Frag) (mg : Str → Option Value) (base : Heap) (n : Nat) (name : Str) (ps : List Str) (sp : Sp) (f : Addr) (fd : FuncData) : Prop where
  ok : FnOk P w K mg base CX0 n f fd ps sp
  g : mg name = some (.ref f)
  k : PySem.W.keepIn K (.ref f) = true
  b : Binds K fd ps []
theorem pe_fn {X : Cx} {n : Nat} {name : Str} {ps : List Str} {sp : Sp} {f : Addr} {fd : FuncData} {p pos : Pos} {e : Expr} {es : List Expr} {t : TA} (F : Fns X.prog X.w X.K X.mg X.base n name ps sp f fd) (hr : Room n X.A) (hg : Gl X name) (ha : PA X (e :: es) t)
    (hdb : (name == ("__debug__" : Str)) = false := by decide) (he : starEach (e :: es) X.env = (false, eval e X.env) :: starEach es X.env := by rfl) (hpl : (backTo pos (starEach es X.env)).any (·.1) = false := by rfl) (hx : Passes CX0 X E0 := by exact pass0) :
    PE X (.Call (.Name name p) (e :: es) [] pos) (tCall sp [] E0 t) := pe_call F.ok hr hg F.g F.k F.b .nil hx ha hdb he hpl
/-- an item of a list or a tuple -/
def rIxA (K : PySem.W.Frag) : R2 := fun x y H Q => ∃ p xs i v, x = .ref p ∧ y = .int i ∧ Sq2 K H p xs ∧ atI xs i = some v ∧ Q v H
theorem ix_any {X : Cx} : IxR X (rIxA X.K) := by
  intro value slice pins s σ H x y v u Q I rx ry h hs
  obtain ⟨p, xs, i, z, e1, e2, hq, he, q⟩ := h
  rcases hq with hq | hq
  · exact ix_list value slice pins s σ H x y v u Q I rx ry ⟨p, xs, i, z, e1, e2, hq, he, q⟩ hs
  · exact ix_tup value slice pins s σ H x y v u Q I rx ry ⟨p, xs, i, z, e1, e2, hq, he, q⟩ hs
/-! ### built-ins over lists and tuples, their relations by name (within comprehensions they are given by hand) -/
def rLenA (K : PySem.W.Frag) : List V → Hp → VK → Prop := fun xs H Q => ∃ p ys, xs = [.ref p] ∧ (SqL K H p ys ∨ SqT K H p ys) ∧ Q (.int ys.length) H
theorem call_lenA {X : Cx} : CallR X (.builtin "len") (rLenA X.K) := call_len_seq
def rLstA (K : PySem.W.Frag) : List V → Hp → VK → Prop := fun xs H Q => ∃ p ys, xs = [.ref p] ∧ (SqL K H p ys ∨ SqT K H p ys) ∧ ∀ l, H l = none → Q (.ref l) (upd H l (.lst ys))
theorem call_listA {X : Cx} : CallR X (.type "list") (rLstA X.K) := call_list_of
def rTupA (K : PySem.W.Frag) : List V → Hp → VK → Prop := fun xs H Q => ∃ p ys, xs = [.ref p] ∧ ((SqL K H p ys ∧ ∀ l, H l = none → Q (.ref l) (upd H l (.tup ys))) ∨ SqT K H p ys ∧ Q (.ref p) H)
theorem call_tupleA {X : Cx} : CallR X (.type "tuple") (rTupA X.K) := call_tuple_of
/-! ### calls by keywords alone: one, two in their order or turned -/
def g1 : List α → List α → List α
  | [], [x] => [x]
  | _, _ => []
def g2 : List α → List α → List α
  | [], [x, y] => [y, x]
  | _, _ => []
section
variable {K : PySem.W.Frag}
theorem kb1 {x qual p : Str} {st : Stmt} {f : Addr} {fd : FuncData} (F : Fun K x qual st f fd)
    (h : ∀ (kV doc pm : Value) (an : Option Addr) (cdv ct v : Value), bindArgs (PySem.W.fnOf x qual (defArgs st) (defBody st) (defScope st) .none kV doc pm an cdv ct) ⟨[], [(p, v)]⟩ = pure [(p, v)]) : KBinds K fd [p] [p] g1 g1 := by
  obtain ⟨oc, od, kV, doc, pm, an, cdv, ct, osl, rfl, lk, hcd⟩ := F.ex
  refine ⟨fun s us ws _ hl => ?_, fun {vs us zs ws} r1 r2 => ?_⟩
  · match us, ws, hl with
    | [], [v], _ => exact .of_eq (h kV doc pm an cdv ct v)
  · cases r1 with
    | nil =>
      cases r2 with
      | nil => exact .nil
      | cons a r =>
        cases r with
        | nil => exact .cons a .nil
        | cons _ _ => exact .nil
    | cons _ _ => exact .nil
theorem kb2 {x qual p q : Str} {st : Stmt} {f : Addr} {fd : FuncData} (F : Fun K x qual st f fd)
    (h : ∀ (kV doc pm : Value) (an : Option Addr) (cdv ct v u : Value), bindArgs (PySem.W.fnOf x qual (defArgs st) (defBody st) (defScope st) .none kV doc pm an cdv ct) ⟨[], [(q, v), (p, u)]⟩ = pure [(p, u), (q, v)]) : KBinds K fd [p, q] [q, p] g2 g2 := by
  obtain ⟨oc, od, kV, doc, pm, an, cdv, ct, osl, rfl, lk, hcd⟩ := F.ex
  refine ⟨fun s us ws _ hl => ?_, fun {vs us zs ws} r1 r2 => ?_⟩
  · match us, ws, hl with
    | [], [v, u], _ => exact .of_eq (h kV doc pm an cdv ct v u)
  · cases r1 with
    | nil =>
      cases r2 with
      | nil => exact .nil
      | cons a r =>
        cases r with
        | nil => exact .nil
        | cons a2 r =>
          cases r with
          | nil => exact .cons a2 (.cons a .nil)
          | cons _ _ => exact .nil
    | cons _ _ => exact .nil
end
end XL
namespace XL
open PySem PySem.Spec PyProof.Rows L2
/-! ### sorted(a set of tuples that their first numbers tell apart) -/
structure Hds (h : Heap) (vs : List Value) : Prop where
  tup : ∀ v ∈ vs, ∃ n ns, TS.TupInts h v (n :: ns)
  one : ∀ u ∈ vs, ∀ v ∈ vs, ∀ n ns ms, TS.TupInts h u (n :: ns) → TS.TupInts h v (n :: ms) → ns = ms
theorem TupInts_eq {h : Heap} {v : Value} {ns ms : List Int} (a : TS.TupInts h v ns) (b : TS.TupInts h v ms) : ns = ms := a.ints.symm.trans b.ints
theorem Hds.keeps {h h' : Heap} {vs : List Value} (x : Hds h vs) (k : ∀ b o, h.get? b = some o → o.cls = .type "tuple" → h'.get? b = some o) : Hds h' vs := by
  have back : ∀ v ∈ vs, ∀ n ns, TS.TupInts h' v (n :: ns) → TS.TupInts h v (n :: ns) := fun v hv n ns t => by
    obtain ⟨n0, ns0, t0⟩ := x.tup v hv
    rw [TupInts_eq t (t0.keeps k)]; exact t0
  refine ⟨fun v hv => ?_, fun u hu v hv n ns ms a b => x.one u hu v hv n ns ms (back u hu n ns a) (back v hv n ms b)⟩
  obtain ⟨n, ns, t⟩ := x.tup v hv
  exact ⟨n, ns, t.keeps k⟩
def hd0 : List Int → Int
  | [] => 0
  | n :: _ => n
def rk (h : Heap) (v : Value) : Int := hd0 (TS.intsOf h v)
theorem rk_of {h : Heap} {v : Value} {n : Int} {ns : List Int} (t : TS.TupInts h v (n :: ns)) : rk h v = n := by
  unfold rk
  rw [t.ints]; rfl
section
variable {prog : Program} {w : World} {A : Around} {E : Value → Shared → Prop} {s : Shared} {QB : Bool → Shared → Prop}
theorem lex_eq {b fin : Bool} {xs : List Value} {ns : List Int} (hx : IntsAre xs ns) : ∀ {ys : List Value} (i : Nat), IntsAre ys ns → QB fin s → PySem.W.KatLex prog w A b fin QB (xs.zip ys) i s := by
  induction hx with
  | nil =>
    intro ys i hy q
    cases hy
    exact PySem.W.kat_nil q
  | @cons p t xs ns hx ih =>
    intro ys i hy q
    cases hy with
    | @cons _ u ys _ hy =>
      refine PySem.W.kat_cons (wpAny_eqBool_int ?_)
      rw [beq_self_eq_true]
      exact PySem.W.kat_yes (ih (i + 1) hy q)
theorem ints_cons {xs : List Value} {n : Int} {ns : List Int} (h : IntsAre xs (n :: ns)) : ∃ t ys, xs = .int n t :: ys ∧ IntsAre ys ns := by
  cases h with
  | cons p t r => exact ⟨t, _, rfl, r⟩
theorem firsts_h {h : Heap} : ∀ vs : List Value, (∀ v ∈ vs, ∃ n ns, TS.TupInts h v (n :: ns)) → ∃ fs, PySem.W.KatTups h vs fs ∧ fs.length = vs.length ∧ ∀ f ∈ fs, ∃ n t, f = Value.int n t
  | [], _ => ⟨[], trivial, rfl, fun f hf => by simp at hf⟩
  | v :: vs, x => by
    obtain ⟨fs, k, hl, hi⟩ := firsts_h vs fun u hu => x u (List.mem_cons_of_mem _ hu)
    obtain ⟨n, ns, a, xs, e, ⟨o, ho, hc, c, hdt⟩, i⟩ := x v (List.mem_cons_self ..)
    obtain ⟨t, ys, ey, _⟩ := ints_cons i
    subst e
    have h0 : xs[0]? = some (.int n t) := by rw [← Array.getElem?_toList, ey]; rfl
    refine ⟨.int n t :: fs, ⟨⟨a, o, xs, c, rfl, ho, hc, hdt, h0⟩, k⟩, by simp [hl], fun f hf => ?_⟩
    rcases List.mem_cons.mp hf with z | z
    · exact ⟨n, t, z⟩
    · exact hi f z
theorem kind_h {vs : List Value} (h2 : 2 ≤ vs.length) (x : Hds s.heap vs) (r : Value → Int) (hr : ∀ v ∈ vs, ∀ n ns, TS.TupInts s.heap v (n :: ns) → r v = n) (Q : SortKind → Shared → Prop)
    (h : ∀ κ, TS.Cmp prog w A s κ (pairsOf vs) r → Q κ s) : wpAny (model prog w) A (keyKind' vs.toArray) Q E s := by
  obtain ⟨fs, k, hl, hi⟩ := firsts_h vs x.tup
  refine PySem.W.kat_kind (T := Value.type "int") k (by rw [hl]; omega) (fun f hf => ?_) rfl (h _ fun p q hp hq Q' E' hQ => ?_)
  · obtain ⟨n, t, rfl⟩ := hi f hf
    exact PySem.W.Looks.of_pure rfl
  · rw [pairsOf_toList] at hp hq
    have mp := (mem_zip_self hp).2
    have mq := (mem_zip_self hq).2
    obtain ⟨n, ns, tp⟩ := x.tup _ mp
    obtain ⟨m, ms, tq⟩ := x.tup _ mq
    rw [hr _ mp _ _ tp, hr _ mq _ _ tq] at hQ
    have same : n = m → ns = ms := fun e => by subst e; exact x.one _ mp _ mq n ns ms tp tq
    obtain ⟨a, xs, e1, ⟨o, ho, hc, c, hdt⟩, i⟩ := tp
    obtain ⟨a', ys, e2, ⟨o', ho', hc', c', hdt'⟩, i'⟩ := tq
    rw [e1, e2]
    refine PySem.W.kat_lt ho hdt ho' hdt' ?_
    by_cases e : n = m
    · have e' := same e
      subst e e'
      have sz : decide (xs.size < ys.size) = false := by
        have l1 := i.length; have l2 := i'.length
        rw [Array.length_toList] at l1 l2
        exact decide_eq_false (by omega)
      rw [sz]
      rw [decide_eq_false (Int.lt_irrefl n)] at hQ
      exact lex_eq i 0 i' hQ
    · obtain ⟨t, xs', ex, _⟩ := ints_cons i
      obtain ⟨t', ys', ey, _⟩ := ints_cons i'
      rw [ex, ey]
      refine PySem.W.kat_cons (wpAny_eqBool_int ?_)
      rw [show (n == m) = false from beq_eq_false_iff_ne.mpr e]
      exact PySem.W.kat_no (TS.oneLt_ints _ hQ)
theorem sort_h {a : Addr} {vs : List Value} {c : Nat} {Q : Value → Shared → Prop} (ho : s.heap.get? a = some (seqObj "list" vs.toArray c)) (h64 : vs.length < 64) (x : Hds s.heap vs)
    (h : ∀ out : Array Value, out.toList.Perm vs → out.toList.Pairwise (fun u v => rk s.heap u ≤ rk s.heap v) → Q .none { s with heap := sortedHeap s.heap a vs out }) :
    wpAny (model prog w) A (call (.builtin "list.sort") [.ref a]) Q E s := by
  have keep : ∀ b o, s.heap.get? b = some o → o.cls = .type "tuple" → (TS.midHeap s.heap a vs).get? b = some o := fun b o e hc => by
    refine TS.midHeap_old (fun z => ?_) e
    rw [z, ho] at e
    cases e
    exact absurd (Value.type.inj hc) (by decide)
  refine wpAny_call_entry slot_list_sort ⟨_, ho, rfl⟩ entry_list_sort (SK.plain_sort (r := rk s.heap) ho h64 (fun h2 Q1 hQ1 => ?_) fun ps out h1 h2 h3 => ⟨_, rfl, ?_⟩) (args_list_sort _)
  · refine kind_h (s := { s with heap := TS.midHeap s.heap a vs }) h2 (x.keeps keep) _ (fun v hv n ns t => ?_) Q1 hQ1
    obtain ⟨n0, ns0, t0⟩ := x.tup v hv
    have e := TupInts_eq t (t0.keeps keep)
    cases e
    exact rk_of t0
  · obtain ⟨p1, p2⟩ := TS.out_rank h1 h2 h3
    exact h out p1 p2
variable {P : Program}
theorem sorted_setH {a : Addr} {L : List (Addr × List Int)} {es : Array (Int × Value)} {ep : Nat} {t : SetTable} {Q : Value → Shared → Prop} (R : SetTR P w s.heap a L es ep t) (hh : A.handled = none)
    (hn : ∀ p ∈ L, ∃ n ns, p.2 = n :: ns) (h1 : ∀ p ∈ L, ∀ q ∈ L, hd0 p.2 = hd0 q.2 → p.2 = q.2)
    (hQ : ∀ s' p (out : Array Value) (c : Nat) (L' : List (Addr × List Int)), (∀ b o, s.heap.get? b = some o → s'.heap.get? b = some o) → s'.gens = s.gens → s'.os = s.os → s.heap.objs.size ≤ p →
      s'.heap.get? p = some (seqObj "list" out c) → out.toList = L'.map (fun q => Value.ref q.1) → L'.Perm L → L'.Pairwise (fun q r => hd0 q.2 ≤ hd0 r.2) → Q (.ref p) s') :
    wpAny (model P w) A (call (.builtin "sorted") [.ref a]) Q E s := by
  obtain ⟨o, ho, hex, hd⟩ := R.ob
  have hsz := R.size
  have hfew := R.few
  refine Calls.call_function_entry kind_sorted plain_sorted entry_sorted (args_sorted1 _) ?_
  unfold Builtin.«sorted»
  refine wpAny_bind (m := checkCount "sorted" 1 1 _) (wpAny_pure (wpAny_bind (collect_set (A := A.in1) hh ⟨o, ho, hex.1, hd⟩ R.fits (by unfold scanBound; omega) R.tab.ris R.led fun s1 vs k1 hz g1 o1 pm => ?_)))
  have hes : es.toList.map (·.2) = L.map fun q => Value.ref q.1 := by
    rw [R.rows]; unfold rowsOf; rw [List.map_map]; rfl
  rw [hes] at pm
  have back : ∀ us : List Value, (∀ v ∈ us, ∃ q ∈ L, v = Value.ref q.1) → ∃ M : List (Addr × List Int), us = M.map (fun q => Value.ref q.1) ∧ ∀ q ∈ M, q ∈ L := by
    intro us
    induction us with
    | nil => exact fun _ => ⟨[], rfl, fun q h => by cases h⟩
    | cons v us ih =>
      intro hv
      obtain ⟨q, hq, e⟩ := hv v List.mem_cons_self
      obtain ⟨M, e1, hs⟩ := ih fun u hu => hv u (List.mem_cons_of_mem _ hu)
      exact ⟨q :: M, by rw [List.map_cons, e, e1], fun r hr => by rcases List.mem_cons.mp hr with z | z; rw [z]; exact hq; exact hs r z⟩
  have key : ∀ q ∈ L, ∀ r ∈ L, q.1 = r.1 → q = r := fun q hq r hr e => by
    have u1 := R.tup q hq
    rw [e] at u1
    exact Prod.ext e (u1.inj (R.tup r hr))
  have nL : L.Nodup := nodup_of_map R.nd
  have nR : (L.map fun q => Value.ref q.1).Nodup := List.pairwise_map.mpr (List.Pairwise.imp_of_mem (fun {q r} hq hr hne e => hne (key q hq r hr (Value.ref.inj e))) nL)
  have pof : ∀ M : List (Addr × List Int), (∀ q ∈ M, q ∈ L) → (M.map (fun q => Value.ref q.1)).Perm (L.map fun q => Value.ref q.1) → M.Perm L := by
    intro M hs pM
    refine (List.perm_ext_iff_of_nodup (nodup_of_map (pM.nodup_iff.mpr nR)) nL).mpr fun q => ⟨hs q, fun hq => ?_⟩
    obtain ⟨r, hr, e⟩ := List.mem_map.mp (pM.mem_iff.mpr (List.mem_map.mpr ⟨q, hq, rfl⟩))
    rw [← key r (hs r hr) q hq (Value.ref.inj e)]; exact hr
  have hvl : vs.length < 64 := by rw [pm.length_eq, List.length_map]; exact hfew
  refine wpAny_bind (wpAny_newList ?_ (by rw [sizeLine_eq]; omega))
  have hL0 : (s1.heap.push (seqObj "list" vs.toArray 0)).get? s1.heap.objs.size = some (seqObj "list" vs.toArray 0) := Heap.get?_push_size _ rfl
  have tk : ∀ q ∈ L, TS.TupInts (s1.heap.push (seqObj "list" vs.toArray 0)) (.ref q.1) q.2 := fun q hq =>
    tupInts_of (P := P) (w := w) (isT_keep (R.tup q hq) fun b u e => Heap.get?_push_of_some _ (k1 b u e))
  have of : ∀ v ∈ vs, ∃ q ∈ L, v = Value.ref q.1 := fun v hv => by
    obtain ⟨q, hq, e⟩ := List.mem_map.mp (pm.mem_iff.mp hv)
    exact ⟨q, hq, e.symm⟩
  have x : Hds (s1.heap.push (seqObj "list" vs.toArray 0)) vs := by
    refine ⟨fun v hv => ?_, fun u hu v hv n ns ms a1 a2 => ?_⟩
    · obtain ⟨q, hq, e⟩ := of v hv
      obtain ⟨n, ns, en⟩ := hn q hq
      refine ⟨n, ns, ?_⟩
      rw [e, ← en]; exact tk q hq
    · obtain ⟨q, hq, e⟩ := of u hu
      obtain ⟨r, hr, e'⟩ := of v hv
      subst e e'
      have z1 := TupInts_eq a1 (tk q hq)
      have z2 := TupInts_eq a2 (tk r hr)
      have z3 := h1 q hq r hr (by rw [← z1, ← z2]; rfl)
      rw [← z1, ← z2] at z3
      exact (List.cons.inj z3).2
  refine wpAny_bind (wpAny_holding (sort_h (s := { s1 with heap := s1.heap.push (seqObj "list" vs.toArray 0) }) hL0 hvl x fun out a1 a2 => ?_))
  obtain ⟨c, hc⟩ := sortedHeap_at (vs := vs) (out := out) hL0
  obtain ⟨M, e', hs'⟩ := back out.toList fun v hv => of v (a1.mem_iff.mp hv)
  have pL : M.Perm L := pof M hs' (by rw [← e']; exact a1.trans pm)
  have pw : M.Pairwise (fun q r => hd0 q.2 ≤ hd0 r.2) := by
    rw [e'] at a2
    refine List.Pairwise.imp_of_mem (fun {q r} hq hr hle => ?_) (List.pairwise_map.mp a2)
    have f1 : rk (s1.heap.push (seqObj "list" vs.toArray 0)) (.ref q.1) = hd0 q.2 := by unfold rk; rw [(tk q (hs' q hq)).ints]
    have f2 : rk (s1.heap.push (seqObj "list" vs.toArray 0)) (.ref r.1) = hd0 r.2 := by unfold rk; rw [(tk r (hs' r hr)).ints]
    rw [← f1, ← f2]; exact hle
  refine wpAny_pure ⟨_, rfl, hQ _ s1.heap.objs.size out c M (fun b u e => ?_) g1 o1 hz hc e' pL pw⟩
  have hlt := Heap.lt_size (k1 b u e)
  show (sortedHeap (s1.heap.push (seqObj "list" vs.toArray 0)) s1.heap.objs.size vs out).get? b = some u
  rw [sortedHeap_old (Nat.ne_of_lt hlt) (by rw [size_push']; exact Nat.lt_succ_of_lt hlt)]
  exact Heap.get?_push_of_some _ (k1 b u e)
end
def rSetH (K : PySem.W.Frag) (P : Program) (w : World) : List V → Hp → VK → Prop := fun vs H Q => ∃ (a : Addr) (L : List (Addr × List Int)), vs = [V.ref a] ∧ H a = some (SetTO P w a L) ∧ (∀ p ∈ L, SqT K H p.1 (p.2.map V.int)) ∧
  (∀ p ∈ L, ∃ n ns, p.2 = n :: ns) ∧ (∀ p ∈ L, ∀ q ∈ L, hd0 p.2 = hd0 q.2 → p.2 = q.2) ∧
  ∀ (M : List (Addr × List Int)) (p : Addr), M.Perm L → (M.map (·.2)).Nodup → M.length < 64 → M.Pairwise (fun q r => hd0 q.2 ≤ hd0 r.2) → H p = none → Q (.ref p) (upd H p (.lst (M.map fun q => V.ref q.1)))
theorem cr_setH {X : Cx} (hc : X.calm = true) : CallR X (.builtin "sorted") (rSetH X.K X.prog X.w) := by
  intro pins s σ H vs us Q I r h
  obtain ⟨a, L, rfl, ha, hk, hn, h1, q⟩ := h
  have R0 : SetT0 X.prog X.w s.heap a L := (I.hok a _ ha).1
  obtain ⟨es, ep, t, R⟩ := R0.full fun p hp => I.isT (hk p hp)
  rw [Vals.ref1 r]
  refine sorted_setH R (I.ok.hd hc) hn h1 fun s' p out c M k g o hp hg hout pm pw => ?_
  have few : M.length < 64 := by rw [pm.length_eq]; exact R.few
  have hv : Vals (M.map fun q => V.ref q.1) out.toList := by rw [hout]; exact vals_of_refs M
  have nP : H p = none := I.hok.fresh hp
  have J : Inv X pins σ (upd H p (.lst (M.map fun q => V.ref q.1))) { s with heap := s'.heap, gens := s'.gens, drawn := s'.drawn, toks := s'.toks } :=
    I.call (ch := []) (Un.laid k hp nP) (I.hok.laid k hp ⟨by rw [List.length_map, sizeLine_eq]; omega, out.toList, c, hv, hg⟩) (by rw [g]; exact I.bare) (fun _ z => nomatch z)
  have e : s' = { s with heap := s'.heap, gens := s'.gens, drawn := s'.drawn, toks := s'.toks } := by
    cases s'; cases s; cases o; rfl
  rw [e]
  exact ⟨.ref p, _, J, rfl, q M p pm ((pm.map (·.2)).nodup_iff.mpr R.nd) few pw nP⟩
end XL
namespace XL
open PySem PySem.Spec PyProof.Rows L2
/-! ### what hangs together: marks, closures, groups -/
def rng (n : Nat) : List Int := (List.range n).map fun i : Nat => (i : Int)
theorem mem_rng {n : Nat} {x : Int} : x ∈ rng n ↔ 0 ≤ x ∧ x < n := by
  unfold rng
  constructor
  · intro h
    obtain ⟨i, hi, rfl⟩ := List.mem_map.mp h
    have := List.mem_range.mp hi
    omega
  · intro ⟨h0, h1⟩
    exact List.mem_map.mpr ⟨x.toNat, List.mem_range.mpr (by omega), by omega⟩
theorem rng_len (n : Nat) : (rng n).length = n := by unfold rng; rw [List.length_map, List.length_range]
theorem rng_get {n i : Nat} (h : i < n) : (rng n)[i]? = some (i : Int) := by
  unfold rng
  rw [List.getElem?_map, List.getElem?_range h]; rfl
theorem rng_succ (n : Nat) : rng (n + 1) = rng n ++ [(n : Int)] := by
  unfold rng
  rw [List.range_succ, List.map_append]; rfl
theorem rng_lt : ∀ n : Nat, (rng n).Pairwise (· < ·)
  | 0 => List.Pairwise.nil
  | n + 1 => by
    rw [rng_succ, List.pairwise_append]
    refine ⟨rng_lt n, List.pairwise_singleton _ _, fun a ha b hb => ?_⟩
    rw [List.mem_singleton.mp hb]
    exact (mem_rng.mp ha).2
def mkOf (ms : List Int) (j : Int) : Int := ms.getD j.toNat 0
theorem mkOf_get {ms : List Int} {j : Int} (h0 : 0 ≤ j) (h1 : j < ms.length) : ms[j.toNat]? = some (mkOf ms j) := by
  unfold mkOf
  rw [List.getD_eq_getElem?_getD, List.getElem?_eq_getElem (show j.toNat < ms.length by omega)]; rfl
theorem mkOf_map {ms : List Int} {f : Int → Int} {j : Int} (h0 : 0 ≤ j) (h1 : j < ms.length) : mkOf (ms.map f) j = f (mkOf ms j) := by
  have e := mkOf_get h0 h1
  unfold mkOf at e ⊢
  rw [List.getD_eq_getElem?_getD, List.getElem?_map, e]; rfl
theorem mkOf_rng {n : Nat} {j : Int} (h0 : 0 ≤ j) (h1 : j < n) : mkOf (rng n) j = j := by
  unfold mkOf
  rw [List.getD_eq_getElem?_getD, rng_get (show j.toNat < n by omega)]
  show ((j.toNat : Nat) : Int) = j
  omega
abbrev Prs := List (Int × Int)
def okPrs (n : Nat) (es : Prs) : Prop := ∀ p ∈ es, (0 ≤ p.1 ∧ p.1 < n) ∧ (0 ≤ p.2 ∧ p.2 < n)
inductive Cc (es : Prs) (a : Int) : Int → Prop
  | refl : Cc es a a
  | fw {x y : Int} : Cc es a x → (x, y) ∈ es → Cc es a y
  | bw {x y : Int} : Cc es a y → (x, y) ∈ es → Cc es a x
theorem Cc.trans {es : Prs} {a b c : Int} (h : Cc es a b) (k : Cc es b c) : Cc es a c := by
  induction k with
  | refl => exact h
  | fw _ m ih => exact ih.fw m
  | bw _ m ih => exact ih.bw m
theorem Cc.symm {es : Prs} {a b : Int} (h : Cc es a b) : Cc es b a := by
  induction h with
  | refl => exact .refl
  | fw _ m ih => exact (Cc.bw .refl m).trans ih
  | bw _ m ih => exact (Cc.fw .refl m).trans ih
theorem Cc.mono {es fs : Prs} (hs : ∀ p ∈ es, p ∈ fs) {a b : Int} (h : Cc es a b) : Cc fs a b := by
  induction h with
  | refl => exact .refl
  | fw _ m ih => exact ih.fw (hs _ m)
  | bw _ m ih => exact ih.bw (hs _ m)
theorem Cc.inn {n : Nat} {es : Prs} (ok : okPrs n es) {a b : Int} (h : Cc es a b) (h0 : 0 ≤ a ∧ a < n) : 0 ≤ b ∧ b < n := by
  cases h with
  | refl => exact h0
  | fw _ m => exact (ok _ m).2
  | bw _ m => exact (ok _ m).1
/-- one lock: all of the dropped mark get the kept one -/
def rel (ms : List Int) (p : Int × Int) : List Int := ms.map fun m => if m = mkOf ms p.2 then mkOf ms p.1 else m
structure Mks (n : Nat) (es : Prs) (ms : List Int) : Prop where
  len : ms.length = n
  p1 : ∀ p ∈ es, mkOf ms p.1 = mkOf ms p.2
  p2 : ∀ i j : Int, 0 ≤ i → i < n → 0 ≤ j → j < n → mkOf ms i = mkOf ms j → Cc es i j
theorem Mks.start (n : Nat) : Mks n [] (rng n) := by
  refine ⟨rng_len n, fun p h => by simp at h, fun i j i0 i1 j0 j1 e => ?_⟩
  rw [mkOf_rng i0 i1, mkOf_rng j0 j1] at e
  rw [e]; exact .refl
theorem Mks.step {n : Nat} {es : Prs} {ms : List Int} {p : Int × Int} (h : Mks n es ms) (ok : okPrs n es) (op : (0 ≤ p.1 ∧ p.1 < n) ∧ (0 ≤ p.2 ∧ p.2 < n)) : Mks n (es ++ [p]) (rel ms p) := by
  obtain ⟨⟨a0, a1⟩, c0, c1⟩ := op
  have at_ : ∀ i : Int, 0 ≤ i → i < n → mkOf (rel ms p) i = if mkOf ms i = mkOf ms p.2 then mkOf ms p.1 else mkOf ms i := fun i i0 i1 => by
    unfold rel
    rw [mkOf_map i0 (by rw [h.len]; exact i1)]
  have up : ∀ {i j : Int}, Cc es i j → Cc (es ++ [p]) i j := fun c => c.mono fun q hq => List.mem_append_left _ hq
  have lk : Cc (es ++ [p]) p.1 p.2 := Cc.fw .refl (List.mem_append_right _ (List.mem_singleton.mpr rfl))
  refine ⟨by unfold rel; rw [List.length_map, h.len], fun q hq => ?_, fun i j i0 i1 j0 j1 e => ?_⟩
  · rcases List.mem_append.mp hq with hq | hq
    · obtain ⟨⟨b0, b1⟩, d0, d1⟩ := ok q hq
      rw [at_ _ b0 b1, at_ _ d0 d1, h.p1 q hq]
    · rw [List.mem_singleton.mp hq, at_ _ a0 a1, at_ _ c0 c1, if_pos rfl]
      split <;> rfl
  · rw [at_ _ i0 i1, at_ _ j0 j1] at e
    by_cases e1 : mkOf ms i = mkOf ms p.2
    · have k1 := up (h.p2 i p.2 i0 i1 c0 c1 e1)
      rw [if_pos e1] at e
      by_cases e2 : mkOf ms j = mkOf ms p.2
      · exact up (h.p2 i j i0 i1 j0 j1 (e1.trans e2.symm))
      · rw [if_neg e2] at e
        exact (k1.trans lk.symm).trans (up (h.p2 p.1 j a0 a1 j0 j1 e))
    · rw [if_neg e1] at e
      by_cases e2 : mkOf ms j = mkOf ms p.2
      · rw [if_pos e2] at e
        exact ((up (h.p2 i p.1 i0 i1 a0 a1 e)).trans lk).trans (up (h.p2 p.2 j c0 c1 j0 j1 e2.symm))
      · rw [if_neg e2] at e
        exact up (h.p2 i j i0 i1 j0 j1 e)
theorem Mks.iff {n : Nat} {es : Prs} {ms : List Int} (h : Mks n es ms) (ok : okPrs n es) {i j : Int} (hi : 0 ≤ i ∧ i < n) : Cc es i j ↔ (0 ≤ j ∧ j < n) ∧ mkOf ms j = mkOf ms i := by
  constructor
  · intro c
    refine ⟨c.inn ok hi, ?_⟩
    induction c with
    | refl => rfl
    | fw _ m ih => rw [← ih]; exact (h.p1 _ m).symm
    | bw _ m ih => rw [← ih]; exact h.p1 _ m
  · intro ⟨⟨j0, j1⟩, e⟩
    exact h.p2 i j hi.1 hi.2 j0 j1 e.symm
/-! ### the closure by turns -/
def hstep (f : List Int) (p : Int × Int) : List Int := if decide (p.1 ∈ f) ≠ decide (p.2 ∈ f) then f ++ [if p.1 ∈ f then p.2 else p.1] else f
def hpass (es : Prs) (f : List Int) : List Int := es.foldl hstep f
def hturns (es : Prs) : Nat → List Int → List Int
  | 0, f => f
  | k + 1, f => hpass es (hturns es k f)
theorem hstep_sub {f : List Int} {p : Int × Int} {x : Int} (h : x ∈ f) : x ∈ hstep f p := by
  unfold hstep
  split
  · exact List.mem_append_left _ h
  · exact h
theorem hpass_sub : ∀ (es : Prs) {f : List Int} {x : Int}, x ∈ f → x ∈ hpass es f
  | [], f, x, h => h
  | p :: es, f, x, h => hpass_sub es (f := hstep f p) (hstep_sub h)
theorem hstep_both {f : List Int} {p : Int × Int} (h : hstep f p ≠ f) : (p.1 ∈ hstep f p ∧ p.2 ∈ hstep f p) ∧ ¬ (p.1 ∈ f ∧ p.2 ∈ f) := by
  unfold hstep at h ⊢
  by_cases c : decide (p.1 ∈ f) ≠ decide (p.2 ∈ f)
  · rw [if_pos c]
    by_cases a : p.1 ∈ f
    · have b : p.2 ∉ f := fun b => c (by rw [decide_eq_true a, decide_eq_true b])
      rw [if_pos a]
      exact ⟨⟨List.mem_append_left _ a, List.mem_append_right _ (List.mem_singleton.mpr rfl)⟩, fun z => b z.2⟩
    · have b : p.2 ∈ f := Classical.byContradiction fun b => c (by rw [decide_eq_false a, decide_eq_false b])
      rw [if_neg a]
      exact ⟨⟨List.mem_append_right _ (List.mem_singleton.mpr rfl), List.mem_append_left _ b⟩, fun z => a z.1⟩
  · rw [if_neg c] at h; exact absurd rfl h
theorem hstep_same {f : List Int} {p : Int × Int} (h : hstep f p = f) : p.1 ∈ f ↔ p.2 ∈ f := by
  unfold hstep at h
  by_cases c : decide (p.1 ∈ f) ≠ decide (p.2 ∈ f)
  · rw [if_pos c] at h
    have := congrArg List.length h
    simp at this
  · have c' : decide (p.1 ∈ f) = decide (p.2 ∈ f) := Classical.byContradiction c
    exact decide_eq_decide.mp c'
/-- a pass changes nothing and all is closed, or some pair is newly within -/
theorem hpass_or : ∀ (es : Prs) (f : List Int), (hpass es f = f ∧ ∀ p ∈ es, (p.1 ∈ f ↔ p.2 ∈ f)) ∨ ∃ p ∈ es, (p.1 ∈ hpass es f ∧ p.2 ∈ hpass es f) ∧ ¬ (p.1 ∈ f ∧ p.2 ∈ f)
  | [], f => .inl ⟨rfl, fun p h => by simp at h⟩
  | p :: es, f => by
    by_cases c : hstep f p = f
    · rcases hpass_or es f with ⟨h1, h2⟩ | ⟨q, hq, h⟩
      · refine .inl ⟨?_, fun q hq => ?_⟩
        · show hpass es (hstep f p) = f
          rw [c]; exact h1
        · rcases List.mem_cons.mp hq with e | hq
          · rw [e]; exact hstep_same c
          · exact h2 q hq
      · refine .inr ⟨q, List.mem_cons_of_mem _ hq, ?_⟩
        show (q.1 ∈ hpass es (hstep f p) ∧ q.2 ∈ hpass es (hstep f p)) ∧ _
        rw [c]; exact h
    · obtain ⟨⟨a, b⟩, d⟩ := hstep_both c
      exact .inr ⟨p, List.mem_cons_self .., ⟨hpass_sub es a, hpass_sub es b⟩, d⟩
def cnt (es : Prs) (f : List Int) : Nat := es.countP fun p => decide (p.1 ∈ f ∧ p.2 ∈ f)
theorem countP_le {α : Type} {p q : α → Bool} : ∀ {l : List α}, (∀ a ∈ l, p a = true → q a = true) → l.countP p ≤ l.countP q
  | [], _ => Nat.le_refl _
  | a :: l, h => by
    have ih := countP_le (l := l) fun b hb => h b (List.mem_cons_of_mem _ hb)
    rw [List.countP_cons, List.countP_cons]
    have h0 := h a (List.mem_cons_self ..)
    cases e : p a with
    | true => rw [h0 e]; simpa using ih
    | false => simp; omega
theorem countP_lt {α : Type} {p q : α → Bool} : ∀ {l : List α} {x : α}, (∀ a ∈ l, p a = true → q a = true) → x ∈ l → q x = true → p x = false → l.countP p < l.countP q
  | [], x, _, h, _, _ => by simp at h
  | a :: l, x, h, hx, hq, hp => by
    have hl : ∀ b ∈ l, p b = true → q b = true := fun b hb => h b (List.mem_cons_of_mem _ hb)
    rw [List.countP_cons, List.countP_cons]
    rcases List.mem_cons.mp hx with e | hx
    · subst e
      have := countP_le hl
      rw [hq, hp]; simp; omega
    · have ih := countP_lt hl hx hq hp
      have h0 := h a (List.mem_cons_self ..)
      cases e : p a with
      | true => rw [h0 e]; simpa using ih
      | false => simp; omega
theorem hturns_or (es : Prs) (f : List Int) : ∀ k : Nat, (∀ p ∈ es, (p.1 ∈ hturns es k f ↔ p.2 ∈ hturns es k f)) ∨ k ≤ cnt es (hturns es k f)
  | 0 => .inr (Nat.zero_le _)
  | k + 1 => by
    rcases hpass_or es (hturns es k f) with ⟨h1, h2⟩ | ⟨q, hq, h3, h4⟩
    · refine .inl ?_
      show ∀ p ∈ es, (p.1 ∈ hpass es (hturns es k f) ↔ p.2 ∈ hpass es (hturns es k f))
      rw [h1]; exact h2
    · have lt : cnt es (hturns es k f) < cnt es (hturns es (k + 1) f) := countP_lt (x := q) (fun p hp e => by
        have e' := of_decide_eq_true e
        exact decide_eq_true ⟨hpass_sub es e'.1, hpass_sub es e'.2⟩) hq (decide_eq_true h3) (decide_eq_false h4)
      rcases hturns_or es f k with h | h
      · exfalso
        -- closed: nothing is newly within
        have cl : ∀ (es' : Prs) , (∀ p ∈ es', p ∈ es) → hpass es' (hturns es k f) = hturns es k f := by
          intro es'
          induction es' with
          | nil => intro _; rfl
          | cons p es' ih =>
            intro hs
            have c : hstep (hturns es k f) p = hturns es k f := by
              unfold hstep
              rw [if_neg (fun c => c (decide_eq_decide.mpr (h p (hs p (List.mem_cons_self ..)))))]
            show hpass es' (hstep (hturns es k f) p) = _
            rw [c]
            exact ih fun q hq => hs q (List.mem_cons_of_mem _ hq)
        rw [cl es fun p hp => hp] at h3
        exact h4 h3
      · exact .inr (by omega)
theorem hturns_closed (es : Prs) (f : List Int) : ∀ p ∈ es, (p.1 ∈ hturns es (es.length + 1) f ↔ p.2 ∈ hturns es (es.length + 1) f) := by
  rcases hturns_or es f (es.length + 1) with h | h
  · exact h
  · have : cnt es (hturns es (es.length + 1) f) ≤ es.length := List.countP_le_length
    omega
/-- what is found hangs by the first, and is found once -/
structure Fd (es : Prs) (b : Int) (f : List Int) : Prop where
  nd : f.Nodup
  bm : b ∈ f
  c : ∀ x ∈ f, Cc es b x
theorem Fd.start (es : Prs) (b : Int) : Fd es b [b] := ⟨by simp, List.mem_singleton.mpr rfl, fun x h => by rw [List.mem_singleton.mp h]; exact .refl⟩
theorem Fd.step {es : Prs} {b : Int} {f : List Int} {p : Int × Int} (h : Fd es b f) (hp : p ∈ es) : Fd es b (hstep f p) := by
  unfold hstep
  by_cases c : decide (p.1 ∈ f) ≠ decide (p.2 ∈ f)
  · rw [if_pos c]
    by_cases a : p.1 ∈ f
    · have nb : p.2 ∉ f := fun b => c (by rw [decide_eq_true a, decide_eq_true b])
      rw [if_pos a]
      refine ⟨List.nodup_append.mpr ⟨h.nd, by simp, fun x hx y hy e => nb (by rw [← List.mem_singleton.mp hy, ← e]; exact hx)⟩, List.mem_append_left _ h.bm, fun x hx => ?_⟩
      rcases List.mem_append.mp hx with hx | hx
      · exact h.c x hx
      · rw [List.mem_singleton.mp hx]; exact (h.c _ a).fw hp
    · have bb : p.2 ∈ f := Classical.byContradiction fun b => c (by rw [decide_eq_false a, decide_eq_false b])
      rw [if_neg a]
      refine ⟨List.nodup_append.mpr ⟨h.nd, by simp, fun x hx y hy e => a (by rw [← List.mem_singleton.mp hy, ← e]; exact hx)⟩, List.mem_append_left _ h.bm, fun x hx => ?_⟩
      rcases List.mem_append.mp hx with hx | hx
      · exact h.c x hx
      · rw [List.mem_singleton.mp hx]; exact (h.c _ bb).bw hp
  · rw [if_neg c]; exact h
theorem Fd.all {es : Prs} {b : Int} {f : List Int} (h : Fd es b f) (cl : ∀ p ∈ es, (p.1 ∈ f ↔ p.2 ∈ f)) {x : Int} : x ∈ f ↔ Cc es b x := by
  refine ⟨h.c x, fun c => ?_⟩
  induction c with
  | refl => exact h.bm
  | fw _ m ih => exact (cl _ m).mp ih
  | bw _ m ih => exact (cl _ m).mpr ih
/-- all of one mark -/
def cls (n : Nat) (ms : List Int) (m : Int) : List Int := (rng n).filter fun j => decide (mkOf ms j = m)
theorem mem_cls {n : Nat} {ms : List Int} {m x : Int} : x ∈ cls n ms m ↔ (0 ≤ x ∧ x < n) ∧ mkOf ms x = m := by
  unfold cls
  rw [List.mem_filter, mem_rng, decide_eq_true_eq]
theorem cls_lt (n : Nat) (ms : List Int) (m : Int) : (cls n ms m).Pairwise (· < ·) := (rng_lt n).filter _
theorem sorted_uniq : ∀ {a b : List Int}, a.Pairwise (· < ·) → b.Pairwise (· < ·) → (∀ x, x ∈ a ↔ x ∈ b) → a = b
  | [], [], _, _, _ => rfl
  | [], y :: b, _, _, h => by have := (h y).mpr (List.mem_cons_self ..); simp at this
  | x :: a, [], _, _, h => by have := (h x).mp (List.mem_cons_self ..); simp at this
  | x :: a, y :: b, ha, hb, h => by
    obtain ⟨a1, a2⟩ := List.pairwise_cons.mp ha
    obtain ⟨b1, b2⟩ := List.pairwise_cons.mp hb
    have e : x = y := by
      have h1 := (h x).mp (List.mem_cons_self ..)
      have h2 := (h y).mpr (List.mem_cons_self ..)
      rcases List.mem_cons.mp h1 with e | h1
      · exact e
      · rcases List.mem_cons.mp h2 with e | h2
        · exact e.symm
        · have := b1 x h1; have := a1 y h2; omega
    subst e
    rw [sorted_uniq a2 b2 fun z => ?_]
    constructor
    · intro hz
      have lt := a1 z hz
      rcases List.mem_cons.mp ((h z).mp (List.mem_cons_of_mem _ hz)) with e | q
      · omega
      · exact q
    · intro hz
      have lt := b1 z hz
      rcases List.mem_cons.mp ((h z).mpr (List.mem_cons_of_mem _ hz)) with e | q
      · omega
      · exact q
/-- the closure, sorted, is the class of the mark -/
theorem hung_eq {n : Nat} {es : Prs} {ms ns : List Int} {b : Int} {f : List Int} (M : Mks n es ms) (ok : okPrs n es) (hb : 0 ≤ b ∧ b < n) (F : Fd es b f) (cl : ∀ p ∈ es, (p.1 ∈ f ↔ p.2 ∈ f)) (pm : ns.Perm f) (pw : ns.Pairwise (· ≤ ·)) : ns = cls n ms (mkOf ms b) := by
  have nd : ns.Nodup := pm.nodup_iff.mpr F.nd
  have lt : ns.Pairwise (· < ·) := by
    refine (List.Pairwise.and pw nd).imp fun {x y} h => ?_
    have h1 := h.1; have h2 := h.2
    have h3 : x ≠ y := h2
    omega
  refine sorted_uniq lt (cls_lt n ms _) fun x => ?_
  rw [pm.mem_iff, F.all cl, M.iff ok hb, mem_cls]
/-! ### groups in the order of their first ones -/
abbrev Gr := List (Int × List Int)
def gput : Gr → Int → Int → Gr
  | [], m, x => [(m, [x])]
  | (k, l) :: r, m, x => if k = m then (k, l ++ [x]) :: r else (k, l) :: gput r m x
structure Grp (ms : List Int) (i : Nat) (g : Gr) : Prop where
  nd : (g.map (·.1)).Nodup
  l : ∀ p ∈ g, p.2 = cls i ms p.1 ∧ p.2 ≠ []
  k : ∀ j : Int, 0 ≤ j → j < i → ∃ p ∈ g, p.1 = mkOf ms j
  h : g.Pairwise fun p q => hd0 p.2 < hd0 q.2
theorem Grp.start (ms : List Int) : Grp ms 0 [] := ⟨List.Pairwise.nil, fun p h => by simp at h, fun j h0 h1 => by omega, List.Pairwise.nil⟩
theorem gput_keys : ∀ {g : Gr} {m x : Int}, m ∈ g.map (·.1) → (gput g m x).map (·.1) = g.map (·.1)
  | [], m, x, h => by simp at h
  | (k, l) :: r, m, x, h => by
    unfold gput
    by_cases e : k = m
    · rw [if_pos e]; rfl
    · rw [if_neg e, List.map_cons, List.map_cons, gput_keys (g := r)]
      rcases List.mem_cons.mp h with q | q
      · exact absurd q.symm e
      · exact q
theorem gput_new : ∀ {g : Gr} {m x : Int}, m ∉ g.map (·.1) → gput g m x = g ++ [(m, [x])]
  | [], m, x, _ => rfl
  | (k, l) :: r, m, x, h => by
    unfold gput
    have e : k ≠ m := fun e => h (by rw [← e]; exact List.mem_cons_self ..)
    rw [if_neg e, gput_new (g := r) fun q => h (List.mem_cons_of_mem _ q)]; rfl
theorem cls_succ (i : Nat) (ms : List Int) (m : Int) : cls (i + 1) ms m = cls i ms m ++ if mkOf ms (i : Int) = m then [(i : Int)] else [] := by
  unfold cls
  rw [rng_succ, List.filter_append]
  congr 1
  by_cases e : mkOf ms (i : Int) = m
  · rw [if_pos e]; simp [e]
  · rw [if_neg e]; simp [e]
theorem hd0_app {l r : List Int} (h : l ≠ []) : hd0 (l ++ r) = hd0 l := by
  cases l with
  | nil => exact absurd rfl h
  | cons a l => rfl
theorem gput_mem : ∀ {g : Gr} {m x : Int} {p : Int × List Int}, (g.map (·.1)).Nodup → m ∈ g.map (·.1) → p ∈ gput g m x → (p.1 ≠ m ∧ p ∈ g) ∨ (p.1 = m ∧ ∃ l, (m, l) ∈ g ∧ p.2 = l ++ [x])
  | [], m, x, p, _, h, _ => by simp at h
  | (k, l) :: r, m, x, p, nd, h, hp => by
    unfold gput at hp
    obtain ⟨n1, n2⟩ := List.nodup_cons.mp nd
    by_cases e : k = m
    · rw [if_pos e] at hp
      rcases List.mem_cons.mp hp with q | q
      · exact .inr ⟨by rw [q]; exact e, l, by rw [← e]; exact List.mem_cons_self .., by rw [q]⟩
      · refine .inl ⟨fun z => n1 ?_, List.mem_cons_of_mem _ q⟩
        show k ∈ r.map (·.1)
        rw [e, ← z]; exact List.mem_map.mpr ⟨p, q, rfl⟩
    · rw [if_neg e] at hp
      rcases List.mem_cons.mp hp with q | q
      · exact .inl ⟨by rw [q]; exact e, by rw [q]; exact List.mem_cons_self ..⟩
      · have hm : m ∈ r.map (·.1) := by
          rcases List.mem_cons.mp h with z | z
          · exact absurd z.symm e
          · exact z
        rcases gput_mem n2 hm q with ⟨a, b⟩ | ⟨a, l', b, c⟩
        · exact .inl ⟨a, List.mem_cons_of_mem _ b⟩
        · exact .inr ⟨a, l', List.mem_cons_of_mem _ b, c⟩
theorem gput_hd : ∀ {g : Gr} {m x : Int}, (∀ p ∈ g, p.2 ≠ []) → m ∈ g.map (·.1) → (gput g m x).map (fun p => hd0 p.2) = g.map fun p => hd0 p.2
  | [], m, x, _, h => by simp at h
  | (k, l) :: r, m, x, ne, h => by
    unfold gput
    by_cases e : k = m
    · rw [if_pos e, List.map_cons, List.map_cons, hd0_app (ne (k, l) (List.mem_cons_self ..))]
    · have hm : m ∈ r.map (·.1) := by
        rcases List.mem_cons.mp h with z | z
        · exact absurd z.symm e
        · exact z
      rw [if_neg e, List.map_cons, List.map_cons, gput_hd (fun p hp => ne p (List.mem_cons_of_mem _ hp)) hm]
theorem Grp.step {ms : List Int} {i : Nat} {g : Gr} (h : Grp ms i g) : Grp ms (i + 1) (gput g (mkOf ms (i : Int)) (i : Int)) := by
  by_cases hm : mkOf ms (i : Int) ∈ g.map (·.1)
  · refine ⟨by rw [gput_keys hm]; exact h.nd, fun p hp => ?_, fun j j0 j1 => ?_, ?_⟩
    · rcases gput_mem h.nd hm hp with ⟨a, b⟩ | ⟨a, l, b, c⟩
      · obtain ⟨e1, e2⟩ := h.l p b
        refine ⟨?_, e2⟩
        rw [cls_succ, if_neg (fun z => a z.symm), List.append_nil]; exact e1
      · obtain ⟨e1, e2⟩ := h.l _ b
        refine ⟨?_, by rw [c]; simp⟩
        rw [c, a, cls_succ, if_pos rfl]
        have e1' : l = cls i ms (mkOf ms (i : Int)) := e1
        rw [e1']
    · have key : mkOf ms j ∈ (gput g (mkOf ms (i : Int)) (i : Int)).map (·.1) := by
        rw [gput_keys hm]
        by_cases e : j = i
        · rw [e]; exact hm
        · obtain ⟨p, hp, e⟩ := h.k j j0 (by omega)
          exact List.mem_map.mpr ⟨p, hp, e⟩
      obtain ⟨p, hp, e⟩ := List.mem_map.mp key
      exact ⟨p, hp, e⟩
    · have := gput_hd (x := (i : Int)) (fun p hp => (h.l p hp).2) hm
      have h2 : (g.map fun p => hd0 p.2).Pairwise (· < ·) := List.pairwise_map.mpr h.h
      rw [← this] at h2
      exact List.pairwise_map.mp h2
  · rw [gput_new hm]
    have old : ∀ p ∈ g, p.1 ≠ mkOf ms (i : Int) := fun p hp e => hm (List.mem_map.mpr ⟨p, hp, e⟩)
    have none : cls i ms (mkOf ms (i : Int)) = [] := by
      cases e : cls i ms (mkOf ms (i : Int)) with
      | nil => rfl
      | cons y r =>
        exfalso
        have hy : y ∈ cls i ms (mkOf ms (i : Int)) := by rw [e]; exact List.mem_cons_self ..
        obtain ⟨⟨y0, y1⟩, ey⟩ := mem_cls.mp hy
        obtain ⟨p, hp, ep⟩ := h.k y y0 y1
        exact old p hp (ep.trans ey)
    refine ⟨?_, fun p hp => ?_, fun j j0 j1 => ?_, ?_⟩
    · rw [List.map_append]
      refine List.nodup_append.mpr ⟨h.nd, by simp, fun x hx y hy e => ?_⟩
      have e2 : y = mkOf ms (i : Int) := by simpa using hy
      exact hm (by rw [← e2, ← e]; exact hx)
    · rcases List.mem_append.mp hp with hp | hp
      · obtain ⟨e1, e2⟩ := h.l p hp
        refine ⟨?_, e2⟩
        rw [cls_succ, if_neg (fun z => old p hp z.symm), List.append_nil]; exact e1
      · rw [List.mem_singleton.mp hp]
        refine ⟨?_, by simp⟩
        show [(i : Int)] = cls (i + 1) ms (mkOf ms (i : Int))
        rw [cls_succ, if_pos rfl, none]; rfl
    · by_cases e : j = i
      · exact ⟨_, List.mem_append_right _ (List.mem_singleton.mpr rfl), by rw [e]⟩
      · obtain ⟨p, hp, e⟩ := h.k j j0 (by omega)
        exact ⟨p, List.mem_append_left _ hp, e⟩
    · rw [List.pairwise_append]
      refine ⟨h.h, List.pairwise_singleton _ _, fun p hp q hq => ?_⟩
      rw [List.mem_singleton.mp hq]
      show hd0 p.2 < (i : Int)
      obtain ⟨e1, e2⟩ := h.l p hp
      cases e3 : p.2 with
      | nil => exact absurd e3 e2
      | cons y r =>
        have hy : y ∈ cls i ms p.1 := by rw [← e1, e3]; exact List.mem_cons_self ..
        exact (mem_cls.mp hy).1.2
/-- two lists of lists that rise by their first ones and hold the same are the same -/
theorem heads_uniq : ∀ {a b : List (List Int)}, a.Pairwise (fun x y => hd0 x < hd0 y) → b.Pairwise (fun x y => hd0 x < hd0 y) → (∀ x, x ∈ a ↔ x ∈ b) → a = b
  | [], [], _, _, _ => rfl
  | [], y :: b, _, _, h => by have := (h y).mpr (List.mem_cons_self ..); simp at this
  | x :: a, [], _, _, h => by have := (h x).mp (List.mem_cons_self ..); simp at this
  | x :: a, y :: b, ha, hb, h => by
    obtain ⟨a1, a2⟩ := List.pairwise_cons.mp ha
    obtain ⟨b1, b2⟩ := List.pairwise_cons.mp hb
    have e : x = y := by
      have h1 := (h x).mp (List.mem_cons_self ..)
      have h2 := (h y).mpr (List.mem_cons_self ..)
      rcases List.mem_cons.mp h1 with e | h1
      · exact e
      · rcases List.mem_cons.mp h2 with e | h2
        · exact e.symm
        · have := b1 x h1; have := a1 y h2; omega
    subst e
    rw [heads_uniq a2 b2 fun z => ?_]
    constructor
    · intro hz
      have lt := a1 z hz
      rcases List.mem_cons.mp ((h z).mp (List.mem_cons_of_mem _ hz)) with e | q
      · rw [e] at lt; omega
      · exact q
    · intro hz
      have lt := b1 z hz
      rcases List.mem_cons.mp ((h z).mpr (List.mem_cons_of_mem _ hz)) with e | q
      · rw [e] at lt; omega
      · exact q
theorem Grp.eq {n : Nat} {ms : List Int} {g : Gr} {cs : List (List Int)} (h : Grp ms n g) (hm : ∀ x, x ∈ cs ↔ ∃ b : Int, (0 ≤ b ∧ b < n) ∧ x = cls n ms (mkOf ms b)) (nd : cs.Nodup) (pw : cs.Pairwise fun x y => hd0 x ≤ hd0 y) : cs = g.map (·.2) := by
  have key : ∀ x ∈ cs, ∃ b : Int, (0 ≤ b ∧ b < n) ∧ x = cls n ms (mkOf ms b) ∧ hd0 x ∈ x := fun x hx => by
    obtain ⟨b, hb, e⟩ := (hm x).mp hx
    refine ⟨b, hb, e, ?_⟩
    have hb' : b ∈ x := by rw [e]; exact mem_cls.mpr ⟨hb, rfl⟩
    cases x with
    | nil => simp at hb'
    | cons y r => exact List.mem_cons_self ..
  refine heads_uniq ?_ (List.pairwise_map.mpr h.h) fun x => ?_
  · refine (List.Pairwise.and pw nd).imp_of_mem fun {x y} hx hy hh => ?_
    have h1 := hh.1
    have h2 : x ≠ y := hh.2
    obtain ⟨b, hb, ex, mx⟩ := key x hx
    obtain ⟨c, hc, ey, my⟩ := key y hy
    have ne : hd0 x ≠ hd0 y := fun e => h2 (by
      have m1 := (mem_cls.mp (ex ▸ mx)).2
      have m2 := (mem_cls.mp (ey ▸ my)).2
      rw [ex, ey, ← m1, ← m2, ← ex, ← ey, e])
    omega
  · rw [hm]
    constructor
    · intro ⟨b, hb, e⟩
      obtain ⟨p, hp, ep⟩ := h.k b hb.1 hb.2
      exact List.mem_map.mpr ⟨p, hp, by rw [(h.l p hp).1, ep, e]⟩
    · intro hx
      obtain ⟨p, hp, e⟩ := List.mem_map.mp hx
      obtain ⟨e1, e2⟩ := h.l p hp
      cases e3 : p.2 with
      | nil => exact absurd e3 e2
      | cons y r =>
        have hy : y ∈ cls n ms p.1 := by rw [← e1, e3]; exact List.mem_cons_self ..
        obtain ⟨hb, ey⟩ := mem_cls.mp hy
        exact ⟨y, hb, by rw [← e, e1, ey]⟩
theorem cls_heads {n : Nat} {ms : List Int} {b c : Int} (hb : 0 ≤ b ∧ b < n) (hc : 0 ≤ c ∧ c < n) (e : hd0 (cls n ms (mkOf ms b)) = hd0 (cls n ms (mkOf ms c))) : cls n ms (mkOf ms b) = cls n ms (mkOf ms c) := by
  have key : ∀ d : Int, 0 ≤ d ∧ d < n → hd0 (cls n ms (mkOf ms d)) ∈ cls n ms (mkOf ms d) := fun d hd => by
    have h : d ∈ cls n ms (mkOf ms d) := mem_cls.mpr ⟨hd, rfl⟩
    cases q : cls n ms (mkOf ms d) with
    | nil => rw [q] at h; simp at h
    | cons y r => exact List.mem_cons_self ..
  have m1 := (mem_cls.mp (key b hb)).2
  have m2 := (mem_cls.mp (key c hc)).2
  rw [← m1, ← m2, e]
end XL
namespace XL
open PySem PySem.Spec PyProof.Rows L2
def topS (i : Nat) : Stmt := PySem.Challenge.pw_crosslocks_k04_pieces_of_a_water.main.body.getD i (.Pass ⟨0, 0, 0, 0⟩)
abbrev sTake : Stmt := topS 6
abbrev sOf : Stmt := topS 7
theorem atI_int {α : Type} {xs : List α} {i : Int} {v : α} (h0 : 0 ≤ i) (h : xs[i.toNat]? = some v) : atI xs i = some v := by
  have q := atI_nat h
  rwa [show ((i.toNat : Nat) : Int) = i by omega] at q
/-! ### the box: a list of three numbers -/
def Bx (H : Hp) (b : Addr) : Prop := ∃ x y z : Int, H b = some (.lst [.int x, .int y, .int z])
/-- all that was tracked but the box is as it was, the box is a box -/
structure Dr (b : Addr) (H H' : Hp) : Prop where
  box : Bx H' b
  same : ∀ a o, a ≠ b → H a = some o → H' a = some o
theorem Dr.refl {b : Addr} {H : Hp} (h : Bx H b) : Dr b H H := ⟨h, fun _ _ _ e => e⟩
theorem Dr.trans {b : Addr} {H H1 H2 : Hp} (p : Dr b H H1) (q : Dr b H1 H2) : Dr b H H2 := ⟨q.box, fun a o n e => q.same a o n (p.same a o n e)⟩
theorem Dr.new {b p : Addr} {H : Hp} {o : HO} (h : Bx H b) (n : H p = none) : Dr b H (upd H p o) := by
  obtain ⟨x, y, z, e⟩ := h
  exact ⟨⟨x, y, z, same_new n b _ e⟩, fun a o _ e => same_new n a o e⟩
theorem Dr.put {b : Addr} {H : Hp} {x y z : Int} : Dr b H (upd H b (.lst [.int x, .int y, .int z])) := ⟨⟨x, y, z, upd_same⟩, fun a o n e => by rw [upd_ne n]; exact e⟩
theorem Dr.of {b : Addr} {H H' : Hp} (h : Bx H b) (s : Same H H') : Dr b H H' := by
  obtain ⟨x, y, z, e⟩ := h
  exact ⟨⟨x, y, z, s _ _ e⟩, fun a o _ e => s a o e⟩
section
variable {P : Program} {w : World} {K : PySem.W.Frag} {mg : Str → Option Value} {base : Heap}
/-! ### _law_take -/
theorem scTake : FnScope ["_law_box_here", "_law_size", "_law_found", "_law_blend"] ["_law_box_here", "_law_size"] (defScope sTake) := ⟨rfl, rfl, rfl, by decide +kernel, rfl, by decide +kernel, by decide +kernel⟩
def spTake : Sp := fun vs H Q _ => ∃ (b : Addr) (n : Int), vs = [.ref b, .int n] ∧ Bx H b ∧ 0 < n ∧ n < 1073741824 ∧ ∀ (v : Int) (H' : Hp), 0 ≤ v → v < n → Dr b H H' → Q (.int v) H'
theorem fmod_lt {a n : Int} (h : 0 < n) : 0 ≤ a.fmod n ∧ a.fmod n < n := by
  rw [Int.fmod_eq_emod_of_nonneg _ (Int.le_of_lt h)]
  exact ⟨Int.emod_nonneg _ (by omega), Int.emod_lt_of_pos _ h⟩
theorem ok_take {f : Addr} {fd : FuncData} {k : Nat} (F : Fun K "_law_take" "_law_take" sTake f fd) : FnOk P w K mg base CX0 (k + 1) f fd ["_law_box_here", "_law_size"] spTake := by
  refine F.ok scTake (fun vs H Q E h => ?_) (fun cdv A outer s H vs Q E hr h => ?_)
  · obtain ⟨b, n, rfl, _⟩ := h
    rfl
  obtain ⟨b, n, rfl, ⟨x, y, z, eb⟩, h0, h1, q⟩ := h
  refine ⟨_, pss_cons (ps_if (pt_cmpR op_gt (pe_ix ix_list (pv 0) pe_int (fun _ _ => rfl)) pe_int (nomark _))
      (pss_cons (ps_set (i := 2) scTake.nd rfl (.inl rfl) (pe_op op_modN (pe_ix ix_list (pv 0) pe_int (fun _ _ => rfl)) (pv 1)))
      (pss_cons (ps_asg (pe_op op_fdivN (pe_ix ix_list (pv 0) pe_int (fun _ _ => rfl)) (pv 1)) (pg_sub (pv 0) pe_int set_list))
      (pss_one (ps_ret (pv 2))))) pss_nil)
    (pss_cons (ps_asg (pe_op op_add (pe_ix ix_list (pv 0) pe_int (fun _ _ => rfl)) pe_int) (pg_sub (pv 0) pe_int set_list))
    (pss_cons (ps_set (i := 3) scTake.nd rfl (.inl rfl) (pe_op op_modN (pe_op op_add (pe_ix ix_list (pv 0) pe_int (fun _ _ => rfl)) (pe_op op_mul pe_int (pe_ix ix_list (pv 0) pe_int (fun _ _ => rfl)))) pe_int))
    (pss_cons (ps_set (i := 3) scTake.nd rfl (.inl rfl) (pe_op op_modN (pe_op op_add (pe_op op_add (pe_op op_mul (pv 3) (pv 3)) (pe_op op_mul pe_int (pe_ix ix_list (pv 0) pe_int (fun _ _ => rfl)))) pe_int) pe_int))
    (pss_cons (ps_set (i := 3) scTake.nd rfl (.inl rfl) (pe_op op_modN (pe_op op_add (pe_op op_mul (pv 3) (pe_op op_add (pe_op op_fdivN (pv 3) pe_int) pe_int)) (pe_ix ix_list (pv 0) pe_int (fun _ _ => rfl))) pe_int))
    (pss_one (ps_ret (pe_op op_modN (pe_op op_fdivN (pv 3) pe_int) (pv 1)))))))), ?_⟩
  have sq : SqL K H b [.int x, .int y, .int z] := SqL.of eb
  -- box[0] > 0
  refine ⟨_, rfl, b, _, _, _, rfl, rfl, sq, rfl, _, _, rfl, rfl, _, rfl, ite2 (fun c => ?_) (fun c => ?_)⟩
  · refine ⟨_, rfl, b, _, _, _, rfl, rfl, sq, rfl, _, rfl, _, _, rfl, rfl, by omega, ?_⟩
    refine ⟨_, rfl, b, _, _, _, rfl, rfl, sq, rfl, _, rfl, _, _, rfl, rfl, ⟨by omega, by omega⟩, ?_⟩
    refine ⟨_, rfl, b, _, _, 0, rfl, rfl, eb, rfl, ?_⟩
    refine ⟨_, rfl, ?_⟩
    exact q _ _ (fmod_lt h0).1 (fmod_lt h0).2 Dr.put
  · refine ⟨_, rfl, b, _, _, _, rfl, rfl, sq, rfl, _, _, rfl, rfl, ?_⟩
    refine ⟨_, rfl, b, _, _, 2, rfl, rfl, eb, rfl, ?_⟩
    have sq2 : SqL K (upd H b (.lst [.int x, .int y, .int (z + 1)])) b [.int x, .int y, .int (z + 1)] := SqL.of upd_same
    refine ⟨_, rfl, b, _, _, _, rfl, rfl, sq2, rfl, _, rfl, b, _, _, _, rfl, rfl, sq2, rfl, _, _, rfl, rfl, .inl ⟨by decide, by decide⟩, _, _, rfl, rfl, _, _, rfl, rfl, (by show (2305843009213693951 : Int) ≠ 0; decide), ?_⟩
    have m1 := fmod_lt (a := y + 1442695040888963407 * (z + 1)) (n := 2305843009213693951) (by decide)
    refine ⟨_, rfl, _, rfl, _, _, rfl, rfl, .inl ⟨by omega, by omega⟩, _, rfl, b, _, _, _, rfl, rfl, sq2, rfl, _, _, rfl, rfl, .inl ⟨by decide, by decide⟩, _, _, rfl, rfl, _, _, rfl, rfl, _, _, rfl, rfl, (by show (2305843009213693921 : Int) ≠ 0; decide), ?_⟩
    have m2 := fmod_lt (a := (y + 1442695040888963407 * (z + 1)).fmod 2305843009213693951 * (y + 1442695040888963407 * (z + 1)).fmod 2305843009213693951 + 39373 * (z + 1) + 7) (n := 2305843009213693921) (by decide)
    refine ⟨_, rfl, _, rfl, _, _, rfl, rfl, ⟨by decide, by decide⟩, _, _, rfl, rfl, _, _, rfl, rfl, .inl ⟨by omega, by omega⟩, _, rfl, b, _, _, _, rfl, rfl, sq2, rfl, _, _, rfl, rfl, _, _, rfl, rfl, (by show (2305843009213693907 : Int) ≠ 0; decide), ?_⟩
    refine ⟨_, rfl, _, _, rfl, rfl, ⟨by decide, by decide⟩, _, rfl, _, _, rfl, rfl, by omega, ?_⟩
    exact q _ _ (fmod_lt h0).1 (fmod_lt h0).2 Dr.put
/-! ### _law_of -/
theorem scOf : FnScope ["_law_box_here", "_law_some"] ["_law_box_here", "_law_some"] (defScope sOf) := ⟨rfl, rfl, rfl, by decide +kernel, rfl, by decide +kernel, by decide +kernel⟩
def spOf (K : PySem.W.Frag) : Sp := fun vs H Q _ => ∃ (b l : Addr) (xs : List V), vs = [.ref b, .ref l] ∧ Bx H b ∧ l ≠ b ∧ SqL K H l xs ∧ xs ≠ [] ∧ xs.length < 1000 ∧ ∀ (j : Nat) (v : V) (H' : Hp), xs[j]? = some v → Dr b H H' → Q v H'
theorem Dr.sqL {b a : Addr} {H H' : Hp} {xs : List V} (d : Dr b H H') (n : a ≠ b) (h : SqL K H a xs) : SqL K H' a xs := by
  rcases h with (h | ⟨o, h⟩) | h
  · exact .inl (.inl (d.same _ _ n h))
  · exact .inl (.inr ⟨o, d.same _ _ n h⟩)
  · exact .inr h
theorem Dr.sqT {b a : Addr} {H H' : Hp} {xs : List V} (d : Dr b H H') (n : a ≠ b) (h : SqT K H a xs) : SqT K H' a xs := by
  rcases h with (h | ⟨o, h⟩) | h
  · exact .inl (.inl (d.same _ _ n h))
  · exact .inl (.inr ⟨o, d.same _ _ n h⟩)
  · exact .inr h
theorem ok_of {f ft : Addr} {fd fdt : FuncData} {k : Nat} (F : Fun K "_law_of" "_law_of" sOf f fd) (FT : Fun K "_law_take" "_law_take" sTake ft fdt) (bT : Binds K fdt ["_law_box_here", "_law_size"] []) (gT : mg "_law_take" = some (.ref ft)) (ml : mg "len" = none) :
    FnOk P w K mg base CX0 (k + 1 + 1) f fd ["_law_box_here", "_law_some"] (spOf K) := by
  refine F.ok scOf (fun vs H Q E h => ?_) (fun cdv A outer s H vs Q E hr h => ?_)
  · obtain ⟨b, l, xs, rfl, _⟩ := h
    rfl
  obtain ⟨b, l, xs, rfl, hb, hlb, hl, hne, hz, q⟩ := h
  refine ⟨_, pss_one (ps_ret (pe_ix ix_list (pv 1) (pe_call (ok_take (k := k) FT) hr rfl gT FT.kp bT .nil pass0 (pa_cons (pv 0) (pa_cons (pe_callB call_len_seq rfl ml PySem.boot_len (pa_cons (pv 1) pa_nil)) pa_nil))) (fun _ _ => rfl))), ?_⟩
  have hpos : 0 < xs.length := List.length_pos_iff.mpr hne
  refine ⟨_, rfl, _, rfl, _, rfl, l, xs, rfl, .inl hl, b, _, rfl, hb, by omega, by omega, fun v H' v0 v1 d => ?_⟩
  have hj : v.toNat < xs.length := by omega
  have ha : atI xs v = some xs[v.toNat] := atI_int v0 (List.getElem?_eq_getElem hj)
  refine ⟨l, xs, v, _, rfl, rfl, d.sqL hlb hl, ha, ?_⟩
  exact q v.toNat _ _ (List.getElem?_eq_getElem hj) d
end
end XL
namespace XL
open PySem PySem.Spec PyProof.Rows L2
abbrev sLists : Stmt := topS 10
theorem boot_isinstance : bootBuiltins "isinstance" = some (.builtin "isinstance") := by decide +kernel
section
variable {P : Program} {w : World} {K : PySem.W.Frag} {mg : Str → Option Value} {base : Heap}
theorem no_fn {f : Addr} {fd : FuncData} {ps : List Str} {sp : Sp} (no : ∀ vs H Q E, ¬ sp vs H Q E) : FnOk P w K mg base CX0 0 f fd ps sp :=
  ⟨fun vs H Q E h => absurd h (no vs H Q E), fun A outer s H args us vs Q E _ _ _ _ h => absurd h (no vs H Q E)⟩
/-- the values of a list of data, mapped -/
theorem dpall_of {F : Hp} {f : PyData → PyData} : ∀ {ys : List V} {ds : List PyData}, ys.length = ds.length → (∀ (i : Nat) y, ys[i]? = some y → ∃ d, ds[i]? = some d ∧ Dp K F y (f d)) → DpAll K F ys (ds.map f)
  | [], [], _, _ => .nil
  | [], _ :: _, h, _ => by simp at h
  | _ :: _, [], h, _ => by simp at h
  | y :: ys, d :: ds, h, hi => by
    obtain ⟨d', e, p⟩ := hi 0 y rfl
    have e' : d = d' := by simpa using e
    subst e'
    exact .cons p (dpall_of (by simpa using h) fun i z q => by
      have := hi (i + 1) z (by simpa using q)
      simpa using this)
/-! ### _law_lists -/
theorem scLists : FnScope ["_law_what", "_law_part"] ["_law_what"] (defScope sLists) := ⟨rfl, rfl, rfl, by decide +kernel, rfl, by decide +kernel, by decide +kernel⟩
def spLists (K : PySem.W.Frag) (n : Nat) : Sp := fun vs H Q _ => ∃ (v : V) (d : PyData), vs = [v] ∧ Dp K H v d ∧ okD n d ∧ ∀ (v' : V) (H' : Hp), Same H H' → Dp K H' v' (lstD d) → Q v' H'
theorem ok_lists {f : Addr} {fd : FuncData} (F : Fun K "_law_lists" "_law_lists" sLists f fd) (b : Binds K fd ["_law_what"] []) (gF : mg "_law_lists" = some (.ref f)) (mi : mg "isinstance" = none) (ml : mg "list" = none) (mt : mg "tuple" = none) :
    ∀ n : Nat, FnOk P w K mg base CX0 n f fd ["_law_what"] (spLists K n)
  | 0 => no_fn fun vs H Q E ⟨v, d, _, _, h, _⟩ => h
  | n + 1 => by
    have G := ok_lists F b gF mi ml mt n
    refine F.ok scLists (fun vs H Q E h => ?_) (fun cdv A outer s H vs Q E hr h => ?_)
    · obtain ⟨v, d, rfl, _⟩ := h
      rfl
    obtain ⟨v, d, rfl, hd, ok, q⟩ := h
    refine ⟨_, pss_one (ps_ret (pe_ifExp (pt_val (pe_callB call_isiT rfl mi boot_isinstance (pa_cons (pv 0) (pa_cons (pe_tup (pa_cons (pe_bltn (v := .ty "list") rfl ml boot_list rfl) (pa_cons (pe_bltn (v := .ty "tuple") rfl mt boot_tuple rfl) pa_nil))) pa_nil))))
        (pe_lc (own := [("_law_part", 1)]) (g := gName 1) (tt := tYes) rfl scLists.nd (pi_seq (pv 0)) (blkOk_by (own := [("_law_part", 1)]) (N := ["_law_what", "_law_part"]) (sc := defScope sLists) (by decide +kernel))
          (fun _ _ _ _ _ => pg_name (i := 1) scLists.nd rfl (Or.inl rfl)) (fun _ _ _ _ _ => pts_nil) (fun _ _ _ _ _ => pe_hide (pe_call G hr rfl gF F.kp b .nil pass0 (pa_cons (pv 1) pa_nil)))) (pv 0))), ?_⟩
    refine ⟨_, rfl, (by show 2 ≤ sizeLine; decide), fun tp np => ?_⟩
    have s1 : Same H (upd H tp (.tup [.ty "list", .ty "tuple"])) := same_new np
    refine ⟨v, tp, _, tyD d, _, isSeq d, rfl, upd_same, .cons (.ty _) (.cons (.ty _) .nil), tyx_of (Dp.same s1 d hd), seq_kit d (Dp.nodict hd), isSeq d, rfl, ?_⟩
    cases hsq : isSeq d with
    | false =>
      refine iteF ⟨_, rfl, ?_⟩
      have e : lstD d = d := by cases d <;> first | rfl | (simp [isSeq] at hsq)
      exact q _ _ s1 (by rw [e]; exact Dp.same s1 d hd)
    | true =>
      obtain ⟨a, xs, ds, rfl, hs, hall, het, hok, hlen⟩ : ∃ a xs ds, v = .ref a ∧ Sq2 K H a xs ∧ DpAll K H xs ds ∧ lstD d = .list (ds.map lstD) ∧ (∀ e ∈ ds, okD n e) ∧ ds.length ≤ 1000 := by
        cases hd with
        | lst h1 h2 => exact ⟨_, _, _, rfl, .inl h1, h2, by rw [lstD, lstDs_eq], ok.2, ok.1⟩
        | tup h1 h2 => exact ⟨_, _, _, rfl, .inr h1, h2, by rw [lstD, lstDs_eq], ok.2, ok.1⟩
        | _ => simp [isSeq] at hsq
      have hxl : xs.length = ds.length := DpAll.length hall
      refine iteT ⟨_, rfl, a, xs, rfl, Same.sq2 s1 hs, fun J wk => lc_map wk Same (fun a b => a.trans b) (fun i y F => ∃ d, ds[i]? = some d ∧ Dp K F y (lstD d)) (fun i y A B s ⟨d, e, p⟩ => ⟨d, e, Dp.same s _ p⟩) (by rw [hxl]; exact small1000 hlen) (Same.refl _) (fun F D acc sF nF => ?_) (fun i x D acc F H' hi nD sF nF hy B hB => ?_) (fun D ys F nD sF nF hl hR => ?_)⟩
      · have sD : Same _ (upd F D (.lst acc)) := sF.trans (same_new nF)
        exact ⟨fun _ z => sD.seq z, fun z => Same.tup sD z⟩
      · obtain ⟨rfl, hx⟩ := hy
        obtain ⟨e, he, hp⟩ := DpAll.get hall hx
        refine hB _ F rfl nF fun Qt hq => ?_
        refine ⟨x, rfl, x, e, rfl, Dp.same (s1.trans sF) e hp, hok e (List.mem_of_getElem? he), fun v' H' s' p' => hq _ _ s' ⟨e, he, p'⟩⟩
      · have sD : Same F (upd F D (.lst ys)) := same_new nF
        refine q _ _ (s1.trans (sF.trans sD)) ?_
        rw [het]
        exact .lst (SqL.of upd_same) (DpAll.same sD _ (dpall_of (by rw [hl, hxl]) hR))
end
end XL
namespace XL
open PySem PySem.Spec PyProof.Rows L2
abbrev sSame : Stmt := topS 9
theorem boot_all : bootBuiltins "all" = some (.builtin "all") := by decide +kernel
theorem boot_bool' : bootBuiltins "bool" = some (.type "bool") := by decide +kernel
theorem boot_str' : bootBuiltins "str" = some (.type "str") := by decide +kernel
theorem boot_int' : bootBuiltins "int" = some (.type "int") := by decide +kernel
section
variable {P : Program} {w : World} {K : PySem.W.Frag} {mg : Str → Option Value} {base : Heap}
def isBS : PyData → Bool
  | .bool _ => true
  | .str _ => true
  | _ => false
def isB : PyData → Bool
  | .bool _ => true
  | _ => false
theorem kitf {a b : String} (h : kitB a b = some false) : PySem.W.kitOne K (.type a) (.type b) = some false := kit_ty h
theorem kitt {a b : String} (h : kitB a b = some true) : PySem.W.kitOne K (.type a) (.type b) = some true := kit_ty h
theorem kit_list (d : PyData) : ∃ b, PySem.W.kitOne K (tyD d) (.type "list") = some b := by cases d <;> first | exact ⟨false, kitf (by decide +kernel)⟩ | exact ⟨true, kitt (by decide +kernel)⟩
theorem kit_tuple (d : PyData) : ∃ b, PySem.W.kitOne K (tyD d) (.type "tuple") = some b := by cases d <;> first | exact ⟨false, kitf (by decide +kernel)⟩ | exact ⟨true, kitt (by decide +kernel)⟩
theorem kit_bool (d : PyData) : PySem.W.kitOne K (tyD d) (.type "bool") = some (isB d) := by cases d <;> first | exact kitf (by decide +kernel) | exact kitt (by decide +kernel)
theorem kit_int (i : Int) : PySem.W.kitOne K (tyD (.int i)) (.type "int") = some true := kitt (by decide +kernel)
theorem bs_kit (d : PyData) : PySem.W.kitAny K (tyD d) [.type "bool", .type "str"] = some (isBS d) := by
  cases d with
  | none => exact kit2 (a := false) (b := false) (by decide +kernel) (by decide +kernel)
  | bool b => exact kit2 (a := true) (b := false) (by decide +kernel) (by decide +kernel)
  | int i => exact kit2 (a := false) (b := false) (by decide +kernel) (by decide +kernel)
  | str x => exact kit2 (a := false) (b := true) (by decide +kernel) (by decide +kernel)
  | list ds => exact kit2 (a := false) (b := false) (by decide +kernel) (by decide +kernel)
  | tuple ds => exact kit2 (a := false) (b := false) (by decide +kernel) (by decide +kernel)
  | dict kvs => exact kit2 (a := false) (b := false) (by decide +kernel) (by decide +kernel)
theorem all_true : ∀ n : Nat, (List.replicate n true).all id = true
  | 0 => rfl
  | n + 1 => by rw [List.replicate_succ, List.all_cons, all_true n]; rfl
theorem eq_true_map : ∀ (ys : List V), (∀ (i : Nat) y, ys[i]? = some y → y = .bl true) → ys = (List.replicate ys.length true).map V.bl
  | [], _ => rfl
  | y :: ys, h => by
    have h0 := h 0 y rfl
    have r := eq_true_map ys fun i z e => h (i + 1) z (by simpa using e)
    rw [List.length_cons, List.replicate_succ, List.map_cons, ← r, h0]
theorem scSame : FnScope ["_law_found", "_law_due", "_law_both", "_law_mine", "_law_yours"] ["_law_found", "_law_due"] (defScope sSame) := ⟨rfl, rfl, rfl, by decide +kernel, rfl, by decide +kernel, by decide +kernel⟩
def spSame (K : PySem.W.Frag) (n : Nat) : Sp := fun vs H Q _ => ∃ (v u : V) (d : PyData), vs = [v, u] ∧ Dp K H v d ∧ Dp K H u d ∧ okD n d ∧ ∀ H' : Hp, Same H H' → Q (.bl true) H'
theorem ok_same {f : Addr} {fd : FuncData} (F : Fun K "_law_same" "_law_same" sSame f fd) (b : Binds K fd ["_law_found", "_law_due"] []) (gF : mg "_law_same" = some (.ref f)) (mi : mg "isinstance" = none) (ml : mg "list" = none) (mt : mg "tuple" = none)
    (mz : mg "zip" = none) (me : mg "len" = none) (ma : mg "all" = none) (mb : mg "bool" = none) (ms : mg "str" = none) (mn : mg "int" = none) :
    ∀ n : Nat, FnOk P w K mg base CX0 n f fd ["_law_found", "_law_due"] (spSame K n)
  | 0 => no_fn fun vs H Q E ⟨v, u, d, _, _, _, h, _⟩ => h
  | n + 1 => by
    have G := ok_same F b gF mi ml mt mz me ma mb ms mn n
    refine F.ok scSame (fun vs H Q E h => ?_) (fun cdv A outer s H vs Q E hr h => ?_)
    · obtain ⟨v, u, d, rfl, _⟩ := h
      rfl
    obtain ⟨v, u, d, rfl, hv, hu, ok, q⟩ := h
    refine ⟨_, pss_cons (ps_if (pt_val (pe_callB call_isiT rfl mi boot_isinstance (pa_cons (pv 1) (pa_cons (pe_tup (pa_cons (pe_bltn (v := .ty "list") rfl ml boot_list rfl) (pa_cons (pe_bltn (v := .ty "tuple") rfl mt boot_tuple rfl) pa_nil))) pa_nil))))
        (pss_cons (ps_if (PW.pt (pw_or (pt_cmpR op_ne (pe_callB call_isi rfl mi boot_isinstance (pa_cons (pv 0) (pa_cons (pe_bltn (v := .ty "list") rfl ml boot_list rfl) pa_nil))) (pe_callB call_isi rfl mi boot_isinstance (pa_cons (pv 1) (pa_cons (pe_bltn (v := .ty "list") rfl ml boot_list rfl) pa_nil))) (nomark _))
              (pw_or1 (pt_cmpR op_ne (pe_callB call_isi rfl mi boot_isinstance (pa_cons (pv 0) (pa_cons (pe_bltn (v := .ty "tuple") rfl mt boot_tuple rfl) pa_nil))) (pe_callB call_isi rfl mi boot_isinstance (pa_cons (pv 1) (pa_cons (pe_bltn (v := .ty "tuple") rfl mt boot_tuple rfl) pa_nil))) (nomark _)))))
            (pss_one (ps_ret pe_bl)) pss_nil)
        (pss_cons (ps_set (i := 2) scSame.nd rfl (.inl rfl) (pe_listZip rfl rfl ml rfl mz (pa_cons (pv 0) (pa_cons (pv 1) pa_nil))))
        (pss_one (ps_ret (pe_and (pe_cmpR op_eq (pe_callB call_len_seq rfl me PySem.boot_len (pa_cons (pv 0) pa_nil)) (pe_callB call_len_seq rfl me PySem.boot_len (pa_cons (pv 1) pa_nil)) (nomark _))
          (pe_one (pe_callB (cr_all rfl) rfl ma boot_all (pa_cons (pe_lc (own := [("_law_mine", 3), ("_law_yours", 4)]) (g := gAny K 2 (gCons (gName 3) (gCons (gName 4) gNil))) (tt := tYes) rfl scSame.nd (pi_seq (pv 2))
            (blkOk_by (own := [("_law_mine", 3), ("_law_yours", 4)]) (N := ["_law_found", "_law_due", "_law_both", "_law_mine", "_law_yours"]) (sc := defScope sSame) (by decide +kernel))
            (fun _ _ _ _ _ => pg_any rfl (pgs_cons (pg_name (i := 3) scSame.nd rfl (Or.inl rfl)) (pgs_cons (pg_name (i := 4) scSame.nd rfl (Or.inl rfl)) pgs_nil))) (fun _ _ _ _ _ => pts_nil)
            (fun _ _ _ _ _ => pe_hide (pe_call G hr rfl gF F.kp b .nil pass0 (pa_cons (pv 3) (pa_cons (pv 4) pa_nil))))) pa_nil)))))))) pss_nil)
      (pss_cons (ps_if (PW.pt (pw_or (pt_cmpR op_isN (pv 1) pe_non (nomark _)) (pw_or1 (pt_val (pe_callB call_isiT rfl mi boot_isinstance (pa_cons (pv 1) (pa_cons (pe_tup (pa_cons (pe_bltn (v := .ty "bool") rfl mb boot_bool' rfl) (pa_cons (pe_bltn (v := .ty "str") rfl ms boot_str' rfl) pa_nil))) pa_nil)))))))
          (pss_one (ps_ret (pe_and (pe_cmpR op_eq (pe_callB call_isi rfl mi boot_isinstance (pa_cons (pv 0) (pa_cons (pe_bltn (v := .ty "bool") rfl mb boot_bool' rfl) pa_nil))) (pe_callB call_isi rfl mi boot_isinstance (pa_cons (pv 1) (pa_cons (pe_bltn (v := .ty "bool") rfl mb boot_bool' rfl) pa_nil))) (nomark _))
            (pe_and (pe_cmpR op_eq (pe_cmpR op_isN (pv 0) pe_non (nomark _)) (pe_cmpR op_isN (pv 1) pe_non (nomark _)) (nomark _)) (pe_one (pe_cmpR op_eq (pv 0) (pv 1) (nomark _))))))) pss_nil)
      (pss_one (ps_ret (pe_and (pe_callB call_isi rfl mi boot_isinstance (pa_cons (pv 0) (pa_cons (pe_bltn (v := .ty "int") rfl mn boot_int' rfl) pa_nil)))
        (pe_and (pe_not (pe_callB call_isi rfl mi boot_isinstance (pa_cons (pv 0) (pa_cons (pe_bltn (v := .ty "bool") rfl mb boot_bool' rfl) pa_nil)))) (pe_one (pe_cmpR op_eq (pv 0) (pv 1) (nomark _)))))))), ?_⟩
    refine ⟨_, rfl, (by show 2 ≤ sizeLine; decide), fun tp np => ?_⟩
    have s1 : Same H (upd H tp (.tup [.ty "list", .ty "tuple"])) := same_new np
    have hv1 := Dp.same s1 d hv
    have hu1 := Dp.same s1 d hu
    refine ⟨u, tp, _, tyD d, _, isSeq d, rfl, upd_same, .cons (.ty _) (.cons (.ty _) .nil), tyx_of hu1, seq_kit d (Dp.nodict hu), isSeq d, rfl, ?_⟩
    obtain ⟨kl, ekl⟩ := kit_list (K := K) d
    obtain ⟨kt, ekt⟩ := kit_tuple (K := K) d
    cases hsq : isSeq d with
    | true =>
      refine iteT ?_
      obtain ⟨a, xs, rfl, hs, hall⟩ := seq_of hv hsq
      obtain ⟨a2, xs2, rfl, hs2, hall2⟩ := seq_of hu hsq
      obtain ⟨hok, hlen⟩ := okD_items ok hsq
      have hx1 : xs.length = (itemsD d).length := DpAll.length hall
      have hx2 : xs2.length = (itemsD d).length := DpAll.length hall2
      -- the kinds are alike
      refine ⟨_, rfl, _, _, _, _, kl, rfl, .ty _, tyx_of hv1, ekl, _, rfl, _, _, _, _, kl, rfl, .ty _, tyx_of hu1, ekl, rfl, _, rfl, iteNS rfl ?_⟩
      refine ⟨_, rfl, _, _, _, _, kt, rfl, .ty _, tyx_of hv1, ekt, _, rfl, _, _, _, _, kt, rfl, .ty _, tyx_of hu1, ekt, rfl, _, rfl, iteNS rfl ?_⟩
      -- the pairs
      refine ⟨_, rfl, _, rfl, a, a2, xs, xs2, rfl, Same.sq2 s1 hs, Same.sq2 s1 hs2, fun L Ts H2 s2 nL eL hTl hT => ?_⟩
      have s12 := s1.trans s2
      refine ⟨_, rfl, a, xs, rfl, Same.sq2 s12 hs, _, rfl, a2, xs2, rfl, Same.sq2 s12 hs2, rfl, _, rfl, ?_⟩
      rw [decide_eq_true (show V.int ((xs.length : Nat) : Int) = V.int ((xs2.length : Nat) : Int) by rw [hx1, hx2])]
      have hn : (Ts.map V.ref).length = (itemsD d).length := by rw [List.length_map, hTl, hx1, hx2, Nat.min_self]
      refine iteT ⟨_, rfl, L, Ts.map V.ref, rfl, .inl (SqL.of eL), fun J wk => lc_map wk Same (fun a b => a.trans b) (fun i y F => y = .bl true) (fun i y A B s p => p) (by rw [hn]; exact small1000 hlen) (Same.refl _) (fun F D acc sF nF => ?_) (fun i x D acc F H' hi nD sF nF hy B hB => ?_) (fun D ys F nD sF nF hl hR => ?_)⟩
      · have sD : Same _ (upd F D (.lst acc)) := sF.trans (same_new nF)
        exact ⟨fun _ z => sD.seq z, fun z => Same.tup sD z⟩
      · obtain ⟨rfl, hx⟩ := hy
        have hx' : ∃ T, Ts[i]? = some T ∧ x = .ref T := by
          rw [List.getElem?_map] at hx
          cases e : Ts[i]? with
          | none => rw [e] at hx; cases hx
          | some T => rw [e] at hx; exact ⟨T, rfl, (Option.some.inj hx).symm⟩
        obtain ⟨T, hTi, rfl⟩ := hx'
        obtain ⟨x1, y1, e1, e2, eT⟩ := hT i T hTi
        obtain ⟨d1, ed1, p1⟩ := DpAll.get hall e1
        obtain ⟨d2, ed2, p2⟩ := DpAll.get hall2 e2
        rw [ed1] at ed2
        cases ed2
        refine ⟨T, [x1, y1], rfl, .inr (.inl (.inl (same_new nF _ _ (sF _ _ eT)))), rfl, x1, [y1], rfl, y1, [], rfl, rfl, ?_⟩
        refine hB _ F rfl nF fun Qt hq => ?_
        exact ⟨x1, rfl, y1, rfl, x1, y1, d1, rfl, Dp.same (s12.trans sF) _ p1, Dp.same (s12.trans sF) _ p2, hok _ (List.mem_of_getElem? ed1), fun H' s' => hq _ _ s' rfl⟩
      · refine ⟨D, List.replicate ys.length true, rfl, ?_, ?_⟩
        · rw [← eq_true_map ys hR]; exact SqL.of upd_same
        · rw [all_true]
          exact q _ (s12.trans (sF.trans (same_new nF)))
    | false =>
      refine iteF ?_
      have fin : ∀ H', Same H H' → Q (.bl true) H' := q
      cases d with
      | list ds => simp [isSeq] at hsq
      | tuple ds => simp [isSeq] at hsq
      | dict kvs => cases hv
      | none =>
        cases hv; cases hu
        refine ⟨_, rfl, rfl, _, rfl, iteT (iteT ?_)⟩
        refine ⟨_, rfl, _, _, _, _, _, rfl, .ty _, tyx_of hv1, kit_bool .none, _, rfl, _, _, _, _, _, rfl, .ty _, tyx_of hu1, kit_bool .none, rfl, _, rfl, iteT ?_⟩
        refine ⟨_, rfl, rfl, _, rfl, rfl, rfl, _, rfl, iteT ?_⟩
        refine ⟨_, rfl, _, rfl, rfl, ?_⟩
        exact fin _ s1
      | bool b0 =>
        cases hv; cases hu
        refine ⟨_, rfl, rfl, _, rfl, iteF ?_⟩
        refine ⟨_, rfl, (by show 2 ≤ sizeLine; decide), fun tq nq => ?_⟩
        have s2 : Same H (upd (upd H tp (.tup [.ty "list", .ty "tuple"])) tq (.tup [.ty "bool", .ty "str"])) := s1.trans (same_new nq)
        refine ⟨_, tq, _, _, _, _, rfl, upd_same, .cons (.ty _) (.cons (.ty _) .nil), tyx_of (Dp.bl b0), bs_kit (.bool b0), _, rfl, iteT ?_⟩
        refine ⟨_, rfl, _, _, _, _, _, rfl, .ty _, tyx_of (Dp.bl b0), kit_bool (.bool b0), _, rfl, _, _, _, _, _, rfl, .ty _, tyx_of (Dp.bl b0), kit_bool (.bool b0), rfl, _, rfl, iteT ?_⟩
        refine ⟨_, rfl, rfl, _, rfl, rfl, rfl, _, rfl, iteT ?_⟩
        refine ⟨_, rfl, _, rfl, rfl, ?_⟩
        have e : decide (V.bl b0 = V.bl b0) = true := decide_eq_true rfl
        have e2 := fin _ s2
        rw [← e] at e2
        exact e2
      | str x0 =>
        cases hv; cases hu
        refine ⟨_, rfl, rfl, _, rfl, iteF ?_⟩
        refine ⟨_, rfl, (by show 2 ≤ sizeLine; decide), fun tq nq => ?_⟩
        have s2 : Same H (upd (upd H tp (.tup [.ty "list", .ty "tuple"])) tq (.tup [.ty "bool", .ty "str"])) := s1.trans (same_new nq)
        refine ⟨_, tq, _, _, _, _, rfl, upd_same, .cons (.ty _) (.cons (.ty _) .nil), tyx_of (Dp.str x0), bs_kit (.str x0), _, rfl, iteT ?_⟩
        refine ⟨_, rfl, _, _, _, _, _, rfl, .ty _, tyx_of (Dp.str x0), kit_bool (.str x0), _, rfl, _, _, _, _, _, rfl, .ty _, tyx_of (Dp.str x0), kit_bool (.str x0), rfl, _, rfl, iteT ?_⟩
        refine ⟨_, rfl, rfl, _, rfl, rfl, rfl, _, rfl, iteT ?_⟩
        refine ⟨_, rfl, _, rfl, rfl, ?_⟩
        have e : decide (V.str x0 = V.str x0) = true := decide_eq_true rfl
        have e2 := fin _ s2
        rw [← e] at e2
        exact e2
      | int i0 =>
        cases hv; cases hu
        refine ⟨_, rfl, rfl, _, rfl, iteF ?_⟩
        refine ⟨_, rfl, (by show 2 ≤ sizeLine; decide), fun tq nq => ?_⟩
        have s2 : Same H (upd (upd H tp (.tup [.ty "list", .ty "tuple"])) tq (.tup [.ty "bool", .ty "str"])) := s1.trans (same_new nq)
        refine ⟨_, tq, _, _, _, _, rfl, upd_same, .cons (.ty _) (.cons (.ty _) .nil), tyx_of (Dp.int i0), bs_kit (.int i0), _, rfl, iteF ?_⟩
        refine ⟨_, rfl, _, _, _, _, _, rfl, .ty _, tyx_of (Dp.int i0), kit_int i0, _, rfl, iteT ?_⟩
        refine ⟨_, rfl, _, _, _, _, _, rfl, .ty _, tyx_of (Dp.int i0), kit_bool (.int i0), _, rfl, _, rfl, iteT ?_⟩
        refine ⟨_, rfl, _, rfl, rfl, ?_⟩
        have e : decide (V.int i0 = V.int i0) = true := decide_eq_true rfl
        have e2 := fin _ s2
        rw [← e] at e2
        exact e2
end
end XL
namespace XL
open PySem PySem.Spec PyProof.Rows L2
abbrev sCells : Stmt := topS 11
abbrev sBox : Stmt := topS 12
theorem boot_enumerate' : bootBuiltins "enumerate" = some (.type "enumerate") := by decide +kernel
theorem boot_abs' : bootBuiltins "abs" = some (.builtin "abs") := by decide +kernel
section
variable {P : Program} {w : World} {K : PySem.W.Frag} {mg : Str → Option Value} {base : Heap}
theorem cut_ints (ns : List Int) (lo hi : Option Int) : cutV (ns.map V.int) lo hi = ((ns.drop (HT.sIx ns.length 0 lo)).take (HT.sIx ns.length ns.length hi - HT.sIx ns.length 0 lo)).map V.int := by
  unfold cutV
  rw [List.length_map, List.map_take, List.map_drop]
theorem set_ints : ∀ (zs : List Int) (j : Nat) (v : Int), (zs.map V.int).set j (.int v) = (zs.set j v).map V.int
  | [], _, _ => rfl
  | z :: zs, 0, v => rfl
  | z :: zs, j + 1, v => by
    show .int z :: (zs.map V.int).set j (.int v) = .int z :: (zs.set j v).map V.int
    rw [set_ints zs j v]
/-! ### _law_cells -/
theorem scCells : FnScope ["_law_script", "_law_utmost", "_law_cells_here", "_law_k", "_law_cell"] ["_law_script", "_law_utmost"] (defScope sCells) := ⟨rfl, rfl, rfl, by decide +kernel, rfl, by decide +kernel, by decide +kernel⟩
def spCells (K : PySem.W.Frag) : Sp := fun vs H Q _ => ∃ (a : Addr) (ns : List Int) (m : Nat), vs = [.ref a, .int m] ∧ SqL K H a (ns.map V.int) ∧ ns.length ≤ 63 ∧ 1 ≤ m ∧ m ≤ 5 ∧
  ∀ (p : Addr) (zs : List Int) (H' : Hp), Same H H' → H p = none → H' p = some (.lst (zs.map V.int)) → 1 ≤ zs.length → zs.length ≤ m → Q (.ref p) H'
theorem ok_cells {f : Addr} {fd : FuncData} {k : Nat} (F : Fun K "_law_cells" "_law_cells" sCells f fd) (ml : mg "list" = none) (me : mg "enumerate" = none) : FnOk P w K mg base CX0 (k + 1) f fd ["_law_script", "_law_utmost"] (spCells K) := by
  refine F.ok scCells (fun vs H Q E h => ?_) (fun cdv A outer s H vs Q E hr h => ?_)
  · obtain ⟨a, ns, m, rfl, _⟩ := h
    rfl
  obtain ⟨a, ns, m, rfl, ha, hn, m1, m2, q⟩ := h
  have tail : ∃ t, PSs (cxOf CX0 P w K mg base ["_law_script", "_law_utmost", "_law_cells_here", "_law_k", "_law_cell"] "_law_cells" (defScope sCells) f cdv A outer s H E).nox ((defBody sCells).drop 1) t ∧
      ∀ (c : Addr) (zs : List Int) (H2 : Hp), Same H H2 → H c = none → H2 c = some (.lst (zs.map V.int)) → 1 ≤ zs.length → zs.length ≤ m → (m < ns.length → zs.length = m) →
        t { nx := fun _ H' => Q .non H', rt := Q } [some (.ref a), some (.int m), some (.ref c), none, none] H2 := by
    refine ⟨_, pss_cons (ps_for PassesOwn.never rfl (pi_enum (by rfl) me (pa_cons (pe_slice sl_list (pv 0) (po_some (pv 1)) (po_some pe_int)) pa_nil)) (pg_tup rfl (pgs_cons (pg_name (i := 3) scCells.nd rfl (.inl rfl)) (pgs_cons (pg_name (i := 4) scCells.nd rfl (.inl rfl)) pgs_nil)))
        (pss_one (ps_asg (pe_op op_add (pe_ix ix_list (pv 2) (pe_op op_modN (pv 3) (pv 1)) (fun _ _ => rfl)) (pe_op op_mul (pv 4) (pe_op op_add (pv 3) pe_int))) (pg_sub (pv 2) (pe_op op_modN (pv 3) (pv 1)) set_list))))
      (pss_one (ps_ret (pv 2))), fun c zs H2 s2 nc ec z1 z2 z3 => ?_⟩
    refine ⟨_, rfl, _, rfl, (m : Int), rfl, 63, rfl, a, _, rfl, s2.seq ha, fun p np => ?_⟩
    rw [cut_ints]
    generalize hes : ((ns.drop (HT.sIx ns.length 0 (some (m : Int)))).take (HT.sIx ns.length ns.length (some 63) - HT.sIx ns.length 0 (some (m : Int)))) = es
    have hel : 0 < es.length → m < ns.length := fun h => by
      rw [← hes, List.length_take, List.length_drop, HT.sIx_nat] at h
      omega
    have hel2 : es.length ≤ 63 := by
      rw [← hes, List.length_take, List.length_drop]
      omega
    have s3 : Same H (upd H2 p (.lst (es.map V.int))) := s2.trans (same_new np)
    have cp : c ≠ p := ne_of_none ec np
    refine ⟨p, es.map V.int, rfl, SqL.of upd_same, for_it (walk_enum (xs := es.map V.int)) (fun i σ H3 => ∃ (ws : List Int) (y3 y4 : Option V), σ = [some (.ref a), some (.int m), some (.ref c), y3, y4] ∧ Same H H3 ∧ H3 p = some (.lst (es.map V.int)) ∧ H3 c = some (.lst (ws.map V.int)) ∧ ws.length = zs.length)
      ⟨zs, none, none, rfl, s3, upd_same, by rw [upd_ne cp]; exact ec, rfl⟩ (fun i σ H3 _ h => ?_) (fun i x σ H3 H4 hi h hy => ?_) (fun σ H3 h => ?_)⟩
    · obtain ⟨_, _, _, _, _, e, _⟩ := h
      exact SqL.of e
    · obtain ⟨ws, y3, y4, rfl, sm, ep, ew, wl⟩ := h
      obtain ⟨T, x1, x2, rfl, nT, rfl, e1, e2⟩ := hy
      have hi' : i < es.length := by rw [List.length_map] at hi; exact hi
      have e1' : x1 = .int (i : Nat) := (Option.some.inj e1).symm
      have e2' : x2 = .int es[i] := by
        have e3 : (es.map V.int)[i]? = some x2 := e2
        rw [List.getElem?_map, List.getElem?_eq_getElem hi'] at e3
        exact (Option.some.inj e3).symm
      subst e1' e2'
      have sT : Same H3 (upd H3 T (.tup [.int (i : Nat), .int es[i]])) := same_new nT
      have wm : ws.length = m := by rw [wl]; exact z3 (hel (by omega))
      have fm := fmod_lt (a := (i : Int)) (n := (m : Int)) (by omega)
      have hj : ((i : Int).fmod (m : Int)).toNat < ws.length := by omega
      refine ⟨T, _, rfl, .inl (.inl upd_same), rfl, _, _, rfl, _, _, rfl, rfl, ?_⟩
      have ewT := sT _ _ ew
      have aw : atI (ws.map V.int) ((i : Int).fmod (m : Int)) = some (.int ws[((i : Int).fmod (m : Int)).toNat]) := atI_int fm.1 (by rw [List.getElem?_map, List.getElem?_eq_getElem hj]; rfl)
      refine ⟨_, rfl, _, rfl, _, rfl, _, _, rfl, rfl, by omega, c, _, _, _, rfl, rfl, SqL.of ewT, aw, _, rfl, _, rfl, _, _, rfl, rfl, _, _, rfl, rfl, .inr ⟨by omega, by omega⟩, _, _, rfl, rfl, ?_⟩
      refine ⟨_, rfl, _, rfl, _, rfl, _, _, rfl, rfl, by omega, c, _, _, ((i : Int).fmod (m : Int)).toNat, rfl, rfl, ewT, ?_, ?_⟩
      · unfold ixN
        rw [if_pos fm.1, if_pos (by rw [List.length_map]; omega)]
      · refine ⟨_, _, _, rfl, fun b o e => ?_, ?_, by rw [set_ints, upd_same], by rw [List.length_set]; exact wl⟩
        · rw [upd_ne (ne_of_none e nc)]; exact sT _ _ (sm _ _ e)
        · rw [upd_ne cp.symm]; exact sT _ _ ep
    · obtain ⟨ws, y3, y4, rfl, sm, ep, ew, wl⟩ := h
      exact ⟨_, rfl, q c ws H3 sm nc ew (by omega) (by omega)⟩
  obtain ⟨t, ht, hgo⟩ := tail
  refine ⟨_, pss_cons (ps_set (i := 2) scCells.nd rfl (.inl rfl) (pe_orT (pe_callTy call_list_of rfl ml boot_list (pa_cons (pe_slice sl_list (pv 0) po_none (po_some (pv 1))) pa_nil)) (pe_one (pe_lst (pa_cons pe_int pa_nil))))) ht, ?_⟩
  -- list(script[:utmost])
  refine ⟨_, rfl, _, rfl, (m : Int), rfl, a, _, rfl, ha, fun p np => ?_⟩
  have s1 : Same H (upd H p (.lst (cutV (ns.map V.int) none (some (m : Int))))) := same_new np
  refine ⟨p, _, rfl, .inl (SqL.of upd_same), fun c nc => ?_⟩
  have e0 : cutV (ns.map V.int) none (some (m : Int)) = (ns.take m).map V.int := by
    rw [cut_ints, HT.sIx_none, HT.sIx_nat, List.drop_zero, Nat.sub_zero]
    congr 1
    rcases Nat.le_total m ns.length with h | h
    · rw [Nat.min_eq_left h]
    · rw [Nat.min_eq_right h, List.take_of_length_le (Nat.le_refl _), List.take_of_length_le h]
  rw [e0] at nc s1 ⊢
  have s2 := s1.trans (same_new nc (o := .lst ((ns.take m).map V.int)))
  refine ⟨!((ns.take m).map V.int).isEmpty, .inl ⟨_, SqL.of upd_same, rfl⟩, ?_⟩
  cases hns : ns with
  | nil =>
    have em : ((([] : List Int).take m).map V.int) = [] := by rw [List.take_nil]; rfl
    rw [em]
    refine iteF ⟨(by show 1 ≤ sizeLine; decide), fun c2 nc2 => ?_⟩
    subst hns
    rw [em] at s2
    exact hgo c2 [0] _ (s2.trans (same_new nc2)) (s2.free nc2) upd_same (Nat.le_refl _) m1 (fun h => by simp at h)
  | cons n0 r =>
    obtain ⟨m', rfl⟩ : ∃ m', m = m' + 1 := ⟨m - 1, by omega⟩
    rw [← hns]
    have e1 : (ns.take (m' + 1)).map V.int ≠ [] := by rw [hns]; simp
    have e2 : (!((ns.take (m' + 1)).map V.int).isEmpty) = true := by
      cases h : (ns.take (m' + 1)).map V.int with
      | nil => exact absurd h e1
      | cons _ _ => rfl
    rw [e2]
    have hl : (ns.take (m' + 1)).length = min (m' + 1) ns.length := List.length_take
    have hn1 : 1 ≤ ns.length := by rw [hns]; simp
    exact iteT (hgo c (ns.take (m' + 1)) _ s2 (s1.free nc) upd_same (by omega) (by omega) (fun h => by omega))
/-! ### _law_box -/
theorem b01 (b : Bool) : -2 ^ 64 < (if b = true then (1 : Int) else 0) ∧ (if b = true then (1 : Int) else 0) < 2 ^ 64 := by cases b <;> decide
theorem scBox : FnScope ["_law_cells_here", "_law_k", "_law_cell"] ["_law_cells_here", "_law_k"] (defScope sBox) := ⟨rfl, rfl, rfl, by decide +kernel, rfl, by decide +kernel, by decide +kernel⟩
def spBox (K : PySem.W.Frag) : Sp := fun vs H Q _ => ∃ (a : Addr) (zs : List Int) (k : Nat), vs = [.ref a, .int k] ∧ SqL K H a (zs.map V.int) ∧ k < zs.length ∧
  ∀ (b : Addr) (x y : Int), H b = none → Q (.ref b) (upd H b (.lst [.int x, .int y, .int 0]))
theorem ok_box {f : Addr} {fd : FuncData} {k : Nat} (F : Fun K "_law_box" "_law_box" sBox f fd) (ma : mg "abs" = none) (mi : mg "int" = none) : FnOk P w K mg base CX0 (k + 1) f fd ["_law_cells_here", "_law_k"] (spBox K) := by
  refine F.ok scBox (fun vs H Q E h => ?_) (fun cdv A outer s H vs Q E hr h => ?_)
  · obtain ⟨a, zs, k, rfl, _⟩ := h
    rfl
  obtain ⟨a, zs, k, rfl, ha, hk, q⟩ := h
  refine ⟨_, pss_cons (ps_set (i := 2) scBox.nd rfl (.inl rfl) (pe_ix ix_list (pv 0) (pv 1) (fun _ _ => rfl)))
    (pss_one (ps_ret (pe_lst (pa_cons (pe_op op_mul (pe_callB call_abs rfl ma boot_abs' (pa_cons (pv 2) pa_nil)) (pe_callTy call_int1 rfl mi boot_int' (pa_cons (pe_cmpR op_ge (pe_callB call_abs rfl ma boot_abs' (pa_cons (pv 2) pa_nil)) (pe_op op_pow pe_int pe_int) (nomark _)) pa_nil)))
      (pa_cons (pe_op op_add (pe_op op_add (pe_op op_modN (pv 2) pe_int) (pe_op op_mul pe_int (pv 1))) pe_int) (pa_cons pe_int pa_nil)))))), ?_⟩
  have hx : atI (zs.map V.int) ((k : Nat) : Int) = some (.int zs[k]) := atI_nat (by rw [List.getElem?_map, List.getElem?_eq_getElem hk]; rfl)
  refine ⟨_, rfl, _, rfl, a, _, _, _, rfl, rfl, ha, hx, ?_⟩
  refine ⟨_, rfl, _, rfl, _, rfl, _, rfl, _, _, rfl, rfl, ⟨by decide, by decide, by decide⟩, _, _, rfl, rfl, .inr ⟨_, rfl, _, _, rfl, rfl, .inr ?_, ?_⟩⟩
  · exact b01 _
  · refine ⟨_, rfl, _, _, rfl, rfl, (by show (2305843009213693951 : Int) ≠ 0; decide), _, rfl, _, _, rfl, rfl, .inl ⟨by decide, by decide⟩, _, _, rfl, rfl, _, _, rfl, rfl, (by show 3 ≤ sizeLine; decide), fun b nb => ?_⟩
    exact q b _ _ nb
end
end XL
namespace XL
open PySem PySem.Spec PyProof.Rows L2
abbrev sCanal : Stmt := topS 8
theorem boot_range' : bootBuiltins "range" = some (.type "range") := by decide +kernel
section
variable {P : Program} {w : World} {K : PySem.W.Frag} {mg : Str → Option Value} {base : Heap}
theorem Dr.tp {b : Addr} {H H' : Hp} (h : Bx H b) (d : Dr b H H') : Tp H H' := by
  obtain ⟨x, y, z, e⟩ := h
  exact ⟨fun a xs q => d.same a _ (fun c => by rw [c, e] at q; cases q) q, fun a o xs q => d.same a _ (fun c => by rw [c, e] at q; cases q) q⟩
theorem Bx.ne {b p : Addr} {H : Hp} (h : Bx H b) (n : H p = none) : p ≠ b := fun e => by
  obtain ⟨x, y, z, q⟩ := h
  rw [e, q] at n; cases n
/-- a step besides the box: a new object, or one of ours written -/
theorem Dr.wr {b p : Addr} {H : Hp} {o : HO} (h : Bx H b) (n : p ≠ b) (hs : H p = none) : Dr b H (upd H p o) := Dr.new h hs
abbrev nCanal : List Str := ["_law_box_here", "_law_wide", "_law_utmost", "_law_sizes", "_law_kind", "_law_gates", "_law_k", "_law_ends", "_law_tide", "_law_size"]
theorem scCanal : FnScope nCanal ["_law_box_here", "_law_wide", "_law_utmost"] (defScope sCanal) := ⟨rfl, rfl, rfl, by decide +kernel, rfl, by decide +kernel, by decide +kernel⟩
def spCanal (K : PySem.W.Frag) : Sp := fun vs H Q _ => ∃ (b : Addr) (wide utmost : Nat), vs = [.ref b, .int wide, .int utmost] ∧ Bx H b ∧ 1 ≤ wide ∧ wide ≤ 100 ∧ utmost ≤ 100 ∧
  ∀ (c : Cn) (v : V) (H' : Hp), okCn wide utmost c → Dr b H H' → Dp K H' v (cnD c) → Q v H'
/-- the four ends of a gate -/
def endsV (l : Lk) : List V := [.int l.1, .int l.2.1, .int l.2.2.1, .int l.2.2.2]
theorem dp_lk {H : Hp} {a : Addr} {l : Lk} (h : SqT K H a (endsV l)) : Dp K H (.ref a) (lkD l) := .tup h (.cons (.int _) (.cons (.int _) (.cons (.int _) (.cons (.int _) .nil))))
/-- between two turns: b the box, z the sizes, g the gates -/
structure Gt (K : PySem.W.Frag) (b z g : Addr) (s0 s1 : Int) (n : Nat) (H0 H : Hp) (vs : List V) (ls : List Lk) : Prop where
  box : Bx H b
  old : ∀ a o, a ≠ b → H0 a = some o → H a = some o
  ez : H z = some (.lst [.int s0, .int s1])
  eg : H g = some (.lst vs)
  dp : DpAll K H vs (ls.map lkD)
  len : ls.length = n
  ok : ∀ l ∈ ls, okLk s0 s1 l
theorem Gt.draw {b z g : Addr} {s0 s1 : Int} {n : Nat} {H0 H H' : Hp} {vs : List V} {ls : List Lk} (q : Gt K b z g s0 s1 n H0 H vs ls) (hz : z ≠ b) (hg : g ≠ b) (d : Dr b H H') : Gt K b z g s0 s1 n H0 H' vs ls :=
  ⟨d.box, fun a o na e => d.same a o na (q.old a o na e), d.same _ _ hz q.ez, d.same _ _ hg q.eg, DpAll.tp (d.tp q.box) _ (noLs_lk ls) q.dp, q.len, q.ok⟩
theorem Gt.new {b z g p : Addr} {s0 s1 : Int} {n : Nat} {H0 H : Hp} {vs : List V} {ls : List Lk} {o : HO} (q : Gt K b z g s0 s1 n H0 H vs ls) (hz : z ≠ b) (hg : g ≠ b) (np : H p = none) : Gt K b z g s0 s1 n H0 (upd H p o) vs ls := q.draw hz hg (Dr.new q.box np)
def fbody : Stmt → List Stmt
  | .For _ _ b _ _ => b
  | _ => []
abbrev slC (b : Addr) (wide utmost : Nat) (z : Addr) (kind : Int) (g : Addr) (y6 y7 y8 y9 : Option V) : L2.St := [some (.ref b), some (.int wide), some (.int utmost), some (.ref z), some (.int kind), some (.ref g), y6, y7, y8, y9]
theorem ok_canal {f ft fo : Addr} {fd fdt fdo : FuncData} {k : Nat} (F : Fun K "_law_canal" "_law_canal" sCanal f fd) (FT : Fun K "_law_take" "_law_take" sTake ft fdt) (bT : Binds K fdt ["_law_box_here", "_law_size"] []) (gT : mg "_law_take" = some (.ref ft))
    (FO : Fun K "_law_of" "_law_of" sOf fo fdo) (bO : Binds K fdo ["_law_box_here", "_law_some"] []) (gO : mg "_law_of" = some (.ref fo)) (me : mg "len" = none) (ml : mg "list" = none) (mt : mg "tuple" = none) (mr : mg "range" = none) :
    FnOk P w K mg base CX0 (k + 1 + 1 + 1) f fd ["_law_box_here", "_law_wide", "_law_utmost"] (spCanal K) := by
  have GT : FnOk P w K mg base CX0 (k + 1) ft fdt ["_law_box_here", "_law_size"] spTake := ok_take FT
  have GO : FnOk P w K mg base CX0 (k + 1 + 1) fo fdo ["_law_box_here", "_law_some"] (spOf K) := ok_of FO FT bT gT me
  refine F.ok scCanal (fun vs H Q E h => ?_) (fun cdv A outer s H vs Q E hr h => ?_)
  · obtain ⟨b, wide, utmost, rfl, _⟩ := h
    rfl
  obtain ⟨b, wide, utmost, rfl, hb, w1, w2, u2, q⟩ := h
  have hr1 : Room (k + 1) _ := hr.mono (Nat.le_succ _)
  -- one turn behind the choice of the ends
  have tail : ∃ t, PSs (cxOf CX0 P w K mg base nCanal "_law_canal" (defScope sCanal) f cdv A outer s H E).nox ((fbody ((defBody sCanal).getD 2 (.Pass ⟨0, 0, 0, 0⟩))).drop 1) t ∧
      ∀ (D : Ends) (z g e : Addr) (kind s0 s1 : Int) (i : Nat) (y6 y8 y9 : Option V) (l : Lk) (vs : List V) (ls : List Lk) (H3 : Hp), z ≠ b → g ≠ b → z ≠ g → e ≠ g → H z = none → H g = none → Gt K b z g s0 s1 i H H3 vs ls → i ≤ 200 → H3 e = some (.lst (endsV l)) → okLk s0 s1 l →
        (∀ vs' H4, Gt K b z g s0 s1 (i + 1) H H4 vs' (ls ++ [l]) → D.nx (slC b wide utmost z kind g y6 (some (.ref e)) y8 y9) H4) → t D (slC b wide utmost z kind g y6 (some (.ref e)) y8 y9) H3 := by
    refine ⟨_, pss_one (ps_expr (pe_bm PySem.F.plainAttrs_list PySem.F.slot_list_append PySem.F.type_list_append mt_append (pv 5) (pa_cons (pe_callTy call_tuple_of rfl mt boot_tuple (pa_cons (pv 7) pa_nil)) pa_nil))), ?_⟩
    intro D z g e kind s0 s1 i y6 y8 y9 l vs ls H3 hzb hgb hzg heg nz ng hG hi he hl hnx
    refine ⟨_, rfl, .inl ⟨rfl, _, SqL.of hG.eg⟩, _, rfl, e, _, rfl, .inl ⟨SqL.of he, fun t nt => ?_⟩⟩
    have G1 := hG.new hzb hgb (o := .tup (endsV l)) nt
    have lv : vs.length = i := by rw [DpAll.length hG.dp, List.length_map, hG.len]
    refine ⟨g, _, _, rfl, rfl, G1.eg, ?_, hnx _ _ ⟨?_, ?_, ?_, upd_same, ?_, ?_, ?_⟩⟩
    · rw [lv]; exact small1000 (by omega)
    · obtain ⟨x, y, w, e⟩ := G1.box
      exact ⟨x, y, w, by rw [upd_ne (fun q => hgb q.symm)]; exact e⟩
    · intro a o na e
      rw [upd_ne (ne_of_none e ng)]; exact G1.old a o na e
    · rw [upd_ne hzg]; exact G1.ez
    · rw [List.map_append]
      have tp : Tp _ (upd (upd H3 t (.tup (endsV l))) g (.lst (vs ++ [.ref t]))) := Tp.upd G1.eg
      exact DpAll.app (DpAll.tp tp _ (noLs_lk ls) G1.dp) (.cons (dp_lk (.inl (.inl (tp.t _ _ upd_same)))) .nil)
    · rw [List.length_append, hG.len]; rfl
    · intro l' h
      rcases List.mem_append.mp h with h | h
      · exact hG.ok l' h
      · rw [List.mem_singleton.mp h]; exact hl
  obtain ⟨t, ht, hgo⟩ := tail
  refine ⟨_, pss_cons (ps_par rfl scCanal.nd (i := 3) (j := 4) rfl rfl (by decide) rfl rfl
      (pa_cons (pe_lc (own := [("_law_tide", 8)]) (g := gName 8) (tt := tYes) rfl scCanal.nd (pi_range1 rfl mr (pa_cons pe_int pa_nil)) (blkOk_by (own := [("_law_tide", 8)]) (N := nCanal) (sc := defScope sCanal) (by decide +kernel))
          (fun _ _ _ _ _ => pg_name (i := 8) scCanal.nd rfl (Or.inl rfl)) (fun _ _ _ _ _ => pts_nil) (fun _ _ _ _ _ => pe_hide (pe_op op_add pe_int (pe_call GT hr1 rfl gT FT.kp bT .nil pass0 (pa_cons (pv 0) (pa_cons (pv 1) pa_nil))))))
        (pa_cons (pe_call GT hr1 rfl gT FT.kp bT .nil pass0 (pa_cons (pv 0) (pa_cons pe_int pa_nil))) pa_nil)) rfl)
    (pss_cons (ps_set (i := 5) scCanal.nd rfl (.inl rfl) (pe_lst pa_nil))
    (pss_cons (ps_for PassesOwn.never rfl (pi_range1 rfl mr (pa_cons (pe_call GT hr1 rfl gT FT.kp bT .nil pass0 (pa_cons (pv 0) (pa_cons (pe_op op_add (pv 2) pe_int) pa_nil))) pa_nil)) (pg_name (i := 6) scCanal.nd rfl (.inl rfl))
      (pss_cons (ps_if (PW.pt (pw_and (pt_cmpR op_eq (pv 4) pe_int (nomark _)) (pw_and1 (pt_cmpR (op_neD hr.units) (pv 5) (pe_lst pa_nil) (nomark _)))))
          (pss_one (ps_set (i := 7) scCanal.nd rfl (.inl rfl) (pe_op op_cat (pe_slice sl_list (pe_callTy call_list_of rfl ml boot_list (pa_cons (pe_ix ix_list (pv 5) (pe_un un_neg pe_int) (fun _ _ => rfl)) pa_nil)) po_none (po_some pe_int))
            (pe_lst (pa_cons (pe_call GT hr1 rfl gT FT.kp bT .nil pass0 (pa_cons (pv 0) (pa_cons (pe_ix ix_list (pv 3) pe_int (fun _ _ => rfl)) pa_nil))) (pa_cons (pe_call GT hr1 rfl gT FT.kp bT .nil pass0 (pa_cons (pv 0) (pa_cons (pe_ix ix_list (pv 3) pe_int (fun _ _ => rfl)) pa_nil))) pa_nil))))))
          (pss_one (ps_if (pt_cmpR op_eq (pv 4) pe_int (nomark _))
            (pss_one (ps_set (i := 7) scCanal.nd rfl (.inl rfl) (pe_lst (pa_cons (pe_op op_modN (pv 6) (pe_ix ix_list (pv 3) pe_int (fun _ _ => rfl))) (pa_cons (pe_op op_modN (pe_op op_add (pv 6) pe_int) (pe_ix ix_list (pv 3) pe_int (fun _ _ => rfl)))
              (pa_cons (pe_call GT hr1 rfl gT FT.kp bT .nil pass0 (pa_cons (pv 0) (pa_cons (pe_ix ix_list (pv 3) pe_int (fun _ _ => rfl)) pa_nil))) (pa_cons (pe_call GT hr1 rfl gT FT.kp bT .nil pass0 (pa_cons (pv 0) (pa_cons (pe_ix ix_list (pv 3) pe_int (fun _ _ => rfl)) pa_nil))) pa_nil)))))))
            (pss_one (ps_if (PW.pt (pw_and (pt_cmpR op_eq (pv 4) pe_int (nomark _)) (pw_and1 (pt_cmpR (op_neD hr.units) (pv 5) (pe_lst pa_nil) (nomark _)))))
              (pss_cons (ps_set (i := 7) scCanal.nd rfl (.inl rfl) (pe_callTy call_list_of rfl ml boot_list (pa_cons (pe_call GO hr rfl gO FO.kp bO .nil pass0 (pa_cons (pv 0) (pa_cons (pv 5) pa_nil))) pa_nil)))
                (pss_one (ps_asg pe_int (pg_sub (pv 7) (pe_call GT hr1 rfl gT FT.kp bT .nil pass0 (pa_cons (pv 0) (pa_cons pe_int pa_nil))) set_list))))
              (pss_one (ps_setLc (i := 7) (own := [("_law_size", 9)]) (g := gName 9) (tt := tYes) rfl scCanal.nd rfl rfl (sw_true rfl rfl rfl (by decide +kernel)) (pi_seq (pe_tup (pa_cons (pe_ix ix_list (pv 3) pe_int (fun _ _ => rfl)) (pa_cons (pe_ix ix_list (pv 3) pe_int (fun _ _ => rfl)) (pa_cons (pe_ix ix_list (pv 3) pe_int (fun _ _ => rfl)) (pa_cons (pe_ix ix_list (pv 3) pe_int (fun _ _ => rfl)) pa_nil))))))
                (blkOk_by (own := [("_law_size", 9)]) (N := nCanal) (sc := defScope sCanal) (by decide +kernel)) (fun _ _ _ _ _ => pg_name (i := 9) scCanal.nd rfl (Or.inl rfl)) (fun _ _ _ _ _ => pts_nil)
                (fun _ _ _ _ _ => pe_hide (pe_call GT hr1 rfl gT FT.kp bT .nil pass0 (pa_cons (pv 0) (pa_cons (pv 9) pa_nil)))))))))))
        ht))
    (pss_one (ps_ret (pe_tup (pa_cons (pe_ix ix_list (pv 3) pe_int (fun _ _ => rfl)) (pa_cons (pe_ix ix_list (pv 3) pe_int (fun _ _ => rfl)) (pa_cons (pe_callTy call_tuple_of rfl mt boot_tuple (pa_cons (pv 5) pa_nil)) pa_nil)))))))), ?_⟩
  refine ⟨2, rfl, by decide, by decide, lc_map walk_range (Dr b) (fun a b => a.trans b) (fun i y F => ∃ x : Int, y = .int x ∧ 1 ≤ x ∧ x ≤ wide) (fun i y A B _ p => p) (by decide) (Dr.refl hb) (fun _ _ _ _ _ => trivial) (fun i x D acc F H' hi nD dF nF hy B hB => ?_) (fun z ys F nz dF nF hl hR => ?_)⟩
  · obtain ⟨rfl, rfl⟩ := hy
    refine hB _ F rfl nF fun Qt hq => ?_
    refine ⟨_, rfl, _, rfl, b, _, rfl, dF.box, by omega, by omega, fun v F' v0 v1 d => ⟨_, _, rfl, rfl, hq _ _ d ⟨_, rfl, by omega, by omega⟩⟩⟩
  have hys : ∃ s0 s1 : Int, ys = [.int s0, .int s1] ∧ 1 ≤ s0 ∧ s0 ≤ wide ∧ 1 ≤ s1 ∧ s1 ≤ wide := by
    match ys, hl with
    | [y0, y1], _ =>
      obtain ⟨s0, rfl, a1, a2⟩ := hR 0 y0 rfl
      obtain ⟨s1, rfl, c1, c2⟩ := hR 1 y1 rfl
      exact ⟨s0, s1, rfl, a1, a2, c1, c2⟩
  obtain ⟨s0, s1, rfl, a1, a2, c1, c2⟩ := hys
  have hzb : z ≠ b := hb.ne nz
  have d1 : Dr b H (upd F z (.lst [.int s0, .int s1])) := dF.trans (Dr.new dF.box nF)
  refine ⟨_, rfl, b, 5, rfl, d1.box, by decide, by decide, fun kind H2 k0 k1 d2 => ?_⟩
  refine ⟨_, _, rfl, ?_⟩
  -- gates = []
  refine ⟨(by show 0 ≤ sizeLine; decide), fun g ng => ?_⟩
  have d12 := d1.trans d2
  have ez2 : H2 z = some (.lst [.int s0, .int s1]) := d2.same z _ hzb upd_same
  have hgb : g ≠ b := d2.box.ne ng
  have hzg : z ≠ g := ne_of_none ez2 ng
  have ngH : H g = none := by
    cases e : H g with
    | none => rfl
    | some o => rw [d12.same g o hgb e] at ng; cases ng
  have d3 : Dr b H (upd H2 g (.lst [])) := d12.trans (Dr.new d2.box ng)
  -- the number of gates
  refine ⟨_, rfl, _, rfl, _, _, rfl, rfl, b, _, rfl, d3.box, by omega, by omega, fun n H3 n0 n1 d4 => ?_⟩
  have d34 := d3.trans d4
  have G0 : Gt K b z g s0 s1 0 H H3 [] [] := ⟨d34.box, fun a o na e => d34.same a o na e, d4.same z _ hzb (by rw [upd_ne hzg]; exact ez2), d4.same g _ hgb upd_same, .nil, rfl, fun l h => by simp at h⟩
  refine ⟨n, rfl, by omega, by omega, for_it walk_range (fun i σ H4 => ∃ y6 y7 y8 y9 vs ls, σ = slC b wide utmost z kind g y6 y7 y8 y9 ∧ Gt K b z g s0 s1 i H H4 vs ls) ⟨none, none, none, none, [], [], rfl, G0⟩ (fun _ _ _ _ _ => trivial) (fun i x σ H4 H5 hi h hy => ?_) (fun σ H4 h => ?_)⟩
  · obtain ⟨y6, y7, y8, y9, vs, ls, rfl, hG⟩ := h
    obtain ⟨rfl, rfl⟩ := hy
    have hi2 : i ≤ 200 := by omega
    -- what is left, by the ends that were chosen
    have fin : ∀ (D : Ends) (e : Addr) (l : Lk) (y8 y9 : Option V) (H6 : Hp) (vs : List V) (ls : List Lk), D.nx = (fun σ H4 => ∃ y6 y7 y8 y9 vs ls, σ = slC b wide utmost z kind g y6 y7 y8 y9 ∧ Gt K b z g s0 s1 (i + 1) H H4 vs ls) →
        Gt K b z g s0 s1 i H H6 vs ls → e ≠ g → H6 e = some (.lst (endsV l)) → okLk s0 s1 l → t D (slC b wide utmost z kind g (some (.int (0 + i))) (some (.ref e)) y8 y9) H6 := by
      intro D e l y8 y9 H6 vs ls hD hG heg he hl
      refine hgo D z g e kind s0 s1 i _ y8 y9 l vs ls H6 hzb hgb hzg heg nz ngH hG hi2 he hl fun vs' H7 hG7 => ?_
      rw [hD]
      exact ⟨_, _, _, _, vs', _, rfl, hG7⟩
    -- two draws by the blues' size
    have draw1 : ∀ (H6 : Hp) (vs : List V) (ls : List Lk) (Q' : V → Hp → Prop), Gt K b z g s0 s1 i H H6 vs ls → (∀ (x : Int) (H7 : Hp), 0 ≤ x → x < s1 → Gt K b z g s0 s1 i H H7 vs ls → Dr b H6 H7 → Q' (.int x) H7) →
        spTake ([.ref b, .int s1] ++ []) H6 Q' E0 := by
      intro H6 vs ls Q' hG h
      exact ⟨b, s1, rfl, hG.box, by omega, by omega, fun v H7 v0 v1 d => h v H7 v0 v1 (hG.draw hzb hgb d) d⟩
    -- kind == 1 and gates != []
    have neq : ∀ (H6 : Hp) (vs : List V) (ls : List Lk) (p : Addr) (Q' : Bool → Hp → Prop), Gt K b z g s0 s1 i H H6 vs ls → H6 p = none → (∀ H7, Gt K b z g s0 s1 i H H7 vs ls → Q' (!ls.isEmpty) H7) →
        rNeD K (.ref g) (.ref p) (upd H6 p (.lst [])) (fun v H7 => ∃ k, v = .bl k ∧ Q' k H7) := by
      intro H6 vs ls p Q' hG np h
      have G7 := hG.new hzb hgb (o := .lst []) np
      refine ⟨.list (ls.map lkD), .list [], .lst (SqL.of G7.eg) G7.dp, .lst (SqL.of upd_same) .nil, lks_shaped ls, nil_shaped, _, rfl, ?_⟩
      rw [eqv_nil]
      exact h _ G7
    have fst : ∀ {xs : List V} {l : Lk} {a : Addr} {H6 : Hp}, Dp K H6 (.ref a) (lkD l) → SqT K H6 a (endsV l) := by
      intro xs l a H6 h
      cases h with
      | tup hs ha =>
        cases ha with
        | cons p1 ha => cases p1; cases ha with
          | cons p2 ha => cases p2; cases ha with
            | cons p3 ha => cases p3; cases ha with
              | cons p4 ha => cases p4; cases ha; exact hs
    have lkref : ∀ {v : V} {l : Lk} {H6 : Hp}, Dp K H6 v (lkD l) → ∃ a, v = .ref a ∧ SqT K H6 a (endsV l) := by
      intro v l H6 h
      have h' := h
      cases h with
      | tup hs ha => exact ⟨_, rfl, fst (xs := []) h'⟩
    refine ⟨_, rfl, rfl, _, rfl, ?_⟩
    by_cases hk1 : kind = 1
    · subst hk1
      refine iteT ⟨_, rfl, (by show 0 ≤ sizeLine; decide), fun p np => neq _ vs ls p _ hG np fun H6 G6 => ?_⟩
      cases ls with
      | nil =>
        refine iteF ⟨_, rfl, rfl, _, rfl, iteF ⟨_, rfl, rfl, _, rfl, iteF ?_⟩⟩
        refine ⟨_, rfl, z, _, _, _, rfl, rfl, SqL.of G6.ez, rfl, _, rfl, z, _, _, _, rfl, rfl, SqL.of G6.ez, rfl, _, rfl, z, _, _, _, rfl, rfl, SqL.of G6.ez, rfl, _, rfl, z, _, _, _, rfl, rfl, SqL.of G6.ez, rfl, (by show 4 ≤ sizeLine; decide), fun p np => ?_⟩
        have G8 := G6.new hzb hgb (o := .tup [.int s0, .int s0, .int s1, .int s1]) np
        have hpb : p ≠ b := G6.box.ne np
        refine ⟨p, [.int s0, .int s0, .int s1, .int s1], rfl, .inr (.inl (.inl upd_same)), fun J wk => lc_map wk (Dr b) (fun a b => a.trans b) (fun j y F => ∃ x : Int, y = .int x ∧ 0 ≤ x ∧ ∀ sz : Int, [s0, s0, s1, s1][j]? = some sz → x < sz) (fun j y A B _ p => p) (by show 4 < sizeLine; decide) (Dr.refl G8.box) (fun F D acc dF nF => ?_) (fun j x D acc F H' hj nD dF nF hy B hB => ?_) (fun D ys F nD dF nF hl hR => ?_)⟩
        · exact ⟨fun _ h => (same_new nF).seq (dF.sqL hpb h), fun h => Same.tup (same_new nF) (dF.sqT hpb h)⟩
        · obtain ⟨rfl, hx⟩ := hy
          have hx' : ∃ sz : Int, x = .int sz ∧ [s0, s0, s1, s1][j]? = some sz ∧ 1 ≤ sz ∧ sz ≤ wide := by
            match j, hj, hx with
            | 0, _, hx => exact ⟨s0, (Option.some.inj hx).symm, rfl, a1, a2⟩
            | 1, _, hx => exact ⟨s0, (Option.some.inj hx).symm, rfl, a1, a2⟩
            | 2, _, hx => exact ⟨s1, (Option.some.inj hx).symm, rfl, c1, c2⟩
            | 3, _, hx => exact ⟨s1, (Option.some.inj hx).symm, rfl, c1, c2⟩
          obtain ⟨sz, rfl, hsz, z1, z2⟩ := hx'
          refine hB _ F rfl nF fun Qt hq => ?_
          exact ⟨_, rfl, _, rfl, b, sz, rfl, dF.box, by omega, by omega, fun v F' v0 v1 d => hq _ _ d ⟨v, rfl, v0, fun sz' e => by rw [hsz] at e; cases e; exact v1⟩⟩
        · have hys : ∃ l : Lk, ys = endsV l ∧ okLk s0 s1 l := by
            match ys, hl with
            | [y0, y1, y2, y3], _ =>
              obtain ⟨x0, rfl, p0, q0⟩ := hR 0 _ rfl
              obtain ⟨x1, rfl, p1, q1⟩ := hR 1 _ rfl
              obtain ⟨x2, rfl, p2, q2⟩ := hR 2 _ rfl
              obtain ⟨x3, rfl, p3, q3⟩ := hR 3 _ rfl
              exact ⟨(x0, x1, x2, x3), rfl, ⟨p0, q0 _ rfl, p1, q1 _ rfl, p2, q2 _ rfl, p3, q3 _ rfl⟩⟩
          obtain ⟨l, rfl, okl⟩ := hys
          have G9 := (G8.draw hzb hgb dF).new hzb hgb (o := .lst (endsV l)) nF
          exact fin _ D l _ _ _ _ _ rfl G9 (fun e => by rw [e, G8.eg] at nD; cases nD) upd_same okl
      | cons l0 lr =>
        refine iteT ?_
        obtain ⟨vs', v', rfl⟩ : ∃ vs' v', vs = vs' ++ [v'] := by
          have hv : vs ≠ [] := fun e => by have := DpAll.length G6.dp; rw [e] at this; simp at this
          exact ⟨vs.dropLast, vs.getLast hv, (List.dropLast_concat_getLast hv).symm⟩
        have hvl : (vs' ++ [v']).length = (l0 :: lr).length := by rw [DpAll.length G6.dp, List.length_map]
        obtain ⟨d, ed, pd⟩ := DpAll.get G6.dp (i := vs'.length) (v := v') (by rw [List.getElem?_append_right (Nat.le_refl _), Nat.sub_self]; rfl)
        rw [List.getElem?_map] at ed
        cases el : (l0 :: lr)[vs'.length]? with
        | none => rw [el] at ed; cases ed
        | some l =>
          rw [el] at ed
          cases ed
          have okl := G6.ok l (List.mem_of_getElem? el)
          obtain ⟨a, rfl, ha⟩ := lkref pd
          refine ⟨_, rfl, 1, rfl, g, _, _, _, rfl, rfl, SqL.of G6.eg, atI_last _ _, a, _, rfl, .inr ha, fun c nc => ?_⟩
          have G7 := G6.new hzb hgb (o := .lst (endsV l)) nc
          refine ⟨2, rfl, c, _, rfl, SqL.of upd_same, fun c2 nc2 => ?_⟩
          have G8 := G7.new hzb hgb (o := .lst [.int l.1, .int l.2.1]) nc2
          have hc2b : c2 ≠ b := G7.box.ne nc2
          refine ⟨_, rfl, _, rfl, z, _, _, _, rfl, rfl, SqL.of G8.ez, rfl, b, s1, rfl, G8.box, by omega, by omega, fun x H7 x0 x1 dd1 => ?_⟩
          have G9 := G8.draw hzb hgb dd1
          refine ⟨_, rfl, _, rfl, z, _, _, _, rfl, rfl, SqL.of G9.ez, rfl, b, s1, rfl, G9.box, by omega, by omega, fun y H8 y0 y1 dd2 => ?_⟩
          have G10 := G9.draw hzb hgb dd2
          refine ⟨(by show 2 ≤ sizeLine; decide), fun c3 nc3 => ?_⟩
          have G11 := G10.new hzb hgb (o := .lst [.int x, .int y]) nc3
          have ec2 : H8 c2 = some (.lst [.int l.1, .int l.2.1]) := dd2.same _ _ hc2b (dd1.same _ _ hc2b upd_same)
          refine ⟨c2, c3, [.int l.1, .int l.2.1], [.int x, .int y], rfl, rfl, by rw [upd_ne (ne_of_none ec2 nc3)]; exact ec2, upd_same, (by show 2 + 2 ≤ sizeLine; decide), fun c4 nc4 => ?_⟩
          have G12 := G11.new hzb hgb (o := .lst (endsV (l.1, l.2.1, x, y))) nc4
          exact fin _ c4 (l.1, l.2.1, x, y) _ _ _ _ _ rfl G12 (fun e => by rw [e, G11.eg] at nc4; cases nc4) upd_same ⟨okl.a0, okl.a1, okl.c0, okl.c1, x0, x1, y0, y1⟩
    · have e1 : decide (V.int kind = V.int 1) = false := decide_eq_false fun e => hk1 (V.int.inj e)
      rw [e1]
      refine iteF (iteF ⟨_, rfl, rfl, _, rfl, ?_⟩)
      by_cases hk2 : kind = 2
      · subst hk2
        have f1 := fmod_lt (a := 0 + (i : Int)) (n := s0) (by omega)
        have f2 := fmod_lt (a := 0 + (i : Int) + 1) (n := s0) (by omega)
        refine iteT ⟨_, rfl, _, rfl, z, _, _, _, rfl, rfl, SqL.of hG.ez, rfl, _, _, rfl, rfl, by omega, _, rfl, _, _, rfl, rfl, _, rfl, z, _, _, _, rfl, rfl, SqL.of hG.ez, rfl, _, _, rfl, rfl, by omega, ?_⟩
        refine ⟨_, rfl, _, rfl, z, _, _, _, rfl, rfl, SqL.of hG.ez, rfl, b, s1, rfl, hG.box, by omega, by omega, fun x H7 x0 x1 dd1 => ?_⟩
        have G9 := hG.draw hzb hgb dd1
        refine ⟨_, rfl, _, rfl, z, _, _, _, rfl, rfl, SqL.of G9.ez, rfl, b, s1, rfl, G9.box, by omega, by omega, fun y H8 y0 y1 dd2 => ?_⟩
        have G10 := G9.draw hzb hgb dd2
        refine ⟨(by show 4 ≤ sizeLine; decide), fun c3 nc3 => ?_⟩
        have G11 := G10.new hzb hgb (o := .lst (endsV ((0 + (i : Int)).fmod s0, (0 + (i : Int) + 1).fmod s0, x, y))) nc3
        exact fin _ c3 ((0 + (i : Int)).fmod s0, (0 + (i : Int) + 1).fmod s0, x, y) _ _ _ _ _ rfl G11 (fun e => by rw [e, G10.eg] at nc3; cases nc3) upd_same ⟨f1.1, f1.2, f2.1, f2.2, x0, x1, y0, y1⟩
      · have e2 : decide (V.int kind = V.int 2) = false := decide_eq_false fun e => hk2 (V.int.inj e)
        rw [e2]
        refine iteF ⟨_, rfl, rfl, _, rfl, ?_⟩
        by_cases hk3 : kind = 3
        · subst hk3
          refine iteT ⟨_, rfl, (by show 0 ≤ sizeLine; decide), fun p np => neq _ vs ls p _ hG np fun H6 G6 => ?_⟩
          cases ls with
          | nil =>
            refine iteF ?_
            refine ⟨_, rfl, z, _, _, _, rfl, rfl, SqL.of G6.ez, rfl, _, rfl, z, _, _, _, rfl, rfl, SqL.of G6.ez, rfl, _, rfl, z, _, _, _, rfl, rfl, SqL.of G6.ez, rfl, _, rfl, z, _, _, _, rfl, rfl, SqL.of G6.ez, rfl, (by show 4 ≤ sizeLine; decide), fun p np => ?_⟩
            have G8 := G6.new hzb hgb (o := .tup [.int s0, .int s0, .int s1, .int s1]) np
            have hpb : p ≠ b := G6.box.ne np
            refine ⟨p, [.int s0, .int s0, .int s1, .int s1], rfl, .inr (.inl (.inl upd_same)), fun J wk => lc_map wk (Dr b) (fun a b => a.trans b) (fun j y F => ∃ x : Int, y = .int x ∧ 0 ≤ x ∧ ∀ sz : Int, [s0, s0, s1, s1][j]? = some sz → x < sz) (fun j y A B _ p => p) (by show 4 < sizeLine; decide) (Dr.refl G8.box) (fun F D acc dF nF => ?_) (fun j x D acc F H' hj nD dF nF hy B hB => ?_) (fun D ys F nD dF nF hl hR => ?_)⟩
            · exact ⟨fun _ h => (same_new nF).seq (dF.sqL hpb h), fun h => Same.tup (same_new nF) (dF.sqT hpb h)⟩
            · obtain ⟨rfl, hx⟩ := hy
              have hx' : ∃ sz : Int, x = .int sz ∧ [s0, s0, s1, s1][j]? = some sz ∧ 1 ≤ sz ∧ sz ≤ wide := by
                match j, hj, hx with
                | 0, _, hx => exact ⟨s0, (Option.some.inj hx).symm, rfl, a1, a2⟩
                | 1, _, hx => exact ⟨s0, (Option.some.inj hx).symm, rfl, a1, a2⟩
                | 2, _, hx => exact ⟨s1, (Option.some.inj hx).symm, rfl, c1, c2⟩
                | 3, _, hx => exact ⟨s1, (Option.some.inj hx).symm, rfl, c1, c2⟩
              obtain ⟨sz, rfl, hsz, z1, z2⟩ := hx'
              refine hB _ F rfl nF fun Qt hq => ?_
              exact ⟨_, rfl, _, rfl, b, sz, rfl, dF.box, by omega, by omega, fun v F' v0 v1 d => hq _ _ d ⟨v, rfl, v0, fun sz' e => by rw [hsz] at e; cases e; exact v1⟩⟩
            · have hys : ∃ l : Lk, ys = endsV l ∧ okLk s0 s1 l := by
                match ys, hl with
                | [y0, y1, y2, y3], _ =>
                  obtain ⟨x0, rfl, p0, q0⟩ := hR 0 _ rfl
                  obtain ⟨x1, rfl, p1, q1⟩ := hR 1 _ rfl
                  obtain ⟨x2, rfl, p2, q2⟩ := hR 2 _ rfl
                  obtain ⟨x3, rfl, p3, q3⟩ := hR 3 _ rfl
                  exact ⟨(x0, x1, x2, x3), rfl, ⟨p0, q0 _ rfl, p1, q1 _ rfl, p2, q2 _ rfl, p3, q3 _ rfl⟩⟩
              obtain ⟨l, rfl, okl⟩ := hys
              have G9 := (G8.draw hzb hgb dF).new hzb hgb (o := .lst (endsV l)) nF
              exact fin _ D l _ _ _ _ _ rfl G9 (fun e => by rw [e, G8.eg] at nD; cases nD) upd_same okl
          | cons l0 lr =>
            refine iteT ?_
            have hv : vs ≠ [] := fun e => by have := DpAll.length G6.dp; rw [e] at this; simp at this
            have hvl : vs.length ≤ 200 := by rw [DpAll.length G6.dp, List.length_map, G6.len]; exact hi2
            refine ⟨_, rfl, _, rfl, b, g, vs, rfl, G6.box, hgb, SqL.of G6.eg, hv, by omega, fun j v H7 ej dd => ?_⟩
            have G7 := G6.draw hzb hgb dd
            obtain ⟨d, ed, pd⟩ := DpAll.get G7.dp ej
            rw [List.getElem?_map] at ed
            cases el : (l0 :: lr)[j]? with
            | none => rw [el] at ed; cases ed
            | some l =>
              rw [el] at ed
              cases ed
              have okl := G7.ok l (List.mem_of_getElem? el)
              obtain ⟨a, rfl, ha⟩ := lkref pd
              refine ⟨a, _, rfl, .inr ha, fun c nc => ?_⟩
              have G8 := G7.new hzb hgb (o := .lst (endsV l)) nc
              have hcb : c ≠ b := G7.box.ne nc
              have hcg : c ≠ g := fun e => by rw [e, G7.eg] at nc; cases nc
              have hcz : c ≠ z := fun e => by rw [e, G7.ez] at nc; cases nc
              refine ⟨_, rfl, _, rfl, b, 4, rfl, G8.box, by decide, by decide, fun j2 H9 j0 j1 dd2 => ?_⟩
              have G9 := G8.draw hzb hgb dd2
              have ec : H9 c = some (.lst (endsV l)) := dd2.same c _ hcb upd_same
              refine ⟨c, _, _, j2.toNat, rfl, rfl, ec, ?_, ?_⟩
              · unfold ixN
                rw [if_pos j0, if_pos (by show j2 < 4; exact j1)]
              · have G10 : Gt K b z g s0 s1 i H (upd H9 c (.lst ((endsV l).set j2.toNat (.int 0)))) vs (l0 :: lr) := by
                  refine ⟨?_, fun a o na e => ?_, ?_, ?_, DpAll.tp (Tp.upd ec) _ (noLs_lk _) G9.dp, G9.len, G9.ok⟩
                  · obtain ⟨x, y, w, e⟩ := G9.box
                    exact ⟨x, y, w, by rw [upd_ne (fun q => hcb q.symm)]; exact e⟩
                  · by_cases hac : a = c
                    · exfalso
                      rw [hac] at e
                      rw [G7.old c o hcb e] at nc; cases nc
                    · rw [upd_ne hac]; exact G9.old a o na e
                  · rw [upd_ne (fun q => hcz q.symm)]; exact G9.ez
                  · rw [upd_ne (fun q => hcg q.symm)]; exact G9.eg
                have hset : ∃ l2 : Lk, (endsV l).set j2.toNat (.int 0) = endsV l2 ∧ okLk s0 s1 l2 := by
                  have hj : j2.toNat = 0 ∨ j2.toNat = 1 ∨ j2.toNat = 2 ∨ j2.toNat = 3 := by omega
                  rcases hj with e | e | e | e <;> rw [e]
                  · exact ⟨(0, l.2.1, l.2.2.1, l.2.2.2), rfl, ⟨Int.le_refl 0, by show 0 < s0; omega, okl.c0, okl.c1, okl.x0, okl.x1, okl.y0, okl.y1⟩⟩
                  · exact ⟨(l.1, 0, l.2.2.1, l.2.2.2), rfl, ⟨okl.a0, okl.a1, Int.le_refl 0, by show 0 < s0; omega, okl.x0, okl.x1, okl.y0, okl.y1⟩⟩
                  · exact ⟨(l.1, l.2.1, 0, l.2.2.2), rfl, ⟨okl.a0, okl.a1, okl.c0, okl.c1, Int.le_refl 0, by show 0 < s1; omega, okl.y0, okl.y1⟩⟩
                  · exact ⟨(l.1, l.2.1, l.2.2.1, 0), rfl, ⟨okl.a0, okl.a1, okl.c0, okl.c1, okl.x0, okl.x1, Int.le_refl 0, by show 0 < s1; omega⟩⟩
                obtain ⟨l2, el2, ok2⟩ := hset
                rw [el2] at G10 ⊢
                exact fin _ c l2 _ _ _ _ _ rfl G10 hcg upd_same ok2
        · have e3 : decide (V.int kind = V.int 3) = false := decide_eq_false fun e => hk3 (V.int.inj e)
          rw [e3]
          refine iteF (iteF ?_)
          refine ⟨_, rfl, z, _, _, _, rfl, rfl, SqL.of hG.ez, rfl, _, rfl, z, _, _, _, rfl, rfl, SqL.of hG.ez, rfl, _, rfl, z, _, _, _, rfl, rfl, SqL.of hG.ez, rfl, _, rfl, z, _, _, _, rfl, rfl, SqL.of hG.ez, rfl, (by show 4 ≤ sizeLine; decide), fun p np => ?_⟩
          have G8 := hG.new hzb hgb (o := .tup [.int s0, .int s0, .int s1, .int s1]) np
          have hpb : p ≠ b := hG.box.ne np
          refine ⟨p, [.int s0, .int s0, .int s1, .int s1], rfl, .inr (.inl (.inl upd_same)), fun J wk => lc_map wk (Dr b) (fun a b => a.trans b) (fun j y F => ∃ x : Int, y = .int x ∧ 0 ≤ x ∧ ∀ sz : Int, [s0, s0, s1, s1][j]? = some sz → x < sz) (fun j y A B _ p => p) (by show 4 < sizeLine; decide) (Dr.refl G8.box) (fun F D acc dF nF => ?_) (fun j x D acc F H' hj nD dF nF hy B hB => ?_) (fun D ys F nD dF nF hl hR => ?_)⟩
          · exact ⟨fun _ h => (same_new nF).seq (dF.sqL hpb h), fun h => Same.tup (same_new nF) (dF.sqT hpb h)⟩
          · obtain ⟨rfl, hx⟩ := hy
            have hx' : ∃ sz : Int, x = .int sz ∧ [s0, s0, s1, s1][j]? = some sz ∧ 1 ≤ sz ∧ sz ≤ wide := by
              match j, hj, hx with
              | 0, _, hx => exact ⟨s0, (Option.some.inj hx).symm, rfl, a1, a2⟩
              | 1, _, hx => exact ⟨s0, (Option.some.inj hx).symm, rfl, a1, a2⟩
              | 2, _, hx => exact ⟨s1, (Option.some.inj hx).symm, rfl, c1, c2⟩
              | 3, _, hx => exact ⟨s1, (Option.some.inj hx).symm, rfl, c1, c2⟩
            obtain ⟨sz, rfl, hsz, z1, z2⟩ := hx'
            refine hB _ F rfl nF fun Qt hq => ?_
            exact ⟨_, rfl, _, rfl, b, sz, rfl, dF.box, by omega, by omega, fun v F' v0 v1 d => hq _ _ d ⟨v, rfl, v0, fun sz' e => by rw [hsz] at e; cases e; exact v1⟩⟩
          · have hys : ∃ l : Lk, ys = endsV l ∧ okLk s0 s1 l := by
              match ys, hl with
              | [y0, y1, y2, y3], _ =>
                obtain ⟨x0, rfl, p0, q0⟩ := hR 0 _ rfl
                obtain ⟨x1, rfl, p1, q1⟩ := hR 1 _ rfl
                obtain ⟨x2, rfl, p2, q2⟩ := hR 2 _ rfl
                obtain ⟨x3, rfl, p3, q3⟩ := hR 3 _ rfl
                exact ⟨(x0, x1, x2, x3), rfl, ⟨p0, q0 _ rfl, p1, q1 _ rfl, p2, q2 _ rfl, p3, q3 _ rfl⟩⟩
            obtain ⟨l, rfl, okl⟩ := hys
            have G9 := (G8.draw hzb hgb dF).new hzb hgb (o := .lst (endsV l)) nF
            exact fin _ D l _ _ _ _ _ rfl G9 (fun e => by rw [e, G8.eg] at nD; cases nD) upd_same okl
  · obtain ⟨y6, y7, y8, y9, vs, ls, rfl, hG⟩ := h
    refine ⟨_, rfl, z, _, _, _, rfl, rfl, SqL.of hG.ez, rfl, _, rfl, z, _, _, _, rfl, rfl, SqL.of hG.ez, rfl, _, rfl, g, _, rfl, .inl ⟨SqL.of hG.eg, fun t nt => ?_⟩⟩
    refine ⟨(by show 3 ≤ sizeLine; decide), fun r nr => ?_⟩
    have s1' : Same H4 (upd H4 t (.tup vs)) := same_new nt
    have s2' : Same _ (upd (upd H4 t (.tup vs)) r (.tup [.int s0, .int s1, .ref t])) := same_new nr
    refine q ⟨s0, s1, ls⟩ _ _ ⟨a1, a2, c1, c2, by rw [hG.len]; omega, hG.ok⟩ (Dr.trans (b := b) (H1 := H4) ⟨hG.box, hG.old⟩ (Dr.of hG.box (s1'.trans s2'))) ?_
    exact .tup (.inl (.inl upd_same)) (.cons (.int _) (.cons (.int _) (.cons (.tup (.inl (.inl (s2' _ _ upd_same))) (DpAll.same (s1'.trans s2') _ hG.dp)) .nil)))
end
end XL
namespace XL
open PySem PySem.Spec PyProof.Rows L2
abbrev sBas : Stmt := topS 2
abbrev sEnds : Stmt := topS 3
section
variable {P : Program} {w : World} {K : PySem.W.Frag} {mg : Str → Option Value} {base : Heap}
/-- a canal of tuples or of lists -/
structure CnAny (K : PySem.W.Frag) (H : Hp) (v : V) (c : Cn) : Prop where
  ex : ∃ a g vs, v = .ref a ∧ Sq2 K H a [.int c.r, .int c.b, .ref g] ∧ Sq2 K H g vs ∧ vs.length = c.ls.length ∧ ∀ (i : Nat) u, vs[i]? = some u → ∃ l t, c.ls[i]? = some l ∧ u = .ref t ∧ Sq2 K H t (endsV l)
theorem ends_of {H : Hp} {v : V} {l : Lk} (h : Dp K H v (lkD l)) : ∃ a, v = .ref a ∧ SqT K H a (endsV l) := by
  cases h with
  | tup hs ha =>
    cases ha with
    | cons p1 ha => cases p1; cases ha with
      | cons p2 ha => cases p2; cases ha with
        | cons p3 ha => cases p3; cases ha with
          | cons p4 ha => cases p4; cases ha; exact ⟨_, rfl, hs⟩
theorem ends_of' {H : Hp} {v : V} {l : Lk} (h : Dp K H v (lstD (lkD l))) : ∃ a, v = .ref a ∧ SqL K H a (endsV l) := by
  have e : lstD (lkD l) = .list [.int l.1, .int l.2.1, .int l.2.2.1, .int l.2.2.2] := rfl
  rw [e] at h
  cases h with
  | lst hs ha =>
    cases ha with
    | cons p1 ha => cases p1; cases ha with
      | cons p2 ha => cases p2; cases ha with
        | cons p3 ha => cases p3; cases ha with
          | cons p4 ha => cases p4; cases ha; exact ⟨_, rfl, hs⟩
theorem cn_of {H : Hp} {v : V} {c : Cn} (h : Dp K H v (cnD c)) : ∃ a g vs, v = .ref a ∧ SqT K H a [.int c.r, .int c.b, .ref g] ∧ SqT K H g vs ∧ DpAll K H vs (c.ls.map lkD) := by
  cases h with
  | tup hs ha =>
    cases ha with
    | cons p1 ha => cases p1; cases ha with
      | cons p2 ha => cases p2; cases ha with
        | cons p3 ha =>
          cases ha
          cases p3 with
          | tup hg hl => exact ⟨_, _, _, rfl, hs, hg, hl⟩
theorem cnAny_t {H : Hp} {v : V} {c : Cn} (h : Dp K H v (cnD c)) : CnAny K H v c := by
  obtain ⟨a, g, vs, e, ha, hg, hl⟩ := cn_of h
  refine ⟨a, g, vs, e, .inr ha, .inr hg, by rw [DpAll.length hl, List.length_map], fun i u hu => ?_⟩
  obtain ⟨d, ed, pd⟩ := DpAll.get hl hu
  rw [List.getElem?_map] at ed
  cases el : c.ls[i]? with
  | none => rw [el] at ed; cases ed
  | some l =>
    rw [el] at ed
    cases ed
    obtain ⟨t, et, ht⟩ := ends_of pd
    exact ⟨l, t, rfl, et, .inr ht⟩
theorem cnAny_l {H : Hp} {v : V} {c : Cn} (h : Dp K H v (lstD (cnD c))) : CnAny K H v c := by
  have e : lstD (cnD c) = .list [.int c.r, .int c.b, .list ((c.ls.map lkD).map lstD)] := by
    show PyData.list [.int c.r, .int c.b, .list (lstDs (c.ls.map lkD))] = _
    rw [lstDs_eq]
  rw [e] at h
  cases h with
  | lst hs ha =>
    cases ha with
    | cons p1 ha => cases p1; cases ha with
      | cons p2 ha => cases p2; cases ha with
        | cons p3 ha =>
          cases ha
          cases p3 with
          | lst hg hl =>
            refine ⟨_, _, _, rfl, .inl hs, .inl hg, by rw [DpAll.length hl, List.length_map, List.length_map], fun i u hu => ?_⟩
            obtain ⟨d, ed, pd⟩ := DpAll.get hl hu
            rw [List.map_map, List.getElem?_map] at ed
            cases el : c.ls[i]? with
            | none => rw [el] at ed; cases ed
            | some l =>
              rw [el] at ed
              cases ed
              obtain ⟨t, et, ht⟩ := ends_of' pd
              exact ⟨l, t, rfl, et, .inl ht⟩
theorem CnAny.same {H H' : Hp} {v : V} {c : Cn} (h : CnAny K H v c) (s : Same H H') : CnAny K H' v c := by
  obtain ⟨a, g, vs, e, ha, hg, hl, hv⟩ := h.ex
  refine ⟨a, g, vs, e, Same.sq2 s ha, Same.sq2 s hg, hl, fun i u hu => ?_⟩
  obtain ⟨l, t, h1, h2, h3⟩ := hv i u hu
  exact ⟨l, t, h1, h2, Same.sq2 s h3⟩
/-! ### basins_of, ends_of -/
def isRed (w : Str) : Bool := decide (V.str w = V.str "red")
def basW (r : Bool) (c : Cn) : Int := if r = true then c.r else c.b
def endW (r : Bool) (l : Lk) : Int × Int := if r = true then (l.1, l.2.1) else (l.2.2.1, l.2.2.2)
abbrev nBas : List Str := ["canal", "water"]
theorem scBas : FnScope nBas ["canal", "water"] (defScope sBas) := ⟨rfl, rfl, rfl, by decide +kernel, rfl, by decide +kernel, by decide +kernel⟩
def spBas (K : PySem.W.Frag) : Sp := fun vs H Q _ => ∃ (v : V) (w : Str) (c : Cn), vs = [v, .str w] ∧ CnAny K H v c ∧ Q (.int (basW (isRed w) c)) H
theorem ok_bas {f : Addr} {fd : FuncData} {k : Nat} {tR : Tok} (F : Fun K "basins_of" "basins_of" sBas f fd) (gRED : mg "RED" = some (.str "red" tR)) : FnOk P w K mg base CX0 (k + 1) f fd ["canal", "water"] (spBas K) := by
  refine F.ok scBas (fun vs H Q E h => ?_) (fun cdv A outer s H vs Q E hr h => ?_)
  · obtain ⟨v, w, c, rfl, _⟩ := h
    rfl
  obtain ⟨v, w, c, rfl, hc, q⟩ := h
  obtain ⟨a, g, vs, rfl, ha, hg, hl, hv⟩ := hc.ex
  refine ⟨_, (pss_one (ps_ret (pe_ifExp (pt_cmpR op_eq (pv 1) (pe_glob (v := .str "red") rfl gRED ⟨_, rfl⟩) (nomark _)) (pe_ix (r := rIxA K) ix_any (pv 0) pe_int (fun _ _ => rfl)) (pe_ix (r := rIxA K) ix_any (pv 0) pe_int (fun _ _ => rfl))))), ?_⟩
  refine ⟨_, rfl, rfl, _, rfl, ite2 (fun e => ?_) (fun e => ?_)⟩
  · have q' : Q (.int c.r) H := by
      have e2 : isRed w = true := e
      rw [e2] at q; exact q
    exact ⟨_, rfl, a, _, _, _, rfl, rfl, ha, rfl, q'⟩
  · have q' : Q (.int c.b) H := by
      have e2 : isRed w = false := by cases z : isRed w; rfl; exact absurd z e
      rw [e2] at q; exact q
    exact ⟨_, rfl, a, _, _, _, rfl, rfl, ha, rfl, q'⟩
abbrev nEnds : List Str := ["lock", "water", "a", "c", "x", "y"]
theorem scEnds : FnScope nEnds ["lock", "water"] (defScope sEnds) := ⟨rfl, rfl, rfl, by decide +kernel, rfl, by decide +kernel, by decide +kernel⟩
def prV (p : Int × Int) : List V := [.int p.1, .int p.2]
def spEnds (K : PySem.W.Frag) : Sp := fun vs H Q _ => ∃ (t : Addr) (w : Str) (l : Lk), vs = [.ref t, .str w] ∧ Sq2 K H t (endsV l) ∧ ∀ p, H p = none → Q (.ref p) (upd H p (.tup (prV (endW (isRed w) l))))
theorem ok_ends {f : Addr} {fd : FuncData} {k : Nat} {tR : Tok} (F : Fun K "ends_of" "ends_of" sEnds f fd) (gRED : mg "RED" = some (.str "red" tR)) : FnOk P w K mg base CX0 (k + 1) f fd ["lock", "water"] (spEnds K) := by
  refine F.ok scEnds (fun vs H Q E h => ?_) (fun cdv A outer s H vs Q E hr h => ?_)
  · obtain ⟨v, w, c, rfl, _⟩ := h
    rfl
  obtain ⟨t, w, l, rfl, ht, q⟩ := h
  refine ⟨_, (pss_cons (ps_asg (pv 0) (pg_any rfl (pgs_cons (pg_name (i := 2) scEnds.nd rfl (.inl rfl)) (pgs_cons (pg_name (i := 3) scEnds.nd rfl (.inl rfl)) (pgs_cons (pg_name (i := 4) scEnds.nd rfl (.inl rfl)) (pgs_cons (pg_name (i := 5) scEnds.nd rfl (.inl rfl)) pgs_nil))))))
    (pss_one (ps_ret (pe_ifExp (pt_cmpR op_eq (pv 1) (pe_glob (v := .str "red") rfl gRED ⟨_, rfl⟩) (nomark _)) (pe_tup (pa_cons (pv 2) (pa_cons (pv 3) pa_nil))) (pe_tup (pa_cons (pv 4) (pa_cons (pv 5) pa_nil))))))), ?_⟩
  refine ⟨_, rfl, t, _, rfl, ht, rfl, _, _, rfl, _, _, rfl, _, _, rfl, _, _, rfl, rfl, ?_⟩
  refine at_s (σ' := [some (.ref t), some (.str w), some (.int l.1), some (.int l.2.1), some (.int l.2.2.1), some (.int l.2.2.2)]) rfl ?_
  refine ⟨_, rfl, rfl, _, rfl, ite2 (fun e => ?_) (fun e => ?_)⟩
  · refine ⟨_, rfl, _, rfl, (by show 2 ≤ sizeLine; decide), fun p np => ?_⟩
    have q' := q p np
    have e2 : isRed w = true := e
    rw [e2] at q'; exact q'
  · refine ⟨_, rfl, _, rfl, (by show 2 ≤ sizeLine; decide), fun p np => ?_⟩
    have q' := q p np
    have e2 : isRed w = false := by cases z : isRed w; rfl; exact absurd z e
    rw [e2] at q'; exact q'
end
end XL
namespace XL
open PySem PySem.Spec PyProof.Rows L2
abbrev sPieces : Stmt := topS 4
/-! ### a dict of lists -/
abbrev G3 := List (Int × List Int × Addr)
def kvsOf (g : G3) : List (Key × V) := g.map fun t => (Sum.inl t.1, V.ref t.2.2)
def grOf (g : G3) : Gr := g.map fun t => (t.1, t.2.1)
def gapp : G3 → Int → Int → G3
  | [], _, _ => []
  | t :: r, m, x => if t.1 = m then (t.1, t.2.1 ++ [x], t.2.2) :: r else t :: gapp r m x
theorem kvs_gapp : ∀ (g : G3) (m x : Int), kvsOf (gapp g m x) = kvsOf g
  | [], _, _ => rfl
  | t :: r, m, x => by
    unfold gapp
    by_cases e : t.1 = m
    · rw [if_pos e]; rfl
    · rw [if_neg e]
      show (Sum.inl t.1, V.ref t.2.2) :: kvsOf (gapp r m x) = _
      rw [kvs_gapp r m x]; rfl
theorem adr_gapp : ∀ (g : G3) (m x : Int), (gapp g m x).map (·.2.2) = g.map (·.2.2)
  | [], _, _ => rfl
  | t :: r, m, x => by
    unfold gapp
    by_cases e : t.1 = m
    · rw [if_pos e]; rfl
    · rw [if_neg e, List.map_cons, List.map_cons, adr_gapp r m x]
theorem gr_gapp : ∀ {g : G3} {m : Int} (x : Int), m ∈ g.map (·.1) → grOf (gapp g m x) = gput (grOf g) m x
  | [], m, x, h => by simp at h
  | t :: r, m, x, h => by
    unfold gapp
    show _ = gput ((t.1, t.2.1) :: grOf r) m x
    unfold gput
    by_cases e : t.1 = m
    · rw [if_pos e, if_pos e]; rfl
    · rw [if_neg e, if_neg e]
      show (t.1, t.2.1) :: grOf (gapp r m x) = _
      rw [gr_gapp (g := r) x (by rcases List.mem_cons.mp h with q | q; exact absurd q.symm e; exact q)]
theorem gr_gnew {g : G3} {m : Int} (x : Int) (l : Addr) (h : m ∉ g.map (·.1)) : grOf (gapp (g ++ [(m, [], l)]) m x) = gput (grOf g) m x := by
  have hk : m ∉ (grOf g).map (·.1) := by
    intro q
    apply h
    unfold grOf at q
    rw [List.map_map] at q; exact q
  rw [gput_new hk]
  induction g with
  | nil =>
    show grOf (if m = m then _ else _) = _
    rw [if_pos rfl]; rfl
  | cons t r ih =>
    have e : t.1 ≠ m := fun e => h (by rw [← e]; exact List.mem_cons_self ..)
    show grOf (if t.1 = m then _ else _) = _
    rw [if_neg e]
    show (t.1, t.2.1) :: grOf (gapp (r ++ [(m, [], l)]) m x) = (t.1, t.2.1) :: (grOf r ++ [(m, [x])])
    rw [ih (fun q => h (List.mem_cons_of_mem _ q)) (fun q => hk (List.mem_cons_of_mem _ q))]
structure Mem (H : Hp) (d : Addr) (g : G3) : Prop where
  ed : H d = some (.dK (kvsOf g))
  el : ∀ t ∈ g, H t.2.2 = some (.lst (t.2.1.map V.int))
  nd : (g.map (·.2.2)).Nodup
theorem key_iff {g : G3} {m : Int} : (valV (kvsOf g) (Sum.inl m : Key)) = none ↔ m ∉ g.map (·.1) := by
  induction g with
  | nil => simp [kvsOf, valV]
  | cons t r ih =>
    by_cases e : t.1 = m
    · have e' : (Sum.inl t.1 : Key) = Sum.inl m := by rw [e]
      rw [show kvsOf (t :: r) = ((Sum.inl t.1, V.ref t.2.2) :: kvsOf r) from rfl, valV_pos e']
      constructor
      · intro z; cases z
      · intro z; exact absurd (by rw [← e]; exact List.mem_cons_self ..) z
    · have e' : ¬ (Sum.inl t.1 : Key) = Sum.inl m := fun z => e (Sum.inl.inj z)
      rw [show kvsOf (t :: r) = ((Sum.inl t.1, V.ref t.2.2) :: kvsOf r) from rfl, valV_neg e', ih, List.map_cons, List.mem_cons]
      constructor
      · intro z q; rcases q with q | q; exact e q.symm; exact z q
      · intro z q; exact z (.inr q)
/-- the entry, its list, and what stands behind an append to it -/
theorem entry_of : ∀ {g : G3} {m : Int}, m ∈ g.map (·.1) → (g.map (·.2.2)).Nodup → ∃ t, t ∈ g ∧ valV (kvsOf g) (Sum.inl m : Key) = some (.ref t.2.2) ∧ ∀ x u, u ∈ gapp g m x → (u ∈ g ∧ u.2.2 ≠ t.2.2) ∨ (u.2.2 = t.2.2 ∧ u.2.1 = t.2.1 ++ [x])
  | [], m, h, _ => by simp at h
  | t :: r, m, h, nd => by
    obtain ⟨n1, n2⟩ := List.nodup_cons.mp nd
    by_cases e : t.1 = m
    · refine ⟨t, List.mem_cons_self .., by rw [show kvsOf (t :: r) = ((Sum.inl t.1, V.ref t.2.2) :: kvsOf r) from rfl, valV_pos (by rw [e])], fun x u hu => ?_⟩
      unfold gapp at hu
      rw [if_pos e] at hu
      rcases List.mem_cons.mp hu with q | q
      · exact .inr ⟨by rw [q], by rw [q]⟩
      · exact .inl ⟨List.mem_cons_of_mem _ q, fun z => n1 (List.mem_map.mpr ⟨u, q, z⟩)⟩
    · have hm : m ∈ r.map (·.1) := by rcases List.mem_cons.mp h with q | q; exact absurd q.symm e; exact q
      obtain ⟨t', ht, ev, hs⟩ := entry_of hm n2
      refine ⟨t', List.mem_cons_of_mem _ ht, by rw [show kvsOf (t :: r) = ((Sum.inl t.1, V.ref t.2.2) :: kvsOf r) from rfl, valV_neg (fun z => e (Sum.inl.inj z))]; exact ev, fun x u hu => ?_⟩
      unfold gapp at hu
      rw [if_neg e] at hu
      rcases List.mem_cons.mp hu with q | q
      · exact .inl ⟨by rw [q]; exact List.mem_cons_self .., fun z => n1 (List.mem_map.mpr ⟨t', ht, by rw [← z, q]⟩)⟩
      · rcases hs x u q with ⟨a, b⟩ | a
        · exact .inl ⟨List.mem_cons_of_mem _ a, b⟩
        · exact .inr a
theorem Mem.app {H : Hp} {d : Addr} {g : G3} {m : Int} (M : Mem H d g) (hm : m ∈ g.map (·.1)) : ∃ (a : Addr) (l : List Int), valV (kvsOf g) (Sum.inl m : Key) = some (.ref a) ∧ (m, l, a) ∈ g.map (fun t => (m, t.2.1, t.2.2)) ∧ H a = some (.lst (l.map V.int)) ∧
    ∀ x : Int, Mem (upd H a (.lst (l.map V.int ++ [.int x]))) d (gapp g m x) := by
  obtain ⟨t, ht, ev, hs⟩ := entry_of hm M.nd
  have ea := M.el t ht
  refine ⟨t.2.2, t.2.1, ev, List.mem_map.mpr ⟨t, ht, rfl⟩, ea, fun x => ⟨?_, fun u hu => ?_, by rw [adr_gapp]; exact M.nd⟩⟩
  · rw [upd_ne (ne_of M.ed ea (by intro z; cases z)), kvs_gapp]; exact M.ed
  · rcases hs x u hu with ⟨a, b⟩ | ⟨a, b⟩
    · rw [upd_ne b]; exact M.el u a
    · rw [a, upd_same, b, List.map_append]; rfl
theorem putK_new {kvs : List (Key × V)} {k : Key} {v : V} (h : valV kvs k = none) : putK kvs k v = kvs ++ [(k, v)] := by
  unfold putK
  rw [if_neg]
  rw [valV_any, h]; simp
/-! ### the pieces of a water -/
def marksOf (n : Nat) (es : Prs) : List Int := es.foldl rel (rng n)
def grpOf (ms : List Int) : Nat → Gr
  | 0 => []
  | i + 1 => gput (grpOf ms i) (mkOf ms (i : Int)) (i : Int)
def piecesOf (n : Nat) (es : Prs) : List (List Int) := (grpOf (marksOf n es) n).map (·.2)
theorem grp_of (ms : List Int) : ∀ i : Nat, Grp ms i (grpOf ms i)
  | 0 => Grp.start ms
  | i + 1 => (grp_of ms i).step
theorem mks_app {n : Nat} : ∀ (fs es : Prs) (ms : List Int), Mks n es ms → okPrs n es → okPrs n fs → Mks n (es ++ fs) (fs.foldl rel ms)
  | [], es, ms, h, _, _ => by rw [List.append_nil]; exact h
  | p :: fs, es, ms, h, oe, of => by
    have e : es ++ p :: fs = (es ++ [p]) ++ fs := by simp
    rw [e]
    exact mks_app fs (es ++ [p]) (rel ms p) (h.step oe (of p (List.mem_cons_self ..))) (fun q hq => by
      rcases List.mem_append.mp hq with z | z
      · exact oe q z
      · rw [List.mem_singleton.mp z]; exact of p (List.mem_cons_self ..)) fun q hq => of q (List.mem_cons_of_mem _ hq)
theorem marks_ok {n : Nat} {es : Prs} (ok : okPrs n es) : Mks n es (marksOf n es) := by
  exact mks_app es [] (rng n) (Mks.start n) (fun p h => by simp at h) ok
theorem rel_len (ms : List Int) (p : Int × Int) : (rel ms p).length = ms.length := by unfold rel; rw [List.length_map]
theorem fold_len : ∀ (es : Prs) (ms : List Int), (es.foldl rel ms).length = ms.length
  | [], _ => rfl
  | p :: es, ms => by rw [List.foldl_cons, fold_len es, rel_len]
theorem fold_take {es : Prs} {ms : List Int} {i : Nat} {p : Int × Int} (h : es[i]? = some p) : (es.take (i + 1)).foldl rel ms = rel ((es.take i).foldl rel ms) p := by
  rw [List.take_succ, h, List.foldl_append]; rfl
def tupI (l : List Int) : PyData := .tuple (l.map PyData.int)
theorem dp_ints {K : PySem.W.Frag} {H : Hp} : ∀ l : List Int, DpAll K H (l.map V.int) (l.map PyData.int)
  | [] => .nil
  | x :: l => .cons (.int x) (dp_ints l)
def prsW (r : Bool) (c : Cn) : Prs := c.ls.map (endW r)
section
variable {P : Program} {w : World} {K : PySem.W.Frag} {mg : Str → Option Value} {base : Heap}
abbrev nPieces : List Str := ["canal", "water", "marks", "lock", "start", "end", "kept", "dropped", "members", "basin", "mark", "basins"]
theorem scPieces : FnScope nPieces ["canal", "water"] (defScope sPieces) := ⟨rfl, rfl, rfl, by decide +kernel, rfl, by decide +kernel, by decide +kernel⟩
def spPieces (K : PySem.W.Frag) : Sp := fun vs H Q _ => ∃ (v : V) (w : Str) (c : Cn), vs = [v, .str w] ∧ CnAny K H v c ∧ okCn 100 100 c ∧
  ∀ (p : Addr) (us : List V) (H' : Hp), Same H H' → H p = none → H' p = some (.lst us) → DpAll K H' us ((piecesOf (basW (isRed w) c).toNat (prsW (isRed w) c)).map tupI) → Q (.ref p) H'
theorem okEnd {c : Cn} (ok : okCn 100 100 c) (r : Bool) : okPrs (basW r c).toNat (prsW r c) := fun p hp => by
  obtain ⟨l, hl, rfl⟩ := List.mem_map.mp hp
  have o := ok.l l hl
  have := o.a0; have := o.a1; have := o.c0; have := o.c1; have := o.x0; have := o.x1; have := o.y0; have := o.y1
  cases r with
  | true =>
    show (0 ≤ l.1 ∧ l.1 < (c.r.toNat : Int)) ∧ (0 ≤ l.2.1 ∧ l.2.1 < (c.r.toNat : Int))
    omega
  | false =>
    show (0 ≤ l.2.2.1 ∧ l.2.2.1 < (c.b.toNat : Int)) ∧ (0 ≤ l.2.2.2 ∧ l.2.2.2 < (c.b.toNat : Int))
    omega
theorem ints_of_eq : ∀ {ys : List V} {zs : List Int}, ys.length = zs.length → (∀ (i : Nat) y, ys[i]? = some y → ∃ z, zs[i]? = some z ∧ y = .int z) → ys = zs.map V.int
  | [], [], _, _ => rfl
  | [], _ :: _, h, _ => by simp at h
  | _ :: _, [], h, _ => by simp at h
  | y :: ys, z :: zs, h, hi => by
    obtain ⟨z', e, p⟩ := hi 0 y rfl
    have e' : z = z' := by simpa using e
    subst e'
    rw [p, List.map_cons, ints_of_eq (ys := ys) (zs := zs) (by simpa using h) fun i y q => by simpa using hi (i + 1) y (by simpa using q)]
theorem ok_pieces {f fb fe : Addr} {fd fdb fde : FuncData} {k : Nat} (F : Fun K "pieces" "pieces" sPieces f fd) (B : Fns P w K mg base k "basins_of" ["canal", "water"] (spBas K) fb fdb) (Ef : Fns P w K mg base k "ends_of" ["lock", "water"] (spEnds K) fe fde)
    (m_list : mg "list" = none) (m_range : mg "range" = none) (m_enumerate : mg "enumerate" = none) (m_tuple : mg "tuple" = none) : FnOk P w K mg base CX0 (k + 1) f fd ["canal", "water"] (spPieces K) := by
  refine F.ok scPieces (fun vs H Q E h => ?_) (fun cdv A outer s H vs Q E hr h => ?_)
  · obtain ⟨v, w, c, rfl, _⟩ := h
    rfl
  obtain ⟨v, w, c, rfl, hc, okc, q⟩ := h
  have hc0 := hc
  obtain ⟨a, g, vs, rfl, ha, hg, hl, hv⟩ := hc.ex
  refine ⟨_, (pss_cons (ps_set (i := 2) scPieces.nd rfl (.inl rfl) (pe_listRg rfl rfl m_list (prg_1 rfl m_range (pe_fn B hr rfl (pa_cons (pv 0) (pa_cons (pv 1) pa_nil))))))
    (pss_cons (ps_for PassesOwn.never rfl (pi_seq (pe_ix (r := rIxA K) ix_any (pv 0) pe_int (fun _ _ => rfl))) (pg_name (i := 3) scPieces.nd rfl (.inl rfl))
    (pss_cons (ps_asg (pe_fn Ef hr rfl (pa_cons (pv 3) (pa_cons (pv 1) pa_nil))) (pg_any rfl (pgs_cons (pg_name (i := 4) scPieces.nd rfl (.inl rfl)) (pgs_cons (pg_name (i := 5) scPieces.nd rfl (.inl rfl)) pgs_nil))))
    (pss_cons (ps_asg (pe_tup (pa_cons (pe_ix (r := rIxA K) ix_any (pv 2) (pv 4) (fun _ _ => rfl)) (pa_cons (pe_ix (r := rIxA K) ix_any (pv 2) (pv 5) (fun _ _ => rfl)) pa_nil))) (pg_any rfl (pgs_cons (pg_name (i := 6) scPieces.nd rfl (.inr rfl)) (pgs_cons (pg_name (i := 7) scPieces.nd rfl (.inr rfl)) pgs_nil))))
    (pss_one (ps_setLc (i := 2) (own := [("mark", 10)]) (g := gName 10) (tt := tYes) rfl scPieces.nd rfl rfl (sw_true rfl rfl rfl (by decide +kernel)) (pi_seq (pv 2)) (blkOk_by (own := [("mark", 10)]) (N := nPieces) (sc := defScope sPieces) (by decide +kernel)) (fun _ _ _ _ _ => (pg_name (i := 10) scPieces.nd rfl (.inl rfl))) (fun _ _ _ _ _ => pts_nil) (fun _ _ _ _ _ => pe_hide (pe_ifExp (pt_cmpR op_eq (pv 10) (pv 7) (nomark _)) (pv 6) (pv 10))))))))
    (pss_cons (ps_set (i := 8) scPieces.nd rfl (.inl rfl) pe_dnewK)
    (pss_cons (ps_for PassesOwn.never rfl (pi_enum (by rfl) m_enumerate (pa_cons (pv 2) pa_nil)) (pg_any rfl (pgs_cons (pg_name (i := 9) scPieces.nd rfl (.inl rfl)) (pgs_cons (pg_name (i := 10) scPieces.nd rfl (.inl rfl)) pgs_nil)))
    (pss_cons (ps_if (pt_cmp (pc_dnotin (hu_of hr) (pv 10) (pv 8))) (pss_one (ps_dput (hu_of hr) (pv 8) (pv 10) (pe_lst pa_nil) rfl)) pss_nil)
    (pss_one (ps_expr (pe_bm PySem.F.plainAttrs_list PySem.F.slot_list_append PySem.F.type_list_append mt_append (pe_dget (hu_of hr) (pv 8) (pv 10) (fun _ _ => rfl)) (pa_cons (pv 9) pa_nil))))))
    (pss_one (ps_ret (pe_lock (pe_lc (own := [("basins", 11)]) (g := gName 11) (tt := tYes) rfl scPieces.nd (pi_values (pv 8)) (blkOk_by (own := [("basins", 11)]) (N := nPieces) (sc := defScope sPieces) (by decide +kernel)) (fun _ _ _ _ _ => (pg_name (i := 11) scPieces.nd rfl (.inl rfl))) (fun _ _ _ _ _ => pts_nil) (fun _ _ _ _ _ => pe_hide (pe_callTy (r := rTupA K) call_tupleA rfl m_tuple boot_tuple (pa_cons (pv 11) pa_nil))))))))))), ?_⟩
  generalize hrd : isRed w = r at q
  have okE := okEnd okc r
  have hn : 0 ≤ basW r c ∧ basW r c ≤ 100 := by
    have := okc.r1; have := okc.r2; have := okc.b1; have := okc.b2
    cases r with
    | true => show 0 ≤ c.r ∧ c.r ≤ 100; omega
    | false => show 0 ≤ c.b ∧ c.b ≤ 100; omega
  generalize hN : (basW r c).toNat = n at q okE
  have hN' : basW r c = (n : Int) := by omega
  have hn2 : n ≤ 100 := by omega
  -- marks = list(range(..))
  refine ⟨_, rfl, _, rfl, .ref a, w, c, rfl, hc0, _, rfl, ?_⟩
  rw [hrd, hN']
  refine ⟨RgOk.of_le (by omega) (by omega) (by omega) (by omega), fun m nm => ?_⟩
  have erg : rgV 0 (n : Int) = (rng n).map V.int := by
    unfold rgV rng
    rw [List.map_map]
    have e2 : ((n : Int) - 0).toNat = n := by omega
    rw [e2]
    exact List.map_congr_left fun i _ => by show V.int (0 + (i : Int)) = V.int (i : Int); rw [Int.zero_add]
  rw [erg]
  have s1 : Same H (upd H m (.lst ((rng n).map V.int))) := same_new nm
  refine at_g (σ' := [some (.ref a), some (.str w), some (.ref m), none, none, none, none, none, none, none, none, none]) rfl ?_
  -- the locks
  refine ⟨_, rfl, a, _, _, _, rfl, rfl, Same.sq2 s1 ha, rfl, g, vs, rfl, Same.sq2 s1 hg, fun J wk => for_it wk (fun i σ H3 => ∃ (m : Addr) (y3 y4 y5 y6 y7 y10 : Option V), σ = [some (.ref a), some (.str w), some (.ref m), y3, y4, y5, y6, y7, none, none, y10, none] ∧ Same H H3 ∧ H m = none ∧ H3 m = some (.lst ((((prsW r c).take i).foldl rel (rng n)).map V.int)))
    ⟨m, none, none, none, none, none, none, rfl, s1, nm, upd_same⟩ (fun i σ H3 _ h => ?_) (fun i x σ H3 H4 hi h hy => ?_) (fun σ H3 h => ?_)⟩
  · obtain ⟨_, _, _, _, _, _, _, _, sm, _⟩ := h
    exact ⟨fun _ _ => sm.seq (by rcases hg with z | z; exact z; rename_i nt _; exact absurd (Same.tup s1 z) nt), fun z => by
      rcases z with (z | ⟨o, z⟩) | z
      · by_cases gm : g = m
        · rw [gm, upd_same] at z; cases z
        · rw [upd_ne gm] at z; exact .inl (.inl (sm _ _ z))
      · by_cases gm : g = m
        · rw [gm, upd_same] at z; cases z
        · rw [upd_ne gm] at z; exact .inl (.inr ⟨o, sm _ _ z⟩)
      · exact .inr z⟩
  · obtain ⟨m, y3, y4, y5, y6, y7, y10, rfl, sm, nm, em⟩ := h
    obtain ⟨rfl, hx⟩ := hy
    obtain ⟨l, t, el, rfl, ht⟩ := hv i x hx
    have ep : (prsW r c)[i]? = some (endW r l) := by unfold prsW; rw [List.getElem?_map, el]; rfl
    generalize hms : ((prsW r c).take i).foldl rel (rng n) = ms at em
    have mlen : ms.length = n := by rw [← hms, fold_len, rng_len]
    obtain ⟨⟨b0, b1⟩, d0, d1⟩ := okE _ (List.mem_of_getElem? ep)
    refine ⟨_, rfl, _, rfl, t, w, l, rfl, Same.sq2 sm ht, fun p np => ?_⟩
    rw [hrd]
    have sp : Same H4 (upd H4 p (.tup (prV (endW r l)))) := same_new np
    refine ⟨p, _, rfl, .inr (.inl (.inl upd_same)), rfl, _, _, rfl, _, _, rfl, rfl, ?_⟩
    refine at_s (σ' := [some (.ref a), some (.str w), some (.ref m), some (.ref t), some (.int (endW r l).1), some (.int (endW r l).2), y6, y7, none, none, y10, none]) rfl ?_
    have em2 := sp _ _ em
    have g1 : atI (ms.map V.int) (endW r l).1 = some (.int (mkOf ms (endW r l).1)) := atI_int b0 (by rw [List.getElem?_map, mkOf_get b0 (by rw [mlen]; exact b1)]; rfl)
    have g2 : atI (ms.map V.int) (endW r l).2 = some (.int (mkOf ms (endW r l).2)) := atI_int d0 (by rw [List.getElem?_map, mkOf_get d0 (by rw [mlen]; exact d1)]; rfl)
    refine ⟨_, rfl, _, rfl, m, _, _, _, rfl, rfl, .inl (SqL.of em2), g1, _, rfl, _, rfl, m, _, _, _, rfl, rfl, .inl (SqL.of em2), g2, (by show 2 ≤ sizeLine; decide), fun p2 np2 => ?_⟩
    have sp2 := sp.trans (same_new np2 (o := .tup [.int (mkOf ms (endW r l).1), .int (mkOf ms (endW r l).2)]))
    refine ⟨p2, _, rfl, .inr (.inl (.inl upd_same)), rfl, _, _, rfl, _, _, rfl, rfl, ?_⟩
    refine at_s (σ' := [some (.ref a), some (.str w), some (.ref m), some (.ref t), some (.int (endW r l).1), some (.int (endW r l).2), some (.int (mkOf ms (endW r l).1)), some (.int (mkOf ms (endW r l).2)), none, none, y10, none]) rfl ?_
    have em3 := sp2 _ _ em
    refine ⟨_, rfl, m, ms.map V.int, rfl, .inl (SqL.of em3), fun J wk => lc_map wk Same (fun a b => a.trans b) (fun i y F => ∃ z, (rel ms (endW r l))[i]? = some z ∧ y = .int z) (fun i y A B s p => p) (by rw [List.length_map, mlen]; exact small1000 (by omega)) (Same.refl _) (fun F D acc sF nF => ?_) (fun j x D acc F H' hj nD sF nF hy B hB => ?_) (fun D ys F nD sF nF hyl hR => ?_)⟩
    · have sD : Same _ (upd F D (.lst acc)) := sF.trans (same_new nF)
      exact ⟨fun _ z => sD.seq z, fun z => Same.tup sD z⟩
    · obtain ⟨rfl, hx⟩ := hy
      have hj' : j < ms.length := by rw [List.length_map] at hj; exact hj
      rw [List.getElem?_map, List.getElem?_eq_getElem hj'] at hx
      cases hx
      have er : (rel ms (endW r l))[j]? = some (if ms[j] = mkOf ms (endW r l).2 then mkOf ms (endW r l).1 else ms[j]) := by
        unfold rel
        rw [List.getElem?_map, List.getElem?_eq_getElem hj']; rfl
      refine hB _ F rfl nF fun Qt hq => ?_
      refine ⟨_, rfl, _, rfl, rfl, _, rfl, ite2 (fun e => ?_) (fun e => ?_)⟩
      · have e' : ms[j] = mkOf ms (endW r l).2 := V.int.inj (of_decide_eq_true e)
        rw [if_pos e'] at er
        exact ⟨_, rfl, hq _ _ (Same.refl _) ⟨_, er, rfl⟩⟩
      · have e' : ¬ ms[j] = mkOf ms (endW r l).2 := fun z => e (decide_eq_true (by rw [z]))
        rw [if_neg e'] at er
        exact ⟨_, rfl, hq _ _ (Same.refl _) ⟨_, er, rfl⟩⟩
    · have ey : ys = (rel ms (endW r l)).map V.int := ints_of_eq (by rw [hyl, List.length_map, rel_len]) hR
      have sD : Same H4 (upd F D (.lst ys)) := sp2.trans (sF.trans (same_new nF))
      refine ⟨D, _, _, _, _, _, _, rfl, sm.trans sD, sm.free (sp2.free nD), ?_⟩
      rw [upd_same, ey, fold_take ep, hms]
  · obtain ⟨m, y3, y4, y5, y6, y7, y10, rfl, sm, nm, em⟩ := h
    have etk : (prsW r c).take vs.length = prsW r c := by
      rw [List.take_of_length_le]
      unfold prsW
      rw [List.length_map, hl]; exact Nat.le_refl _
    rw [etk] at em
    have em' : H3 m = some (.lst ((marksOf n (prsW r c)).map V.int)) := em
    have Mk := marks_ok okE
    unfold piecesOf at q
    generalize marksOf n (prsW r c) = ms at em' Mk q
    have mlen : ms.length = n := Mk.len
    -- members = {}
    refine fun d nd => ?_
    have s2 : Same H3 (upd H3 d (.dK [])) := same_new nd
    refine at_g (σ' := [some (.ref a), some (.str w), some (.ref m), y3, y4, y5, y6, y7, some (.ref d), none, y10, none]) rfl ?_
    have hmd : m ≠ d := ne_of_none em' nd
    refine ⟨_, rfl, m, ms.map V.int, rfl, SqL.of (by rw [upd_ne hmd]; exact em'), for_it (walk_enum (xs := ms.map V.int)) (fun i σ H5 => ∃ (G : G3) (y9 y10 : Option V), σ = [some (.ref a), some (.str w), some (.ref m), y3, y4, y5, y6, y7, some (.ref d), y9, y10, none] ∧ Same H3 H5 ∧ Mem H5 d G ∧ grOf G = grpOf ms i ∧ G.length ≤ i ∧ (∀ t ∈ G, H3 t.2.2 = none) ∧ ∀ t ∈ G, t.2.1.length ≤ i)
      ⟨[], none, y10, rfl, s2, ⟨upd_same, fun t ht => by simp at ht, List.Pairwise.nil⟩, rfl, Nat.le_refl _, fun t ht => by simp at ht, fun t ht => by simp at ht⟩ (fun i σ H5 _ h => ?_) (fun i x σ H5 H6 hi h hy => ?_) (fun σ H5 h => ?_)⟩
    · obtain ⟨_, _, _, _, sm5, _⟩ := h
      exact SqL.of (sm5 _ _ em')
    · obtain ⟨G, y9, y10, rfl, sm5, M, eG, lG, nG, wG⟩ := h
      obtain ⟨T, x1, x2, rfl, nT, rfl, e1, e2⟩ := hy
      have hi' : i < ms.length := by rw [List.length_map] at hi; exact hi
      have e1' : x1 = .int (i : Nat) := (Option.some.inj e1).symm
      have e2' : x2 = .int (mkOf ms (i : Int)) := by
        have e3 : (ms.map V.int)[i]? = some x2 := e2
        rw [List.getElem?_map] at e3
        have e4 := mkOf_get (ms := ms) (j := (i : Int)) (by omega) (by omega)
        have e5 : ((i : Int)).toNat = i := by omega
        rw [e5] at e4
        rw [e4] at e3
        exact (Option.some.inj e3).symm
      subst e1' e2'
      have sT : Same H5 (upd H5 T (.tup [.int (i : Nat), .int (mkOf ms (i : Int))])) := same_new nT
      refine ⟨T, _, rfl, .inr (.inl (.inl upd_same)), rfl, _, _, rfl, _, _, rfl, rfl, ?_⟩
      refine at_s (σ' := [some (.ref a), some (.str w), some (.ref m), y3, y4, y5, y6, y7, some (.ref d), some (.int (i : Nat)), some (.int (mkOf ms (i : Int))), none]) rfl ?_
      have MT : Mem (upd H5 T (.tup [.int (i : Nat), .int (mkOf ms (i : Int))])) d G := ⟨sT _ _ M.ed, fun t ht => sT _ _ (M.el t ht), M.nd⟩
      generalize hT6 : upd H5 T (.tup [.int (i : Nat), .int (mkOf ms (i : Int))]) = H6 at sT MT
      have s36 := sm5.trans sT
      have hdn : H3 d = none := nd
      -- the append
      have fin : ∀ (H7 : Hp) (G1 : G3),
          Same H3 H7 → Mem H7 d G1 → mkOf ms (i : Int) ∈ G1.map (·.1) → grOf (gapp G1 (mkOf ms (i : Int)) (i : Int)) = grpOf ms (i + 1) → G1.length ≤ i + 1 → (∀ t ∈ G1, H3 t.2.2 = none) → (∀ t ∈ G1, t.2.1.length ≤ i) →
          ∃ (b : Addr) (l : List Int), DGet H7 d (.int (mkOf ms (i : Int))) (some (.ref b)) ∧ H7 b = some (.lst (l.map V.int)) ∧ (l.map V.int).length < sizeLine ∧ ∃ (G : G3) (y9 y10 : Option V), [some (.ref a), some (.str w), some (.ref m), y3, y4, y5, y6, y7, some (.ref d), some (.int (i : Nat)), some (.int (mkOf ms (i : Int))), none] = [some (.ref a), some (.str w), some (.ref m), y3, y4, y5, y6, y7, some (.ref d), y9, y10, none] ∧ Same H3 (upd H7 b (.lst (l.map V.int ++ [.int (i : Nat)]))) ∧ Mem (upd H7 b (.lst (l.map V.int ++ [.int (i : Nat)]))) d G ∧ grOf G = grpOf ms (i + 1) ∧ G.length ≤ i + 1 ∧ (∀ t ∈ G, H3 t.2.2 = none) ∧ ∀ t ∈ G, t.2.1.length ≤ i + 1 := by
        intro H7 G1 s37 M7 hk eg lg ng wg
        obtain ⟨b, l, ev, hbl, eb, hM⟩ := M7.app hk
        obtain ⟨t, ht, et⟩ := List.mem_map.mp hbl
        have ebt : t.2.2 = b := (Prod.mk.inj (Prod.mk.inj et).2).2
        have elt : t.2.1 = l := (Prod.mk.inj (Prod.mk.inj et).2).1
        have hwl : l.length ≤ i := by rw [← elt]; exact wg t ht
        have hbn : H3 b = none := by rw [← ebt]; exact ng t ht
        have dg : DGet H7 d (.int (mkOf ms (i : Int))) (valV (kvsOf G1) (Sum.inl (mkOf ms (i : Int)) : Key)) := DGet.k (k := Sum.inl (mkOf ms (i : Int))) M7.ed
        rw [ev] at dg
        refine ⟨b, l, dg, eb, by rw [List.length_map]; exact small1000 (by omega), ?_⟩
        have hlen : (gapp G1 (mkOf ms (i : Int)) (i : Int)).length = G1.length := by
          have := congrArg List.length (adr_gapp G1 (mkOf ms (i : Int)) (i : Int))
          rw [List.length_map, List.length_map] at this; exact this
        have hadr : ∀ u ∈ gapp G1 (mkOf ms (i : Int)) (i : Int), ∃ t ∈ G1, t.2.2 = u.2.2 := fun u hu => by
          have : u.2.2 ∈ (gapp G1 (mkOf ms (i : Int)) (i : Int)).map (·.2.2) := List.mem_map.mpr ⟨u, hu, rfl⟩
          rw [adr_gapp] at this
          obtain ⟨t, ht, e⟩ := List.mem_map.mp this
          exact ⟨t, ht, e⟩
        have hls : ∀ (g : G3) (m x : Int), (∀ t ∈ g, t.2.1.length ≤ i) → ∀ u ∈ gapp g m x, u.2.1.length ≤ i + 1 := by
          intro g m x
          induction g with
          | nil => intro _ u hu; simp [gapp] at hu
          | cons t r ih =>
            intro hg u hu
            unfold gapp at hu
            by_cases e : t.1 = m
            · rw [if_pos e] at hu
              rcases List.mem_cons.mp hu with z | z
              · rw [z]
                show (t.2.1 ++ [x]).length ≤ i + 1
                rw [List.length_append]
                have := hg t (List.mem_cons_self ..)
                simp; omega
              · have := hg u (List.mem_cons_of_mem _ z); omega
            · rw [if_neg e] at hu
              rcases List.mem_cons.mp hu with z | z
              · rw [z]; have := hg t (List.mem_cons_self ..); omega
              · exact ih (fun t ht => hg t (List.mem_cons_of_mem _ ht)) u z
        refine ⟨_, _, _, rfl, fun c o e => ?_, hM _, eg, by rw [hlen]; exact lg, fun u hu => ?_, hls G1 _ _ wg⟩
        · rw [upd_ne (ne_of_none e hbn)]; exact s37 _ _ e
        · obtain ⟨t, ht, e⟩ := hadr u hu
          rw [← e]; exact ng t ht
      refine ⟨_, rfl, _, rfl, d, _, rfl, DGet.k (k := Sum.inl (mkOf ms (i : Int))) MT.ed, _, rfl, ?_⟩
      cases ev : valV (kvsOf G) (Sum.inl (mkOf ms (i : Int)) : Key) with
      | none =>
        have hk := key_iff.mp ev
        refine iteT ?_
        refine ⟨(by show 0 ≤ sizeLine; decide), fun b nb => ?_⟩
        have sb : Same H6 (upd H6 b (.lst [])) := same_new nb
        refine ⟨_, rfl, _, rfl, d, _, rfl, DPut.k (k := Sum.inl (mkOf ms (i : Int))) (sb _ _ MT.ed) ?_, ?_⟩
        · unfold kvsOf; rw [List.length_map]; exact small1000 (by omega)
        rw [putK_new ev]
        have hbd : b ≠ d := fun e => by rw [e, MT.ed] at nb; cases nb
        have key : ∃ (b' : Addr) (l : List Int), _ := fin (upd (upd H6 b (.lst [])) d (.dK (kvsOf G ++ [(Sum.inl (mkOf ms (i : Int)), .ref b)]))) (G ++ [(mkOf ms (i : Int), [], b)])
          (by
          intro c o e
          rw [upd_ne (ne_of_none e hdn)]; exact sb _ _ (s36 _ _ e))
          ⟨(by
          rw [upd_same]; unfold kvsOf; rw [List.map_append]; rfl), (by
          intro t ht
          rcases List.mem_append.mp ht with ht | ht
          · have hne : t.2.2 ≠ d := fun e => by have z := MT.el t ht; rw [e, MT.ed] at z; cases z
            rw [upd_ne hne]; exact sb _ _ (MT.el t ht)
          · rw [List.mem_singleton.mp ht]
            show upd _ d _ b = _
            rw [upd_ne hbd, upd_same]; rfl), (by
          rw [List.map_append]
          refine List.nodup_append.mpr ⟨MT.nd, by simp, fun x hx y hy e => ?_⟩
          have e2 : y = b := by simpa using hy
          obtain ⟨t, ht, et⟩ := List.mem_map.mp hx
          have z := MT.el t ht
          rw [et, e, e2, nb] at z; cases z)⟩
          (by
          rw [List.map_append]; exact List.mem_append_right _ (by simp)) (by
          rw [gr_gnew _ _ hk, eG]; rfl) (by
          rw [List.length_append]; simp; exact lG) (by
          intro t ht
          rcases List.mem_append.mp ht with ht | ht
          · exact nG t ht
          · rw [List.mem_singleton.mp ht]; exact s36.free nb) (by
          intro t ht
          rcases List.mem_append.mp ht with ht | ht
          · exact wG t ht
          · rw [List.mem_singleton.mp ht]; exact Nat.zero_le _)
        obtain ⟨b', l, dg, eb, hz, hN⟩ := key
        exact ⟨_, rfl, _, rfl, d, .ref b', rfl, dg, .inl ⟨rfl, _, SqL.of eb⟩, _, rfl, b', _, _, rfl, rfl, eb, hz, hN⟩
      | some z =>
        have hk : mkOf ms (i : Int) ∈ G.map (·.1) := Classical.byContradiction fun c => by rw [key_iff.mpr c] at ev; cases ev
        refine iteF ?_
        obtain ⟨b, l, dg, eb, hz, hN⟩ := fin _ G s36 MT hk (by rw [gr_gapp _ hk, eG]; rfl) (by omega) nG wG
        exact ⟨_, rfl, _, rfl, d, .ref b, rfl, dg, .inl ⟨rfl, _, SqL.of eb⟩, _, rfl, b, _, _, rfl, rfl, eb, hz, hN⟩
    · obtain ⟨G, y9, y10, rfl, sm5, M, eG, lG, nG, wG⟩ := h
      have lms : (ms.map V.int).length = n := by rw [List.length_map, mlen]
      rw [lms] at eG lG
      refine ⟨d, _, M.ed, trivial, fun od => ?_⟩
      have nG5 : ∀ t ∈ G, t.2.2 ≠ d := fun t ht e => by have z := M.el t ht; rw [e, M.ed] at z; cases z
      refine ⟨_, rfl, d, od, kvsOf G, rfl, upd_same, lc_map walk_values Same (fun a b => a.trans b) (fun i y F => ∃ t, G[i]? = some t ∧ Dp K F y (tupI t.2.1)) (fun i y A B s ⟨t, e, p⟩ => ⟨t, e, Dp.same s _ p⟩) ?_ (Same.refl _) (fun F D acc sF nF => ?_) (fun j x D acc F H' hj nD sF nF hy B hB => ?_) (fun D ys F nD sF nF hyl hR => ?_)⟩
      · unfold kvsOf; rw [List.length_map]; exact small1000 (by omega)
      · exact (sF.trans (same_new nF)) _ _ upd_same
      · obtain ⟨rfl, kk, hx⟩ := hy
        unfold kvsOf at hx
        rw [List.getElem?_map] at hx
        cases eg : G[j]? with
        | none => rw [eg] at hx; cases hx
        | some t =>
          rw [eg] at hx
          cases hx
          have ht := List.mem_of_getElem? eg
          have eF : F t.2.2 = some (.lst (t.2.1.map V.int)) := sF _ _ (by rw [upd_ne (nG5 t ht)]; exact M.el t ht)
          refine hB _ F rfl nF fun Qt hq => ?_
          refine ⟨_, rfl, t.2.2, _, rfl, .inl ⟨SqL.of eF, fun p np => hq _ _ (same_new np) ⟨t, eg, .tup (.inl (.inl upd_same)) (dp_ints _)⟩⟩⟩
      · have eD : upd F D (.lst ys) d = some (.frz od (.dK (kvsOf G))) := (sF.trans (same_new nF)) _ _ upd_same
        refine ⟨eD, ?_⟩
        have hDd : D ≠ d := fun e => by rw [e, upd_same] at nD; cases nD
        have hDn : H5 D = none := by rw [upd_ne hDd] at nD; exact nD
        have tp : Tp F (upd (upd F D (.lst ys)) d (.dK (kvsOf G))) := by
          have a1 := Tp.of (same_new nF (o := .lst ys))
          refine a1.trans ⟨fun b ys e => ?_, fun b o ys e => ?_⟩
          · rw [upd_ne (fun z => by rw [z, eD] at e; cases e)]; exact e
          · rw [upd_ne (fun z => by rw [z, eD] at e; cases e)]; exact e
        refine q D ys _ (fun c o e => ?_) (sm.free (sm5.free hDn)) (by rw [upd_ne hDd, upd_same]) ?_
        · have hcd : c ≠ d := ne_of_none (sm _ _ e) nd
          rw [upd_ne hcd]
          exact (same_new nF) _ _ (sF _ _ (by rw [upd_ne hcd]; exact sm5 _ _ (sm _ _ e)))
        · have key : ∀ {ys : List V} {G : G3}, ys.length = G.length → (∀ (i : Nat) y, ys[i]? = some y → ∃ t, G[i]? = some t ∧ Dp K F y (tupI t.2.1)) → DpAll K F ys (((grOf G).map (·.2)).map tupI) := by
            intro ys
            induction ys with
            | nil =>
              intro G h _
              cases G with
              | nil => exact .nil
              | cons _ _ => simp at h
            | cons y ys ih =>
              intro G h hi
              cases G with
              | nil => simp at h
              | cons t G =>
                obtain ⟨t', e, p⟩ := hi 0 y rfl
                have e' : t = t' := by simpa using e
                subst e'
                exact .cons p (ih (by simpa using h) fun i z q => by simpa using hi (i + 1) z (by simpa using q))
          have hlen : ys.length = G.length := by rw [hyl]; unfold kvsOf; rw [List.length_map]
          have dpa := key hlen hR
          rw [eG] at dpa
          have noT : ∀ l : List (List Int), noLs (l.map tupI) = true := by
            intro l
            induction l with
            | nil => rfl
            | cons a l ih =>
              have : ∀ b : List Int, noLs (b.map PyData.int) = true := by
                intro b
                induction b with
                | nil => rfl
                | cons x b ih => rw [List.map_cons, noLs, ih]; rfl
              rw [List.map_cons, noLs, ih]
              show (noLs (a.map PyData.int) && true) = true
              rw [this]; rfl
          exact DpAll.tp tp _ (noT _) dpa
end
end XL
namespace XL
open PySem PySem.Spec PyProof.Rows L2
abbrev sHung : Stmt := topS 13
theorem boot_sorted' : bootBuiltins "sorted" = some (.builtin "sorted") := by decide +kernel
theorem inV_ints (m : Int) : ∀ ns : List Int, inV (.int m) (ns.map V.int) = decide (m ∈ ns)
  | [] => rfl
  | n :: ns => by
    have ih := inV_ints m ns
    unfold inV at ih ⊢
    rw [List.map_cons, List.any_cons, ih]
    by_cases e : n = m
    · subst e
      rw [show eqV (.int n) (.int n) = true by simp [eqV]]
      simp
    · rw [show eqV (.int n) (.int m) = false by simp [eqV, e]]
      by_cases h : m ∈ ns
      · rw [decide_eq_true h, decide_eq_true (List.mem_cons_of_mem _ h)]; rfl
      · rw [decide_eq_false h, decide_eq_false (fun z => by rcases List.mem_cons.mp z with q | q; exact e q.symm; exact h q)]; rfl
theorem flat_ints : ∀ ns : List Int, (ns.map V.int).all flatV = true
  | [] => rfl
  | n :: ns => by rw [List.map_cons, List.all_cons, flat_ints ns]; rfl
theorem hstep_len (f : List Int) (p : Int × Int) : (hstep f p).length ≤ f.length + 1 := by
  unfold hstep
  split
  · rw [List.length_append]; simp
  · omega
theorem hfold_len : ∀ (es : Prs) (f : List Int), (es.foldl hstep f).length ≤ f.length + es.length
  | [], f => by simp
  | p :: es, f => by
    have h1 := hfold_len es (hstep f p)
    have h2 := hstep_len f p
    rw [List.foldl_cons, List.length_cons]; omega
theorem hturns_len (es : Prs) (f : List Int) : ∀ k, (hturns es k f).length ≤ f.length + k * es.length
  | 0 => by show f.length ≤ _; omega
  | k + 1 => by
    have h1 := hfold_len es (hturns es k f)
    have h2 := hturns_len es f k
    have h3 : (k + 1) * es.length = k * es.length + es.length := Nat.succ_mul _ _
    show (es.foldl hstep (hturns es k f)).length ≤ _
    omega
theorem fold_fd {es : Prs} {b : Int} : ∀ {fs : Prs} {f : List Int}, (∀ p ∈ fs, p ∈ es) → Fd es b f → Fd es b (fs.foldl hstep f)
  | [], _, _, h => h
  | p :: fs, f, hs, h => fold_fd (fs := fs) (fun q hq => hs q (List.mem_cons_of_mem _ hq)) (h.step (hs p (List.mem_cons_self ..)))
theorem turns_fd (es : Prs) (b : Int) : ∀ k, Fd es b (hturns es k [b])
  | 0 => Fd.start es b
  | k + 1 => fold_fd (fun p hp => hp) (turns_fd es b k)
section
variable {P : Program} {w : World} {K : PySem.W.Frag} {mg : Str → Option Value} {base : Heap}
/-- pairs as a list of tuples -/
structure PrAt (K : PySem.W.Frag) (H : Hp) (a : Addr) (es : Prs) : Prop where
  ex : ∃ vs : List V, SqL K H a vs ∧ vs.length = es.length ∧ ∀ (i : Nat) u, vs[i]? = some u → ∃ t p, u = .ref t ∧ es[i]? = some p ∧ SqT K H t (prV p)
theorem PrAt.same {H H' : Hp} {a : Addr} {es : Prs} (h : PrAt K H a es) (s : Same H H') : PrAt K H' a es := by
  obtain ⟨vs, h1, h2, h3⟩ := h.ex
  refine ⟨vs, s.seq h1, h2, fun i u hu => ?_⟩
  obtain ⟨t, p, e1, e2, e3⟩ := h3 i u hu
  exact ⟨t, p, e1, e2, Same.tup s e3⟩
abbrev nHung : List Str := ["_law_pairs", "_law_basin", "_law_found", "_law_turn", "_law_mine", "_law_yours"]
theorem scHung : FnScope nHung ["_law_pairs", "_law_basin"] (defScope sHung) := ⟨rfl, rfl, rfl, by decide +kernel, rfl, by decide +kernel, by decide +kernel⟩
def spHung (K : PySem.W.Frag) : Sp := fun vs H Q _ => ∃ (a : Addr) (b : Int) (es : Prs), vs = [.ref a, .int b] ∧ PrAt K H a es ∧ es.length ≤ 100 ∧
  ∀ (p : Addr) (ns : List Int) (H' : Hp), Same H H' → H p = none → H' p = some (.tup (ns.map V.int)) → ns.Perm (hturns es (es.length + 1) [b]) → ns.Pairwise (· ≤ ·) → Q (.ref p) H'
theorem hfold_take {es : Prs} {f : List Int} {i : Nat} {p : Int × Int} (h : es[i]? = some p) : (es.take (i + 1)).foldl hstep f = hstep ((es.take i).foldl hstep f) p := by
  rw [List.take_succ, h, List.foldl_append]; rfl
theorem ok_hung {f : Addr} {fd : FuncData} {k : Nat} (F : Fun K "_law_hung" "_law_hung" sHung f fd) (m_range : mg "range" = none) (m_len : mg "len" = none) (m_tuple : mg "tuple" = none) (m_sorted : mg "sorted" = none) : FnOk P w K mg base CX0 (k + 1) f fd ["_law_pairs", "_law_basin"] (spHung K) := by
  refine F.ok scHung (fun vs H Q E h => ?_) (fun cdv A outer s H vs Q E hr h => ?_)
  · obtain ⟨a, b, es, rfl, _⟩ := h
    rfl
  obtain ⟨a, b, es, rfl, hp, hl, q⟩ := h
  obtain ⟨vs, hv, hvl, hvs⟩ := hp.ex
  refine ⟨_, (pss_cons (ps_set (i := 2) scHung.nd rfl (.inl rfl) (pe_lst (pa_cons (pv 1) pa_nil)))
    (pss_cons (ps_for PassesOwn.never rfl (pi_range1 rfl m_range (pa_cons (pe_op op_add (pe_callB (r := rLenA K) call_lenA rfl m_len PySem.boot_len (pa_cons (pv 0) pa_nil)) pe_int) pa_nil)) (pg_name (i := 3) scHung.nd rfl (.inl rfl))
    (pss_one (ps_for PassesOwn.never rfl (pi_seq (pv 0)) (pg_any rfl (pgs_cons (pg_name (i := 4) scHung.nd rfl (.inl rfl)) (pgs_cons (pg_name (i := 5) scHung.nd rfl (.inl rfl)) pgs_nil)))
    (pss_one (ps_if (pt_cmpR op_ne (pe_cmpR op_in_seq (pv 4) (pv 2) (by rfl)) (pe_cmpR op_in_seq (pv 5) (pv 2) (by rfl)) (nomark _)) (pss_one (ps_set (i := 2) scHung.nd rfl (.inl rfl) (pe_op op_cat (pv 2) (pe_lst (pa_cons (pe_ifExp (pt_cmpR op_in_seq (pv 4) (pv 2) (by rfl)) (pv 5) (pv 4)) pa_nil))))) pss_nil)))))
    (pss_one (ps_ret (pe_callTy (r := rTupA K) call_tupleA rfl m_tuple boot_tuple (pa_cons (pe_callB cr_sortedI rfl m_sorted boot_sorted' (pa_cons (pv 2) pa_nil)) pa_nil)))))), ?_⟩
  refine ⟨_, rfl, (by show 1 ≤ sizeLine; decide), fun c nc => ?_⟩
  have s1 : Same H (upd H c (.lst [.int b])) := same_new nc
  refine at_g (σ' := [some (.ref a), some (.int b), some (.ref c), none, none, none]) rfl ?_
  refine ⟨_, rfl, a, vs, rfl, .inl (s1.seq hv), _, _, rfl, rfl, _, rfl, by omega, by omega, for_it walk_range (fun i σ H3 => ∃ (c : Addr) (y3 y4 y5 : Option V), σ = [some (.ref a), some (.int b), some (.ref c), y3, y4, y5] ∧ Same H H3 ∧ H c = none ∧ H3 c = some (.lst ((hturns es i [b]).map V.int)))
    ⟨c, none, none, none, rfl, s1, nc, upd_same⟩ (fun _ _ _ _ _ => trivial) (fun i x σ H3 H4 hi h hy => ?_) (fun σ H3 h => ?_)⟩
  · obtain ⟨c, y3, y4, y5, rfl, sm, nc, ec⟩ := h
    obtain ⟨rfl, rfl⟩ := hy
    have hi2 : i ≤ es.length := by omega
    refine at_g (σ' := [some (.ref a), some (.int b), some (.ref c), some (.int (0 + i)), y4, y5]) rfl ?_
    refine ⟨_, rfl, a, vs, rfl, .inl (sm.seq hv), fun J wk => for_it wk (fun j σ H5 => ∃ (c : Addr) (y4 y5 : Option V), σ = [some (.ref a), some (.int b), some (.ref c), some (.int (0 + i)), y4, y5] ∧ Same H4 H5 ∧ H c = none ∧ H5 c = some (.lst (((es.take j).foldl hstep (hturns es i [b])).map V.int)))
      ⟨c, y4, y5, rfl, Same.refl _, nc, ec⟩ (fun j σ H5 _ h => ?_) (fun j x σ H5 H6 hj h hy => ?_) (fun σ H5 h => ?_)⟩
    · obtain ⟨_, _, _, _, s5, _⟩ := h
      exact ⟨fun _ z => s5.seq z, fun z => Same.tup s5 z⟩
    · obtain ⟨c, y4, y5, rfl, s5, nc, ec⟩ := h
      obtain ⟨rfl, hx⟩ := hy
      obtain ⟨t, p, rfl, ep, ht⟩ := hvs j x hx
      generalize hfs : (es.take j).foldl hstep (hturns es i [b]) = fs at ec
      have hlen : fs.length ≤ 20000 := by
        have h1 := hfold_len (es.take j) (hturns es i [b])
        have h2 := hturns_len es [b] i
        have h3 : (es.take j).length ≤ es.length := by rw [List.length_take]; omega
        have h4 : i * es.length ≤ 100 * 100 := Nat.mul_le_mul (by omega) hl
        rw [hfs] at h1
        simp only [List.length_singleton] at h2
        omega
      refine ⟨t, prV p, rfl, .inr (Same.tup (sm.trans s5) ht), rfl, _, _, rfl, _, _, rfl, rfl, ?_⟩
      refine at_s (σ' := [some (.ref a), some (.int b), some (.ref c), some (.int (0 + i)), some (.int p.1), some (.int p.2)]) rfl ?_
      refine ⟨_, rfl, _, rfl, c, _, rfl, .inl (SqL.of ec), rfl, flat_ints _, ?_⟩
      refine ⟨_, rfl, _, rfl, c, _, rfl, .inl (SqL.of ec), rfl, flat_ints _, rfl, _, rfl, ?_⟩
      show (if (!decide (V.bl (inV (.int p.1) (fs.map V.int)) = V.bl (inV (.int p.2) (fs.map V.int)))) = true then _ else _)
      rw [inV_ints, inV_ints]
      by_cases e : decide (p.1 ∈ fs) = decide (p.2 ∈ fs)
      · rw [e, decide_eq_true rfl]
        refine iteF ⟨c, _, _, rfl, s5, nc, ?_⟩
        rw [hfold_take ep, hfs, ec]
        unfold hstep
        rw [if_neg (fun z => z e)]
      · have e2 : decide (V.bl (decide (p.1 ∈ fs)) = V.bl (decide (p.2 ∈ fs))) = false := decide_eq_false fun z => e (V.bl.inj z)
        rw [e2]
        refine iteT ?_
        have fin : ∀ z : Int, z = (if p.1 ∈ fs then p.2 else p.1) → ∃ (H7 : Hp) , True := fun z _ => ⟨H, trivial⟩
        have go : ∀ (z : Int) (r : Addr) (Q2 : V → Hp → Prop), z = (if p.1 ∈ fs then p.2 else p.1) → H6 r = none → (∀ c2 : Addr, upd H6 r (.lst [.int z]) c2 = none → Q2 (.ref c2) (upd (upd H6 r (.lst [.int z])) c2 (.lst (fs.map V.int ++ [.int z])))) → rCat (.ref c) (.ref r) (upd H6 r (.lst [.int z])) Q2 := by
          intro z r Q2 ez nr h
          exact ⟨c, r, _, _, rfl, rfl, same_new nr _ _ ec, upd_same, by rw [List.length_map]; show fs.length + 1 ≤ sizeLine; rw [sizeLine_eq]; omega, h⟩
        have done : ∀ (z : Int) (r c2 : Addr), z = (if p.1 ∈ fs then p.2 else p.1) → H6 r = none → upd H6 r (.lst [.int z]) c2 = none → ∃ (c : Addr) (y4 y5 : Option V), [some (.ref a), some (.int b), some (.ref c2), some (.int (0 + i)), some (.int p.1), some (.int p.2)] = [some (.ref a), some (.int b), some (.ref c), some (.int (0 + i)), y4, y5] ∧ Same H4 (upd (upd H6 r (.lst [.int z])) c2 (.lst (fs.map V.int ++ [.int z]))) ∧ H c = none ∧ (upd (upd H6 r (.lst [.int z])) c2 (.lst (fs.map V.int ++ [.int z]))) c = some (.lst (((es.take (j + 1)).foldl hstep (hturns es i [b])).map V.int)) := by
          intro z r c2 ez nr nc2
          have sr : Same H6 (upd H6 r (.lst [.int z])) := same_new nr
          refine ⟨c2, _, _, rfl, s5.trans (sr.trans (same_new nc2)), sm.free (s5.free (sr.free nc2)), ?_⟩
          rw [upd_same, hfold_take ep, hfs]
          unfold hstep
          rw [if_pos e, List.map_append, ← ez]; rfl
        refine ⟨_, rfl, _, rfl, _, rfl, c, _, rfl, .inl (SqL.of ec), rfl, flat_ints _, _, rfl, ?_⟩
        show (if inV (.int p.1) (fs.map V.int) = true then _ else _)
        rw [inV_ints]
        by_cases a1 : p.1 ∈ fs
        · rw [decide_eq_true a1]
          refine iteT ⟨_, rfl, (by show 1 ≤ sizeLine; decide), fun r nr => go p.2 r _ (by rw [if_pos a1]) nr fun c2 nc2 => ?_⟩
          exact done p.2 r c2 (by rw [if_pos a1]) nr nc2
        · rw [decide_eq_false a1]
          refine iteF ⟨_, rfl, (by show 1 ≤ sizeLine; decide), fun r nr => go p.1 r _ (by rw [if_neg a1]) nr fun c2 nc2 => ?_⟩
          exact done p.1 r c2 (by rw [if_neg a1]) nr nc2
    · obtain ⟨c, y4, y5, rfl, s5, nc, ec⟩ := h
      refine ⟨c, _, y4, y5, rfl, sm.trans s5, nc, ?_⟩
      rw [ec, hvl, List.take_of_length_le (Nat.le_refl _)]; rfl
  · obtain ⟨c, y3, y4, y5, rfl, sm, nc, ec⟩ := h
    have en : ((vs.length : Int) + 1).toNat = es.length + 1 := by omega
    rw [en] at ec
    refine ⟨_, rfl, c, _, rfl, SqL.of ec, fun ns d pm pw nd => ?_⟩
    refine ⟨d, _, rfl, .inl ⟨SqL.of upd_same, fun p np => ?_⟩⟩
    have sd : Same H3 (upd H3 d (.lst (ns.map V.int))) := same_new nd
    exact q p ns _ (sm.trans (sd.trans (same_new np))) (sm.free (sd.free np)) upd_same pm pw
end
end XL
namespace XL
open PySem PySem.Spec PyProof.Rows L2
abbrev sRight : Stmt := topS 14
theorem boot_set' : bootBuiltins "set" = some (.type "set") := by decide +kernel
theorem okD_ints (n : Nat) {zs : List Int} (h : zs.length ≤ 1000) : okD (n + 2) (tupI zs) := ⟨by rw [List.length_map]; exact h, fun e he => by
  obtain ⟨z, _, rfl⟩ := List.mem_map.mp he
  exact trivial⟩
theorem okD_lk (n : Nat) (l : Lk) : okD (n + 2) (lkD l) := ⟨by show 4 ≤ 1000; decide, fun d h => by
  simp only [List.mem_cons, List.not_mem_nil, or_false] at h
  rcases h with rfl | rfl | rfl | rfl <;> exact trivial⟩
theorem okD_cn (n : Nat) {c : Cn} (h : c.ls.length ≤ 1000) : okD (n + 4) (cnD c) := ⟨by show 3 ≤ 1000; decide, fun d hd => by
  simp only [List.mem_cons, List.not_mem_nil, or_false] at hd
  rcases hd with rfl | rfl | rfl
  · exact trivial
  · exact trivial
  · refine ⟨by rw [List.length_map]; exact h, fun e he => ?_⟩
    obtain ⟨l, _, rfl⟩ := List.mem_map.mp he
    exact okD_lk n l⟩
theorem ks_of {K : PySem.W.Frag} {F : Hp} {f : Nat → List Int} : ∀ {ys : List V} {i : Nat}, (∀ (j : Nat) y, ys[j]? = some y → ∃ t, y = .ref t ∧ F t = some (.tup ((f (i + j)).map V.int))) → ∃ ks : List (Addr × List Int), ys = ks.map (fun p => V.ref p.1) ∧ ks.length = ys.length ∧ (∀ p ∈ ks, F p.1 = some (.tup (p.2.map V.int))) ∧ ∀ (j : Nat) p, ks[j]? = some p → p.2 = f (i + j)
  | [], i, _ => ⟨[], rfl, rfl, fun p h => by simp at h, fun j p h => by simp at h⟩
  | y :: ys, i, h => by
    obtain ⟨t, e, et⟩ := h 0 y rfl
    obtain ⟨ks, e1, e2, e3, e4⟩ := ks_of (K := K) (F := F) (f := f) (ys := ys) (i := i + 1) fun j z q => by
      have := h (j + 1) z (by simpa using q)
      rw [show i + 1 + j = i + (j + 1) by omega]; exact this
    refine ⟨(t, f (i + 0)) :: ks, by rw [e, e1]; rfl, by simp [e2], fun p hp => ?_, fun j p hp => ?_⟩
    · rcases List.mem_cons.mp hp with z | z
      · rw [z]; exact et
      · exact e3 p z
    · cases j with
      | zero =>
        have : (t, f (i + 0)) = p := by simpa using hp
        rw [← this]
      | succ j =>
        have := e4 j p (by simpa using hp)
        rw [this, show i + 1 + j = i + (j + 1) by omega]
theorem dp_refs {K : PySem.W.Frag} {F : Hp} : ∀ {M : List (Addr × List Int)}, (∀ p ∈ M, SqT K F p.1 (p.2.map V.int)) → DpAll K F (M.map fun q => V.ref q.1) ((M.map (·.2)).map tupI)
  | [], _ => .nil
  | p :: M, h => .cons (.tup (h p (List.mem_cons_self ..)) (dp_ints _)) (dp_refs fun q hq => h q (List.mem_cons_of_mem _ hq))
section
variable {P : Program} {w : World} {K : PySem.W.Frag} {mg : Str → Option Value} {base : Heap}
abbrev nRight : List Str := ["_law_box_here", "_law_ship_way", "_law_k", "_law_tide", "_law_pairs", "_law_due", "_law_told", "_law_gate", "_law_basin"]
theorem scRight : FnScope nRight ["_law_box_here"] (defScope sRight) := ⟨rfl, rfl, rfl, by decide +kernel, rfl, by decide +kernel, by decide +kernel⟩
def spRight : Sp := fun vs H Q _ => ∃ b : Addr, vs = [.ref b] ∧ Bx H b ∧ ∀ H' : Hp, Dr b H H' → Q (.bl true) H'
theorem ok_right {f fc fh fp fs fl : Addr} {fd fdc fdh fdp fds fdl : FuncData} (F : Fun K "_law_right" "_law_right" sRight f fd)
    (C : Fns P w K mg base 7 "_law_canal" ["_law_box_here", "_law_wide", "_law_utmost"] (spCanal K) fc fdc) (Hu : Fns P w K mg base 7 "_law_hung" ["_law_pairs", "_law_basin"] (spHung K) fh fdh) (Pc : Fns P w K mg base 7 "pieces" ["canal", "water"] (spPieces K) fp fdp)
    (S : Fns P w K mg base 7 "_law_same" ["_law_found", "_law_due"] (spSame K 7) fs fds) (L : Fns P w K mg base 7 "_law_lists" ["_law_what"] (spLists K 7) fl fdl) (kb_pieces : KBinds K fdp ["canal", "water"] ["water", "canal"] g2 g2)
    (m_enumerate : mg "enumerate" = none) (m_range : mg "range" = none) (m_sorted : mg "sorted" = none) (m_set : mg "set" = none) : FnOk P w K mg base CX0 8 f fd ["_law_box_here"] spRight := by
  refine F.ok scRight (fun vs H Q E h => ?_) (fun cdv A outer s H vs Q E hr h => ?_)
  · obtain ⟨b, rfl, _⟩ := h
    rfl
  obtain ⟨b, rfl, hb, q⟩ := h
  refine ⟨_, (pss_cons (ps_set (i := 1) scRight.nd rfl (.inl rfl) (pe_fn C hr rfl (pa_cons (pv 0) (pa_cons pe_int (pa_cons pe_int pa_nil)))))
    (pss_cons (ps_for PassesOwn.never rfl (pi_enumT rfl m_enumerate (pa_cons (pe_tup (pa_cons pe_str (pa_cons pe_str pa_nil))) pa_nil)) (pg_any rfl (pgs_cons (pg_name (i := 2) scRight.nd rfl (.inr rfl)) (pgs_cons (pg_name (i := 3) scRight.nd rfl (.inl rfl)) pgs_nil)))
    (pss_cons (ps_set (i := 4) scRight.nd rfl (.inr rfl) (pe_lc (own := [("_law_gate", 7)]) (g := gName 7) (tt := tYes) rfl scRight.nd (pi_seq (pe_ix (r := rIxA K) ix_any (pv 1) pe_int (fun _ _ => rfl))) (blkOk_by (own := [("_law_gate", 7)]) (N := nRight) (sc := defScope sRight) (by decide +kernel)) (fun _ _ _ _ _ => (pg_name (i := 7) scRight.nd rfl (.inl rfl))) (fun _ _ _ _ _ => pts_nil) (fun _ _ _ _ _ => pe_hide (pe_slice (r := rSlT K) sl_tup (pv 7) (po_some (pe_op op_mul pe_int (pv 2))) (po_some (pe_op op_add (pe_op op_mul pe_int (pv 2)) pe_int))))))
    (pss_cons (ps_set (i := 5) scRight.nd rfl (.inl rfl) (pe_callB (cr_setH rfl) rfl m_sorted boot_sorted' (pa_cons (pe_callTy (cr_setOfT rfl hr.units) rfl m_set boot_set' (pa_cons (pe_lc (own := [("_law_basin", 8)]) (g := gName 8) (tt := tYes) rfl scRight.nd (pi_range1 rfl m_range (pa_cons (pe_ix (r := rIxA K) ix_any (pv 1) (pv 2) (fun _ _ => rfl)) pa_nil)) (blkOk_by (own := [("_law_basin", 8)]) (N := nRight) (sc := defScope sRight) (by decide +kernel)) (fun _ _ _ _ _ => (pg_name (i := 8) scRight.nd rfl (.inl rfl))) (fun _ _ _ _ _ => pts_nil) (fun _ _ _ _ _ => pe_hide (pe_fn Hu hr rfl (pa_cons (pv 4) (pa_cons (pv 8) pa_nil))))) pa_nil)) pa_nil)))
    (pss_cons (ps_set (i := 6) scRight.nd rfl (.inl rfl) (pe_fn Pc hr rfl (pa_cons (pv 1) (pa_cons (pv 3) pa_nil))))
    (pss_cons (ps_if (pt_not (pt_val (pe_fn S hr rfl (pa_cons (pe_lst (pa_cons (pv 6) (pa_cons (pe_callK0 Pc.ok hr rfl Pc.g Pc.k kb_pieces pass0 (pk_cons (pv 3) (pk_cons (pe_fn L hr rfl (pa_cons (pv 1) pa_nil)) pk_nil))) pa_nil))) (pa_cons (pe_lst (pa_cons (pv 5) (pa_cons (pv 5) pa_nil))) pa_nil))))) (pss_one (ps_ret pe_bl)) pss_nil)
    (pss_cons (ps_expr (pe_bm PySem.F.plainAttrs_list PySem.F.slot_list_append PySem.F.type_list_append mt_append (pv 6) (pa_cons pe_str pa_nil)))
    (pss_one (ps_if (pt_not (pt_val (pe_fn S hr rfl (pa_cons (pe_fn Pc hr rfl (pa_cons (pv 1) (pa_cons (pv 3) pa_nil))) (pa_cons (pv 5) pa_nil))))) (pss_one (ps_ret pe_bl)) pss_nil))))))))
    (pss_one (ps_ret pe_bl)))), ?_⟩
  refine ⟨_, rfl, b, 8, 10, rfl, hb, by decide, by decide, by decide, fun c v H1 okc d1 hc => ?_⟩
  have okc100 : okCn 100 100 c := ⟨okc.r1, by have := okc.r2; omega, okc.b1, by have := okc.b2; omega, by have := okc.n; omega, okc.l⟩
  have hnl : c.ls.length ≤ 10 := okc.n
  obtain ⟨a, g, vs, rfl, ha, hg, hl⟩ := cn_of hc
  refine at_g (σ' := [some (.ref b), some (.ref a), none, none, none, none, none, none, none]) rfl ?_
  refine ⟨(by show 2 ≤ sizeLine; decide), fun tp ntp => ?_⟩
  have s0 : Same H1 (upd H1 tp (.tup [.str "red", .str "blue"])) := same_new ntp
  have etp : (upd H1 tp (.tup [.str "red", .str "blue"])) tp = some (.tup [.str "red", .str "blue"]) := upd_same
  generalize upd H1 tp (.tup [.str "red", .str "blue"]) = H2 at s0 etp
  refine ⟨tp, [.str "red", .str "blue"], rfl, .inl (.inl etp), for_it (walk_enumT (xs := [.str "red", .str "blue"])) (fun i σ H3 => ∃ y2 y3 y4 y5 y6 y7 y8, σ = [some (.ref b), some (.ref a), y2, y3, y4, y5, y6, y7, y8] ∧ Same H2 H3) ⟨none, none, none, none, none, none, none, rfl, Same.refl _⟩ (fun i σ H3 _ h => ?_) (fun i x σ H3 H4 hi h hy => ?_) (fun σ H3 h => ?_)⟩
  · obtain ⟨_, _, _, _, _, _, _, _, s3⟩ := h
    exact .inl (.inl (s3 _ _ etp))
  · obtain ⟨y2, y3, y4, y5, y6, y7, y8, rfl, s3⟩ := h
    obtain ⟨T, x1, x2, rfl, nT, rfl, e1, e2⟩ := hy
    have e1' : x1 = .int (i : Nat) := (Option.some.inj e1).symm
    subst e1'
    obtain ⟨tide, r, rfl, hrd, hix, hcut⟩ : ∃ (tide : Str) (r : Bool), x2 = .str tide ∧ isRed tide = r ∧ ([V.int c.r, V.int c.b, V.ref g])[i]? = some (.int (basW r c)) ∧
        (∀ l : Lk, cutV (endsV l) (some (2 * (i : Nat) : Int)) (some (2 * (i : Nat) + 2 : Int)) = prV (endW r l)) := by
      match i, hi, e2 with
      | 0, _, e2 =>
        have e3 : V.str "red" = x2 := Option.some.inj e2
        exact ⟨"red", true, e3.symm, by decide +kernel, rfl, fun l => rfl⟩
      | 1, _, e2 =>
        have e3 : V.str "blue" = x2 := Option.some.inj e2
        exact ⟨"blue", false, e3.symm, by decide +kernel, rfl, fun l => rfl⟩
    have hnw : ∀ l : Lk, ¬ (HT.sIx (endsV l).length 0 (some (2 * (i : Nat) : Int)) = 0 ∧ HT.sIx (endsV l).length (endsV l).length (some (2 * (i : Nat) + 2 : Int)) = (endsV l).length) := by
      intro l
      match i, hi with
      | 0, _ => exact fun z => absurd (show HT.sIx 4 4 (some 2) = 4 from z.2) (by decide)
      | 1, _ => exact fun z => absurd (show HT.sIx 4 0 (some 2) = 0 from z.1) (by decide)
    have sT : Same H2 (upd H3 T (.tup [.int (i : Nat), .str tide])) := s3.trans (same_new nT)
    refine ⟨T, _, rfl, .inr (.inl (.inl upd_same)), rfl, _, _, rfl, _, _, rfl, rfl, ?_⟩
    refine at_s (σ' := [some (.ref b), some (.ref a), some (.int (i : Nat)), some (.str tide), y4, y5, y6, y7, y8]) rfl ?_
    generalize upd H3 T (.tup [.int (i : Nat), .str tide]) = H4 at sT
    have okE := okEnd okc100 r
    have hn0 : 1 ≤ basW r c ∧ basW r c ≤ 8 := by
      have := okc.r1; have := okc.r2; have := okc.b1; have := okc.b2
      cases r with
      | true => show 1 ≤ c.r ∧ c.r ≤ 8; omega
      | false => show 1 ≤ c.b ∧ c.b ≤ 8; omega
    generalize hN : (basW r c).toNat = n at okE
    have hN' : basW r c = (n : Int) := by omega
    have hn8 : n ≤ 8 := by omega
    have sa := s0.trans sT
    -- pairs
    refine ⟨_, rfl, a, _, _, _, rfl, rfl, .inr (Same.tup sa ha), rfl, g, vs, rfl, .inr (Same.tup sa hg), fun J wk => lc_map wk Same (fun a b => a.trans b) (fun j y F => ∃ t l, y = .ref t ∧ c.ls[j]? = some l ∧ F t = some (.tup (prV (endW r l)))) (fun j y A B s ⟨t, l, e, p, z⟩ => ⟨t, l, e, p, s _ _ z⟩) (by rw [DpAll.length hl, List.length_map]; exact small1000 (by omega)) (Same.refl _) (fun F D acc sF nF => ?_) (fun j x D acc F H' hj nD sF nF hy B hB => ?_) (fun pr ys F nD sF nF hyl hR => ?_)⟩
    · have sD : Same _ (upd F D (.lst acc)) := sF.trans (same_new nF)
      exact ⟨fun _ z => sD.seq z, fun z => Same.tup sD z⟩
    · obtain ⟨rfl, hx⟩ := hy
      obtain ⟨d, ed, pd⟩ := DpAll.get hl hx
      rw [List.getElem?_map] at ed
      cases el : c.ls[j]? with
      | none => rw [el] at ed; cases ed
      | some l =>
        rw [el] at ed
        cases ed
        obtain ⟨t, rfl, ht⟩ := ends_of pd
        refine hB _ F rfl nF fun Qt hq => ?_
        have hu : -(2 : Int) ^ 64 < (2 : Int) ∧ (2 : Int) < 2 ^ 64 := ⟨by decide, by decide⟩
        refine ⟨_, rfl, _, rfl, _, _, rfl, rfl, .inl hu, _, rfl, _, rfl, _, _, rfl, rfl, .inl hu, _, _, rfl, rfl, _, rfl, ?_⟩
        refine ⟨t, endsV l, rfl, Same.tup (sa.trans sF) ht, hnw l, fun p np => hq _ _ (same_new np) ⟨p, l, rfl, el, by rw [upd_same, hcut l]⟩⟩
    have hyl' : ys.length = (prsW r c).length := by rw [hyl, DpAll.length hl, List.length_map]; unfold prsW; rw [List.length_map]
    have sP : Same H4 (upd F pr (.lst ys)) := sF.trans (same_new nF)
    have hPr : PrAt K (upd F pr (.lst ys)) pr (prsW r c) := by
      refine ⟨ys, SqL.of upd_same, hyl', fun j u hu => ?_⟩
      obtain ⟨t, l, e, el, et⟩ := hR j u hu
      exact ⟨t, endW r l, e, by unfold prsW; rw [List.getElem?_map, el]; rfl, .inl (.inl (same_new nF _ _ et))⟩
    generalize upd F pr (.lst ys) = H5 at sP hPr
    clear hR hyl hyl' nF sF nD
    refine at_g (σ' := [some (.ref b), some (.ref a), some (.int (i : Nat)), some (.str tide), some (.ref pr), y5, y6, y7, y8]) rfl ?_
    have sa5 := sa.trans sP
    have Mk := marks_ok okE
    have hes : (prsW r c).length ≤ 10 := by unfold prsW; rw [List.length_map]; exact hnl
    generalize hes' : prsW r c = es at hPr okE Mk hes
    generalize hms : marksOf n es = ms at Mk
    -- due
    refine ⟨_, rfl, _, rfl, a, _, _, _, rfl, rfl, .inr (Same.tup sa5 ha), atI_nat hix, _, rfl, by omega, by omega, lc_map walk_range Same (fun a b => a.trans b) (fun j y F => ∃ t, y = .ref t ∧ F t = some (.tup ((cls n ms (mkOf ms ((0 + j : Nat) : Int))).map V.int))) (fun j y A B s ⟨t, e, p⟩ => ⟨t, e, s _ _ p⟩) (small1000 (by omega)) (Same.refl _) (fun _ _ _ _ _ => trivial) (fun j x D acc F H' hj nD sF nF hy B hB => ?_) (fun D ys F nD sF nF hyl hR => ?_)⟩
    · obtain ⟨rfl, rfl⟩ := hy
      refine hB _ F rfl nF fun Qt hq => ?_
      refine ⟨_, rfl, _, rfl, pr, _, es, rfl, hPr.same sF, by omega, fun p ns F' s' np ep pm pw => hq _ _ s' ⟨p, rfl, ?_⟩⟩
      have hbj : 0 ≤ (0 + (j : Int)) ∧ (0 + (j : Int)) < (n : Int) := by omega
      rw [ep, hung_eq Mk okE hbj (turns_fd es _ _) (hturns_closed es _) pm pw]
      have e0 : (0 + (j : Int)) = ((0 + j : Nat) : Int) := by omega
      rw [e0]
    obtain ⟨ks, ek, lk, tk, fk⟩ := ks_of (K := K) (F := F) (f := fun j => cls n ms (mkOf ms (j : Int))) (i := 0) hR
    have lkn : ks.length = n := by rw [lk, hyl, hN']; omega
    have sD : Same F (upd F D (.lst ys)) := same_new nF
    refine ⟨D, ks, rfl, by rw [← ek]; exact SqL.of upd_same, fun p hp => .inl (.inl (sD _ _ (tk p hp))), by omega, fun st Ls nst sub sup => ?_⟩
    have sS := sD.trans (same_new nst (o := SetTO P w st Ls))
    have kcls : ∀ p ∈ ks, ∃ bb : Int, (0 ≤ bb ∧ bb < n) ∧ p.2 = cls n ms (mkOf ms bb) := fun p hp => by
      obtain ⟨j, ej⟩ := List.getElem?_of_mem hp
      have hj : j < ks.length := (List.getElem?_eq_some_iff.mp ej).1
      exact ⟨((0 + j : Nat) : Int), by omega, fk j p ej⟩
    refine ⟨st, Ls, rfl, upd_same, fun p hp => .inl (.inl (sS _ _ (tk p (sub p hp)))), fun p hp => ?_, fun p hp p' hp' e => ?_, fun M dl pm ndM lM pw ndl => ?_⟩
    · obtain ⟨bb, hbb, e⟩ := kcls p (sub p hp)
      have hm : bb ∈ p.2 := by rw [e]; exact mem_cls.mpr ⟨hbb, rfl⟩
      cases h2 : p.2 with
      | nil => rw [h2] at hm; simp at hm
      | cons y r => exact ⟨y, r, rfl⟩
    · obtain ⟨b1, hb1, q1⟩ := kcls p (sub p hp)
      obtain ⟨b2, hb2, q2⟩ := kcls p' (sub p' hp')
      rw [q1, q2] at e ⊢
      exact cls_heads hb1 hb2 e
    have eM : M.map (·.2) = piecesOf n es := by
      have := (grp_of ms n).eq (cs := M.map (·.2)) (fun x => ?_) ndM (List.pairwise_map.mpr pw)
      · rw [this]; unfold piecesOf; rw [hms]
      constructor
      · intro hx
        obtain ⟨p, hp, e⟩ := List.mem_map.mp hx
        obtain ⟨bb, hbb, e2⟩ := kcls p (sub p (pm.mem_iff.mp hp))
        exact ⟨bb, hbb, by rw [← e, e2]⟩
      · intro ⟨bb, hbb, e⟩
        have hj : bb.toNat < ks.length := by omega
        have ej := List.getElem?_eq_getElem hj
        have e3 := fk bb.toNat _ ej
        have e4 : ((0 + bb.toNat : Nat) : Int) = bb := by omega
        have e5 : (ks[bb.toNat]).2 = x := by
          rw [e3, e]
          show cls n ms (mkOf ms ((0 + bb.toNat : Nat) : Int)) = _
          rw [e4]
        have := sup _ (List.mem_of_getElem? ej)
        rw [e5] at this
        obtain ⟨p, hp, e6⟩ := List.mem_map.mp this
        exact List.mem_map.mpr ⟨p, pm.mem_iff.mpr hp, e6⟩
    have sL := sS.trans (same_new ndl (o := .lst (M.map fun q => V.ref q.1)))
    have hdue : DpAll K (upd (upd (upd F D (.lst ys)) st (SetTO P w st Ls)) dl (.lst (M.map fun q => V.ref q.1))) (M.map fun q => V.ref q.1) ((piecesOf n es).map tupI) := by
      rw [← eM]
      exact dp_refs fun p hp => .inl (.inl (sL _ _ (tk p (sub p (pm.mem_iff.mp hp)))))
    have edl : (upd (upd (upd F D (.lst ys)) st (SetTO P w st Ls)) dl (.lst (M.map fun q => V.ref q.1))) dl = some (.lst (M.map fun q => V.ref q.1)) := upd_same
    have sa6 := sa5.trans (sF.trans sL)
    have s26 := sT.trans (sP.trans (sF.trans sL))
    generalize hX : (piecesOf n es).map tupI = X at hdue
    have okX : ∀ m : Nat, okD (m + 3) (.list X) := by
      intro m
      rw [← hX]
      refine ⟨?_, fun d hd => ?_⟩
      · rw [List.length_map]
        have h2 : (M.map (·.2)).length = M.length := List.length_map _
        rw [eM] at h2
        omega
      · obtain ⟨z, hz, rfl⟩ := List.mem_map.mp hd
        refine okD_ints m ?_
        rw [← eM] at hz
        obtain ⟨p, hp, e⟩ := List.mem_map.mp hz
        obtain ⟨bb, hbb, e2⟩ := kcls p (sub p (pm.mem_iff.mp hp))
        rw [← e, e2]
        have h1 : (cls n ms (mkOf ms bb)).length ≤ (rng n).length := List.length_filter_le _ _
        rw [rng_len] at h1
        omega
    clear kcls fk tk ek lk lkn sub sup pm ndM lM pw eM hR hyl
    refine at_g (σ' := [some (.ref b), some (.ref a), some (.int (i : Nat)), some (.str tide), some (.ref pr), some (.ref dl), y6, y7, y8]) rfl ?_
    refine at_h (fun G => DpAll K G (M.map fun q : Addr × List Int => V.ref q.1) X ∧ G dl = some (.lst (M.map fun q : Addr × List Int => V.ref q.1)) ∧ Same H1 G ∧ Same H2 G) ⟨hdue, edl, sa6, s26⟩ fun H6 ⟨hdue, edl, sa6, s26⟩ => ?_
    have hdl : ∀ {G : Hp}, Same H6 G → Dp K G (.ref dl) (.list X) := fun s => .lst (SqL.of (s _ _ edl)) (DpAll.same s _ hdue)
    have eX : ((piecesOf (basW (isRed tide) c).toNat (prsW (isRed tide) c)).map tupI) = X := by rw [hrd, hN, hes', hX]
    -- told
    refine ⟨_, rfl, _, rfl, .ref a, tide, c, rfl, cnAny_t (Dp.same sa6 _ hc), okc100, fun tl us G1 g1 ntl etl htl => ?_⟩
    rw [eX] at htl
    refine at_g (σ' := [some (.ref b), some (.ref a), some (.int (i : Nat)), some (.str tide), some (.ref pr), some (.ref dl), some (.ref tl), y7, y8]) rfl ?_
    -- same([told, pieces(..)], [due, due])
    refine ⟨_, rfl, _, rfl, _, rfl, .ref a, cnD c, rfl, Dp.same (sa6.trans g1) _ hc, okD_cn 3 (by omega), fun lv G2 g2 hlv => ?_⟩
    refine ⟨lv, tide, c, rfl, cnAny_l hlv, okc100, fun p2 us2 G3 g3 np2 ep2 hp2 => ?_⟩
    rw [eX] at hp2
    refine ⟨(by show 2 ≤ sizeLine; decide), fun q1 nq1 => ?_⟩
    have g4 : Same G3 (upd G3 q1 (.lst [.ref tl, .ref p2])) := same_new nq1
    refine ⟨_, rfl, _, rfl, (by show 2 ≤ sizeLine; decide), fun q2 nq2 => ?_⟩
    have g5 : Same (upd G3 q1 (.lst [.ref tl, .ref p2])) (upd (upd G3 q1 (.lst [.ref tl, .ref p2])) q2 (.lst [.ref dl, .ref dl])) := same_new nq2
    have g45 := g4.trans g5
    have g15 := g2.trans (g3.trans g45)
    refine ⟨.ref q1, .ref q2, .list [.list X, .list X], rfl, .lst (SqL.of (g5 _ _ upd_same)) (.cons (.lst (SqL.of (g15 _ _ etl)) (DpAll.same g15 _ htl)) (.cons (.lst (SqL.of (g45 _ _ ep2)) (DpAll.same g45 _ hp2)) .nil)), .lst (SqL.of upd_same) (.cons (hdl (g1.trans g15)) (.cons (hdl (g1.trans g15)) .nil)), ⟨by show 2 ≤ 1000; decide, fun d hd => ?_⟩, fun G6 g6 => ⟨true, rfl, iteF ?_⟩⟩
    · simp only [List.mem_cons, List.not_mem_nil, or_false] at hd
      rcases hd with rfl | rfl <;> exact okX 3
    have g16 := g15.trans g6
    -- told.append('more')
    refine ⟨_, rfl, .inl ⟨rfl, _, SqL.of (g16 _ _ etl)⟩, tl, us, _, rfl, rfl, g16 _ _ etl, ?_, ?_⟩
    · have h1 := DpAll.length htl
      rw [h1]
      have h2 := (okX 0).1
      exact small1000 h2
    have g7 : Same H6 (upd G6 tl (.lst (us ++ [.str "more"]))) := fun c o e => by
      rw [upd_ne (ne_of_none e ntl)]; exact g16 _ _ (g1 _ _ e)
    generalize upd G6 tl (.lst (us ++ [.str "more"])) = G7 at g7
    -- same(pieces(..), due)
    refine ⟨_, rfl, _, rfl, .ref a, tide, c, rfl, cnAny_t (Dp.same (sa6.trans g7) _ hc), okc100, fun p3 us3 G8 g8 np3 ep3 hp3 => ?_⟩
    rw [eX] at hp3
    refine ⟨_, rfl, .ref p3, .ref dl, .list X, rfl, .lst (SqL.of ep3) hp3, hdl (g7.trans g8), okX 4, fun G9 g9 => ⟨true, rfl, iteF ?_⟩⟩
    exact ⟨_, _, _, _, _, _, _, rfl, s26.trans (g7.trans (g8.trans g9))⟩
  · obtain ⟨y2, y3, y4, y5, y6, y7, y8, rfl, s3⟩ := h
    exact q _ (d1.trans (Dr.of d1.box (s0.trans s3)))
end
end XL
namespace XL
open PySem PySem.Spec PyProof.Rows L2
abbrev sLaw : Stmt := topS 15
section
variable {P : Program} {w : World} {K : PySem.W.Frag} {mg : Str → Option Value} {base : Heap}
abbrev nLaw : List Str := ["_law_script", "_law_cells_here", "_law_k", "_law_box_here", "_law_turn"]
theorem scLaw : FnScope nLaw ["_law_script"] (defScope sLaw) := ⟨rfl, rfl, rfl, by decide +kernel, rfl, by decide +kernel, by decide +kernel⟩
def spLaw (K : PySem.W.Frag) : Sp := fun vs H Q _ => ∃ (a : Addr) (ns : List Int), vs = [.ref a] ∧ SqL K H a (ns.map V.int) ∧ ns.length ≤ 63 ∧ ∀ H', Q (.bl true) H'
theorem ok_law {f fc fx fr : Addr} {fd fdc fdx fdr : FuncData} (F : Fun K "law" "law" sLaw f fd)
    (C : Fns P w K mg base 8 "_law_cells" ["_law_script", "_law_utmost"] (spCells K) fc fdc) (B : Fns P w K mg base 8 "_law_box" ["_law_cells_here", "_law_k"] (spBox K) fx fdx)
    (R : FnG P w K mg base 8 fr fdr ["_law_box_here"] spRight) (gR : mg "_law_right" = some (.ref fr)) (kR : PySem.W.keepIn K (.ref fr) = true) (bR : Binds K fdr ["_law_box_here"] []) (me : mg "len" = none) (ma : mg "all" = none) (mr : mg "range" = none) :
    FnG P w K mg base (8 + 1) f fd ["_law_script"] (spLaw K) := by
  refine okG F scLaw (fun vs H Q E h => ?_) (fun cdv A outer s H vs Q E hG hr h => ?_)
  · obtain ⟨a, ns, rfl, _⟩ := h
    rfl
  obtain ⟨a, ns, rfl, ha, hn, q⟩ := h
  refine ⟨_, pss_cons (ps_set (i := 1) scLaw.nd rfl (.inl rfl) (pe_fn C hr rfl (pa_cons (pv 0) (pa_cons pe_int pa_nil))))
    (pss_cons (ps_for PassesOwn.never rfl (pi_range1 rfl mr (pa_cons (pe_callB call_len_seq rfl me PySem.boot_len (pa_cons (pv 1) pa_nil)) pa_nil)) (pg_name (i := 2) scLaw.nd rfl (.inl rfl))
      (pss_cons (ps_set (i := 3) scLaw.nd rfl (.inr rfl) (pe_fn B hr rfl (pa_cons (pv 1) (pa_cons (pv 2) pa_nil))))
      (pss_one (ps_if (pt_not (pt_val (pe_callB (cr_all rfl) rfl ma boot_all (pa_cons (pe_lc (own := [("_law_turn", 4)]) (g := gName 4) (tt := tYes) rfl scLaw.nd (pi_range1 rfl mr (pa_cons pe_int pa_nil)) (blkOk_by (own := [("_law_turn", 4)]) (N := nLaw) (sc := defScope sLaw) (by decide +kernel))
        (fun _ _ _ _ _ => pg_name (i := 4) scLaw.nd rfl (Or.inl rfl)) (fun _ _ _ _ _ => pts_nil) (fun _ _ _ _ _ => pe_hide (pe_callG hG R hr rfl gR kR bR (pa_cons (pv 3) pa_nil)))) pa_nil)))) (pss_one (ps_ret pe_bl)) pss_nil))))
    (pss_one (ps_ret pe_bl))), ?_⟩
  refine ⟨_, rfl, a, ns, 3, rfl, ha, hn, by decide, by decide, fun p zs H1 s1 np ep z1 z2 => ?_⟩
  refine ⟨_, rfl, p, _, rfl, .inl (SqL.of ep), _, rfl, by rw [List.length_map]; omega, by rw [List.length_map]; omega, for_it walk_range (fun i σ H3 => ∃ y2 y3 y4, σ = [some (.ref a), some (.ref p), y2, y3, y4] ∧ H3 p = some (.lst (zs.map V.int))) ⟨none, none, none, rfl, ep⟩ (fun _ _ _ _ _ => trivial) (fun i x σ H3 H4 hi h hy => ?_) (fun σ H3 h => ?_)⟩
  · obtain ⟨y2, y3, y4, rfl, ep3⟩ := h
    obtain ⟨rfl, rfl⟩ := hy
    have hi' : i < zs.length := by rw [List.length_map] at hi; omega
    refine ⟨_, rfl, _, rfl, p, zs, i, by show [V.ref p, V.int (0 + (i : Int))] = _; rw [Int.zero_add], SqL.of ep3, hi', fun b x y nb => ?_⟩
    have hpb : p ≠ b := ne_of_none ep3 nb
    refine at_g (σ' := [some (.ref a), some (.ref p), some (.int (0 + i)), some (.ref b), y4]) rfl ?_
    have bx : Bx (upd H4 b (.lst [.int x, .int y, .int 0])) b := ⟨x, y, 0, upd_same⟩
    refine ⟨4, rfl, by decide, by decide, lc_map walk_range (Dr b) (fun a b => a.trans b) (fun i y F => y = .bl true) (fun i y A B _ p => p) (by decide) (Dr.refl bx) (fun _ _ _ _ _ => trivial) (fun j x D acc F H' hj nD dF nF hy B hB => ?_) (fun D ys F nD dF nF hl hR => ?_)⟩
    · obtain ⟨rfl, rfl⟩ := hy
      refine hB _ F rfl nF fun Qt hq => ?_
      exact ⟨_, rfl, b, rfl, dF.box, fun F' d => hq _ _ d rfl⟩
    · refine ⟨D, List.replicate ys.length true, rfl, ?_, ?_⟩
      · rw [← eq_true_map ys hR]; exact SqL.of upd_same
      · rw [all_true]
        refine ⟨true, rfl, iteF ⟨_, _, _, rfl, ?_⟩⟩
        have e3 : F p = some (.lst (zs.map V.int)) := dF.same p _ hpb (by rw [upd_ne hpb]; exact ep3)
        rw [upd_ne (ne_of_none e3 nF)]; exact e3
  · exact q H3
end

theorem all_mk {l : PySem.W.OpenLaw} {w : World} {K : PySem.W.Frag} {h : Heap} {mg : Str → Option Value} {fa f1 f2 f3 f4 f5 f6 f7 f8 f9 f10 f11 f12 f13 : Addr} (X : K.In h) (G : h.Ns mainGlobals mg) (hfa : mg "law" = some (.ref fa))
    {od1 an1 : Option Addr} {sl1 : Array (Option Value)} {oc1 kV1 dc1 pm1 cd1 ct1 : Value}
    {od2 an2 : Option Addr} {sl2 : Array (Option Value)} {oc2 kV2 dc2 pm2 cd2 ct2 : Value}
    {od3 an3 : Option Addr} {sl3 : Array (Option Value)} {oc3 kV3 dc3 pm3 cd3 ct3 : Value}
    {od4 an4 : Option Addr} {sl4 : Array (Option Value)} {oc4 kV4 dc4 pm4 cd4 ct4 : Value}
    {od5 an5 : Option Addr} {sl5 : Array (Option Value)} {oc5 kV5 dc5 pm5 cd5 ct5 : Value}
    {od6 an6 : Option Addr} {sl6 : Array (Option Value)} {oc6 kV6 dc6 pm6 cd6 ct6 : Value}
    {od7 an7 : Option Addr} {sl7 : Array (Option Value)} {oc7 kV7 dc7 pm7 cd7 ct7 : Value}
    {od8 an8 : Option Addr} {sl8 : Array (Option Value)} {oc8 kV8 dc8 pm8 cd8 ct8 : Value}
    {od9 an9 : Option Addr} {sl9 : Array (Option Value)} {oc9 kV9 dc9 pm9 cd9 ct9 : Value}
    {od10 an10 : Option Addr} {sl10 : Array (Option Value)} {oc10 kV10 dc10 pm10 cd10 ct10 : Value}
    {od11 an11 : Option Addr} {sl11 : Array (Option Value)} {oc11 kV11 dc11 pm11 cd11 ct11 : Value}
    {od12 an12 : Option Addr} {sl12 : Array (Option Value)} {oc12 kV12 dc12 pm12 cd12 ct12 : Value}
    {od13 an13 : Option Addr} {sl13 : Array (Option Value)} {oc13 kV13 dc13 pm13 cd13 ct13 : Value}
    {t_RED : Tok}
    (a1 : PySem.W.nsIn K mainGlobals "basins_of" = some (some (.ref f1)))
    (l1 : K.lookup f1 = some ⟨oc1, od1, .func (PySem.W.fnOf "basins_of" "basins_of" (defArgs sBas) (defBody sBas) (defScope sBas) .none kV1 dc1 pm1 an1 cd1 ct1), sl1⟩)
    (d1 : PySem.W.codeIn K cd1 "basins_of" = true)
    (k1 : PySem.W.keepIn K (.ref f1) = true)
    (a2 : PySem.W.nsIn K mainGlobals "ends_of" = some (some (.ref f2)))
    (l2 : K.lookup f2 = some ⟨oc2, od2, .func (PySem.W.fnOf "ends_of" "ends_of" (defArgs sEnds) (defBody sEnds) (defScope sEnds) .none kV2 dc2 pm2 an2 cd2 ct2), sl2⟩)
    (d2 : PySem.W.codeIn K cd2 "ends_of" = true)
    (k2 : PySem.W.keepIn K (.ref f2) = true)
    (a3 : PySem.W.nsIn K mainGlobals "pieces" = some (some (.ref f3)))
    (l3 : K.lookup f3 = some ⟨oc3, od3, .func (PySem.W.fnOf "pieces" "pieces" (defArgs sPieces) (defBody sPieces) (defScope sPieces) .none kV3 dc3 pm3 an3 cd3 ct3), sl3⟩)
    (d3 : PySem.W.codeIn K cd3 "pieces" = true)
    (k3 : PySem.W.keepIn K (.ref f3) = true)
    (a4 : PySem.W.nsIn K mainGlobals "_law_take" = some (some (.ref f4)))
    (l4 : K.lookup f4 = some ⟨oc4, od4, .func (PySem.W.fnOf "_law_take" "_law_take" (defArgs sTake) (defBody sTake) (defScope sTake) .none kV4 dc4 pm4 an4 cd4 ct4), sl4⟩)
    (d4 : PySem.W.codeIn K cd4 "_law_take" = true)
    (k4 : PySem.W.keepIn K (.ref f4) = true)
    (a5 : PySem.W.nsIn K mainGlobals "_law_of" = some (some (.ref f5)))
    (l5 : K.lookup f5 = some ⟨oc5, od5, .func (PySem.W.fnOf "_law_of" "_law_of" (defArgs sOf) (defBody sOf) (defScope sOf) .none kV5 dc5 pm5 an5 cd5 ct5), sl5⟩)
    (d5 : PySem.W.codeIn K cd5 "_law_of" = true)
    (k5 : PySem.W.keepIn K (.ref f5) = true)
    (a6 : PySem.W.nsIn K mainGlobals "_law_canal" = some (some (.ref f6)))
    (l6 : K.lookup f6 = some ⟨oc6, od6, .func (PySem.W.fnOf "_law_canal" "_law_canal" (defArgs sCanal) (defBody sCanal) (defScope sCanal) .none kV6 dc6 pm6 an6 cd6 ct6), sl6⟩)
    (d6 : PySem.W.codeIn K cd6 "_law_canal" = true)
    (k6 : PySem.W.keepIn K (.ref f6) = true)
    (a7 : PySem.W.nsIn K mainGlobals "_law_same" = some (some (.ref f7)))
    (l7 : K.lookup f7 = some ⟨oc7, od7, .func (PySem.W.fnOf "_law_same" "_law_same" (defArgs sSame) (defBody sSame) (defScope sSame) .none kV7 dc7 pm7 an7 cd7 ct7), sl7⟩)
    (d7 : PySem.W.codeIn K cd7 "_law_same" = true)
    (k7 : PySem.W.keepIn K (.ref f7) = true)
    (a8 : PySem.W.nsIn K mainGlobals "_law_lists" = some (some (.ref f8)))
    (l8 : K.lookup f8 = some ⟨oc8, od8, .func (PySem.W.fnOf "_law_lists" "_law_lists" (defArgs sLists) (defBody sLists) (defScope sLists) .none kV8 dc8 pm8 an8 cd8 ct8), sl8⟩)
    (d8 : PySem.W.codeIn K cd8 "_law_lists" = true)
    (k8 : PySem.W.keepIn K (.ref f8) = true)
    (a9 : PySem.W.nsIn K mainGlobals "_law_cells" = some (some (.ref f9)))
    (l9 : K.lookup f9 = some ⟨oc9, od9, .func (PySem.W.fnOf "_law_cells" "_law_cells" (defArgs sCells) (defBody sCells) (defScope sCells) .none kV9 dc9 pm9 an9 cd9 ct9), sl9⟩)
    (d9 : PySem.W.codeIn K cd9 "_law_cells" = true)
    (k9 : PySem.W.keepIn K (.ref f9) = true)
    (a10 : PySem.W.nsIn K mainGlobals "_law_box" = some (some (.ref f10)))
    (l10 : K.lookup f10 = some ⟨oc10, od10, .func (PySem.W.fnOf "_law_box" "_law_box" (defArgs sBox) (defBody sBox) (defScope sBox) .none kV10 dc10 pm10 an10 cd10 ct10), sl10⟩)
    (d10 : PySem.W.codeIn K cd10 "_law_box" = true)
    (k10 : PySem.W.keepIn K (.ref f10) = true)
    (a11 : PySem.W.nsIn K mainGlobals "_law_hung" = some (some (.ref f11)))
    (l11 : K.lookup f11 = some ⟨oc11, od11, .func (PySem.W.fnOf "_law_hung" "_law_hung" (defArgs sHung) (defBody sHung) (defScope sHung) .none kV11 dc11 pm11 an11 cd11 ct11), sl11⟩)
    (d11 : PySem.W.codeIn K cd11 "_law_hung" = true)
    (k11 : PySem.W.keepIn K (.ref f11) = true)
    (a12 : PySem.W.nsIn K mainGlobals "_law_right" = some (some (.ref f12)))
    (l12 : K.lookup f12 = some ⟨oc12, od12, .func (PySem.W.fnOf "_law_right" "_law_right" (defArgs sRight) (defBody sRight) (defScope sRight) .none kV12 dc12 pm12 an12 cd12 ct12), sl12⟩)
    (d12 : PySem.W.codeIn K cd12 "_law_right" = true)
    (k12 : PySem.W.keepIn K (.ref f12) = true)
    (a13 : PySem.W.nsIn K mainGlobals "law" = some (some (.ref f13)))
    (l13 : K.lookup f13 = some ⟨oc13, od13, .func (PySem.W.fnOf "law" "law" (defArgs sLaw) (defBody sLaw) (defScope sLaw) .none kV13 dc13 pm13 an13 cd13 ct13), sl13⟩)
    (d13 : PySem.W.codeIn K cd13 "law" = true)
    (k13 : PySem.W.keepIn K (.ref f13) = true)
    (z_isinstance : PySem.W.nsIn K mainGlobals "isinstance" = some none)
    (z_list : PySem.W.nsIn K mainGlobals "list" = some none)
    (z_tuple : PySem.W.nsIn K mainGlobals "tuple" = some none)
    (z_zip : PySem.W.nsIn K mainGlobals "zip" = some none)
    (z_len : PySem.W.nsIn K mainGlobals "len" = some none)
    (z_all : PySem.W.nsIn K mainGlobals "all" = some none)
    (z_bool : PySem.W.nsIn K mainGlobals "bool" = some none)
    (z_str : PySem.W.nsIn K mainGlobals "str" = some none)
    (z_int : PySem.W.nsIn K mainGlobals "int" = some none)
    (z_range : PySem.W.nsIn K mainGlobals "range" = some none)
    (z_enumerate : PySem.W.nsIn K mainGlobals "enumerate" = some none)
    (z_abs : PySem.W.nsIn K mainGlobals "abs" = some none)
    (z_sorted : PySem.W.nsIn K mainGlobals "sorted" = some none)
    (z_set : PySem.W.nsIn K mainGlobals "set" = some none)
    (v_RED : PySem.W.nsIn K mainGlobals "RED" = some (some (.str "red" t_RED)))
    : ∃ fd : FuncData, (∀ (s : Shared) (v : Value), BindsTo s fd ⟨[v], []⟩ [("_law_script", v)]) ∧ ∀ base : Heap, K.In base → base.Ns mainGlobals mg → FnG l.prog w K mg base 9 fa fd ["_law_script"] (spLaw K) := by
  have e := hfa.symm.trans (PySem.W.mg_of X G a13)
  cases e
  have F1 := fun_mk (st := sBas) l1 d1 k1
  have b1 := F1.binds (ps := ["canal", "water"]) fun _ _ _ _ _ _ us hl => match us, hl with | [_, _], _ => rfl
  have g1 := PySem.W.mg_of X G a1
  have F2 := fun_mk (st := sEnds) l2 d2 k2
  have b2 := F2.binds (ps := ["lock", "water"]) fun _ _ _ _ _ _ us hl => match us, hl with | [_, _], _ => rfl
  have g2 := PySem.W.mg_of X G a2
  have F3 := fun_mk (st := sPieces) l3 d3 k3
  have b3 := F3.binds (ps := ["canal", "water"]) fun _ _ _ _ _ _ us hl => match us, hl with | [_, _], _ => rfl
  have g3 := PySem.W.mg_of X G a3
  have F4 := fun_mk (st := sTake) l4 d4 k4
  have b4 := F4.binds (ps := ["_law_box_here", "_law_size"]) fun _ _ _ _ _ _ us hl => match us, hl with | [_, _], _ => rfl
  have g4 := PySem.W.mg_of X G a4
  have F5 := fun_mk (st := sOf) l5 d5 k5
  have b5 := F5.binds (ps := ["_law_box_here", "_law_some"]) fun _ _ _ _ _ _ us hl => match us, hl with | [_, _], _ => rfl
  have g5 := PySem.W.mg_of X G a5
  have F6 := fun_mk (st := sCanal) l6 d6 k6
  have b6 := F6.binds (ps := ["_law_box_here", "_law_wide", "_law_utmost"]) fun _ _ _ _ _ _ us hl => match us, hl with | [_, _, _], _ => rfl
  have g6 := PySem.W.mg_of X G a6
  have F7 := fun_mk (st := sSame) l7 d7 k7
  have b7 := F7.binds (ps := ["_law_found", "_law_due"]) fun _ _ _ _ _ _ us hl => match us, hl with | [_, _], _ => rfl
  have g7 := PySem.W.mg_of X G a7
  have F8 := fun_mk (st := sLists) l8 d8 k8
  have b8 := F8.binds (ps := ["_law_what"]) fun _ _ _ _ _ _ us hl => match us, hl with | [_], _ => rfl
  have g8 := PySem.W.mg_of X G a8
  have F9 := fun_mk (st := sCells) l9 d9 k9
  have b9 := F9.binds (ps := ["_law_script", "_law_utmost"]) fun _ _ _ _ _ _ us hl => match us, hl with | [_, _], _ => rfl
  have g9 := PySem.W.mg_of X G a9
  have F10 := fun_mk (st := sBox) l10 d10 k10
  have b10 := F10.binds (ps := ["_law_cells_here", "_law_k"]) fun _ _ _ _ _ _ us hl => match us, hl with | [_, _], _ => rfl
  have g10 := PySem.W.mg_of X G a10
  have F11 := fun_mk (st := sHung) l11 d11 k11
  have b11 := F11.binds (ps := ["_law_pairs", "_law_basin"]) fun _ _ _ _ _ _ us hl => match us, hl with | [_, _], _ => rfl
  have g11 := PySem.W.mg_of X G a11
  have F12 := fun_mk (st := sRight) l12 d12 k12
  have b12 := F12.binds (ps := ["_law_box_here"]) fun _ _ _ _ _ _ us hl => match us, hl with | [_], _ => rfl
  have g12 := PySem.W.mg_of X G a12
  have F13 := fun_mk (st := sLaw) l13 d13 k13
  have m_isinstance := PySem.W.mg_none_of X G z_isinstance
  have m_list := PySem.W.mg_none_of X G z_list
  have m_tuple := PySem.W.mg_none_of X G z_tuple
  have m_zip := PySem.W.mg_none_of X G z_zip
  have m_len := PySem.W.mg_none_of X G z_len
  have m_all := PySem.W.mg_none_of X G z_all
  have m_bool := PySem.W.mg_none_of X G z_bool
  have m_str := PySem.W.mg_none_of X G z_str
  have m_int := PySem.W.mg_none_of X G z_int
  have m_range := PySem.W.mg_none_of X G z_range
  have m_enumerate := PySem.W.mg_none_of X G z_enumerate
  have m_abs := PySem.W.mg_none_of X G z_abs
  have m_sorted := PySem.W.mg_none_of X G z_sorted
  have m_set := PySem.W.mg_none_of X G z_set
  have c_RED := PySem.W.mg_of X G v_RED
  refine ⟨PySem.W.fnOf "law" "law" (defArgs sLaw) (defBody sLaw) (defScope sLaw) .none kV13 dc13 pm13 an13 cd13 ct13, fun s v => .of_eq rfl, fun base _ _ => ?_⟩
  have Bs : Fns l.prog w K mg base 6 "basins_of" ["canal", "water"] (spBas K) f1 _ := ⟨ok_bas (k := 5) F1 c_RED, g1, k1, b1⟩
  have En : Fns l.prog w K mg base 6 "ends_of" ["lock", "water"] (spEnds K) f2 _ := ⟨ok_ends (k := 5) F2 c_RED, g2, k2, b2⟩
  have Pc : Fns l.prog w K mg base 7 "pieces" ["canal", "water"] (spPieces K) f3 _ := ⟨ok_pieces F3 Bs En m_list m_range m_enumerate m_tuple, g3, k3, b3⟩
  have C : Fns l.prog w K mg base 7 "_law_canal" ["_law_box_here", "_law_wide", "_law_utmost"] (spCanal K) f6 _ := ⟨ok_canal (k := 4) F6 F4 b4 g4 F5 b5 g5 m_len m_list m_tuple m_range, g6, k6, b6⟩
  have L : Fns l.prog w K mg base 7 "_law_lists" ["_law_what"] (spLists K 7) f8 _ := ⟨ok_lists F8 b8 g8 m_isinstance m_list m_tuple 7, g8, k8, b8⟩
  have S : Fns l.prog w K mg base 7 "_law_same" ["_law_found", "_law_due"] (spSame K 7) f7 _ := ⟨ok_same F7 b7 g7 m_isinstance m_list m_tuple m_zip m_len m_all m_bool m_str m_int 7, g7, k7, b7⟩
  have Hu : Fns l.prog w K mg base 7 "_law_hung" ["_law_pairs", "_law_basin"] (spHung K) f11 _ := ⟨ok_hung (k := 6) F11 m_range m_len m_tuple m_sorted, g11, k11, b11⟩
  have Ce : Fns l.prog w K mg base 8 "_law_cells" ["_law_script", "_law_utmost"] (spCells K) f9 _ := ⟨ok_cells (k := 7) F9 m_list m_enumerate, g9, k9, b9⟩
  have Bo : Fns l.prog w K mg base 8 "_law_box" ["_law_cells_here", "_law_k"] (spBox K) f10 _ := ⟨ok_box (k := 7) F10 m_abs m_int, g10, k10, b10⟩
  have R := FnG.of (ok_right F12 C Hu Pc S L (kb2 F3 fun _ _ _ _ _ _ _ _ => rfl) m_enumerate m_range m_sorted m_set)
  exact ok_law F13 Ce Bo R g12 k12 b12 m_len m_all m_range
end XL
open PySem PySem.W PyProof.Rows
set_option maxRecDepth 100000 in
set_option maxHeartbeats 0 in
theorem PySem.Challenge.cw_crosslocks_k04_pieces_of_a_water_holds : PySem.Challenge.rw_crosslocks_k04_pieces_of_a_water.Holds := by
  w_on; o_law; k_head; (case hw => w_witness2)
  k_fill
  refine XL.walkG (l := PySem.Challenge.rw_crosslocks_k04_pieces_of_a_water) (n := 63) (k := 9) (x := "_law_script") (sp := XL.spLaw) rfl (by decide) rfl ⟨rfl, by decide, by decide⟩ (fun w h Y => PySem.W.kIn_of Y) ?F (fun K H a ns hl _ hS => ⟨a, ns, rfl, hS, hl, fun _ => rfl⟩)
  case F =>
    intro w mg fa h KX G hmg
    refine' XL.all_mk KX G hmg ?a1 ?l1 ?d1 ?k1 ?a2 ?l2 ?d2 ?k2 ?a3 ?l3 ?d3 ?k3 ?a4 ?l4 ?d4 ?k4 ?a5 ?l5 ?d5 ?k5 ?a6 ?l6 ?d6 ?k6 ?a7 ?l7 ?d7 ?k7 ?a8 ?l8 ?d8 ?k8 ?a9 ?l9 ?d9 ?k9 ?a10 ?l10 ?d10 ?k10 ?a11 ?l11 ?d11 ?k11 ?a12 ?l12 ?d12 ?k12 ?a13 ?l13 ?d13 ?k13 ?z_isinstance ?z_list ?z_tuple ?z_zip ?z_len ?z_all ?z_bool ?z_str ?z_int ?z_range ?z_enumerate ?z_abs ?z_sorted ?z_set ?v_RED
    (case a1 => k_is)
    (case l1 => k_is)
    (case d1 => k_is)
    (case k1 => k_is)
    (case a2 => k_is)
    (case l2 => k_is)
    (case d2 => k_is)
    (case k2 => k_is)
    (case a3 => k_is)
    (case l3 => k_is)
    (case d3 => k_is)
    (case k3 => k_is)
    (case a4 => k_is)
    (case l4 => k_is)
    (case d4 => k_is)
    (case k4 => k_is)
    (case a5 => k_is)
    (case l5 => k_is)
    (case d5 => k_is)
    (case k5 => k_is)
    (case a6 => k_is)
    (case l6 => k_is)
    (case d6 => k_is)
    (case k6 => k_is)
    (case a7 => k_is)
    (case l7 => k_is)
    (case d7 => k_is)
    (case k7 => k_is)
    (case a8 => k_is)
    (case l8 => k_is)
    (case d8 => k_is)
    (case k8 => k_is)
    (case a9 => k_is)
    (case l9 => k_is)
    (case d9 => k_is)
    (case k9 => k_is)
    (case a10 => k_is)
    (case l10 => k_is)
    (case d10 => k_is)
    (case k10 => k_is)
    (case a11 => k_is)
    (case l11 => k_is)
    (case d11 => k_is)
    (case k11 => k_is)
    (case a12 => k_is)
    (case l12 => k_is)
    (case d12 => k_is)
    (case k12 => k_is)
    (case a13 => k_is)
    (case l13 => k_is)
    (case d13 => k_is)
    (case k13 => k_is)
    (case z_isinstance => k_is)
    (case z_list => k_is)
    (case z_tuple => k_is)
    (case z_zip => k_is)
    (case z_len => k_is)
    (case z_all => k_is)
    (case z_bool => k_is)
    (case z_str => k_is)
    (case z_int => k_is)
    (case z_range => k_is)
    (case z_enumerate => k_is)
    (case z_abs => k_is)
    (case z_sorted => k_is)
    (case z_set => k_is)
    (case v_RED => k_is)
